/- Layer 13, the program's table: use. -/
import Derived.Test.YtgippbbbfpkhhaaOnE
namespace Go.Proofs.Ytgippbbbfpkhhaa
open Go.RowKit Go.Maps

section
variable {w w' : World} {F F' : Nat → Prop} {g n c n' c' : Nat} {t t' : Tb} {A A' : Option Addr} {es es' : List Cle} {dn dn2 : Bool} {mp : Option Nat}
theorem PTm.fin (h : PTm w F g t A n c es dn mp) (hp : PRm w' F' g t' A' n' c' es' dn2 mp) (hk : Kp (RG g (.slice A n c)) w w') (hF : ∀ k, F k → F' k) (hids : dn2 = true → dn = true ∧ t.row.map (·.id) = t'.row.map (·.id)) : PTm w' F' g t' A' n' c' es' dn2 mp :=
  ⟨hp, fun e => by
    obtain ⟨e1, e2⟩ := hids e
    have hoff := h.offMap e1
    obtain ⟨b, L, rfl, h2, h3, h4⟩ := h.map e1
    refine ⟨b, L, rfl, hF b h2, h3.kp hk ?_, h4.ids e2⟩
    rintro (e | e)
    · exact hoff b rfl b (.inr e) rfl
    · exact hoff b rfl b (.inl (.inl e)) rfl⟩
attribute [local go_sem ↓] bCls_eq
attribute [local go_sem] run_bCls
/-- What is known behind the look at the place. -/
structure Mid3 (w W : World) (F : Nat → Prop) (g : Nat) (t : Tb) (A : Option Addr) (n c : Nat) (es : List Cle) (dn : Bool) (mp : Option Nat) (id num : Nat) (busy : Bool) (s : Sl3) (rep : List UInt8) : Prop where
  p : PRm W F g t A n c es dn mp
  k : Kp (fun k => k = g) w W
  box : Bk W w.heap.size 64 #[.int .u64 (id : Int), .int .u64 (num : Int), .bool busy, s3W s]
  s : W.ownsRow 0 5 1 (s3W s) rep.length (u8s rep)
/-- Ahead of the append. -/
structure Mid4 (w W : World) (F : Nat → Prop) (g : Nat) (t : Tb) (b : Nat) (n c k : Nat) (es : List Cle) (dn : Bool) (mp : Option Nat) (id num : Nat) (busy : Bool) (s : Sl3) (rep : List UInt8) : Prop where
  p : PRm W F g { t with row := t.row.eraseIdx k } (some ⟨b, 0, none⟩) n c (es.eraseIdx k) dn mp
  k : Kp (RG g (.slice (some ⟨b, 0, none⟩) n c)) w W
  box : Bk W w.heap.size 64 #[.int .u64 (id : Int), .int .u64 (num : Int), .bool busy, s3W s]
  s : W.ownsRow 0 5 1 (s3W s) rep.length (u8s rep)
theorem Mid3.cut {W w3 : World} {b k id num : Nat} {busy : Bool} {s : Sl3} {rep : List UInt8} (h : Mid3 w W F g t (some ⟨b, 0, none⟩) n c es dn mp id num busy s rep) (hlt : ∀ k, F k → k < w.heap.size) (hk : k < n) (hrow : w3.ownsRow 0 64 4 (.slice (some ⟨b, 0, none⟩) (es.eraseIdx k).length c) (es.eraseIdx k).length (clC (es.eraseIdx k))) (hk3 : Kp (fun j => j = b) W w3) :
    w3.cell? ⟨g, 1, none⟩ = some (.slice (some ⟨b, 0, none⟩) n c) ∧ w3.frozen? ⟨g, 1, none⟩ = false ∧
    Hid (Mid4 w (w3.setCell ⟨g, 1, none⟩ (.slice (some ⟨b, 0, none⟩) (es.eraseIdx k).length c)) F g t b (es.eraseIdx k).length c k es dn mp id num busy s rep) := by
  obtain ⟨h1, h2, h3⟩ := h.p.cut hk hrow hk3
  obtain ⟨h4, h5⟩ := h3.out
  have hb := h.p.row.foot b rfl
  have hg := h.p.fg
  have hsb := hlt b hb
  have hsg := hlt g hg
  refine ⟨h1, h2, Lib.hid ⟨h4, (h.k.mono fun k e => .inl e).trans h5, h.box.kp h5 ?_, own_kp h.s h5 (h.p.offRep h.s)⟩⟩
  rintro (e | e)
  · omega
  · injection e with e
    have e' : b = w.heap.size := e
    omega
def CutE (w : World) (F : Nat → Prop) (g : Nat) (t : Tb) (b n c k : Nat) (es : List Cle) (dn : Bool) (mp : Option Nat) (id num : Nat) (busy : Bool) (s : Sl3) (rep : List UInt8) (e : Ending) (w3 : World) : Prop :=
  e = .returned (.slice (some ⟨b, 0, none⟩) (es.eraseIdx k).length c) ∧ w3.cell? ⟨g, 1, none⟩ = some (.slice (some ⟨b, 0, none⟩) n c) ∧ w3.frozen? ⟨g, 1, none⟩ = false ∧
    Hid (Mid4 w (w3.setCell ⟨g, 1, none⟩ (.slice (some ⟨b, 0, none⟩) (es.eraseIdx k).length c)) F g t b (es.eraseIdx k).length c k es dn mp id num busy s rep)
theorem Mid3.del {W : World} {b k id num : Nat} {busy : Bool} {s : Sl3} {rep : List UInt8} (h : Mid3 w W F g t (some ⟨b, 0, none⟩) n c es dn mp id num busy s rep) (hlt : ∀ k, F k → k < w.heap.size) (hk : k < n) :
    Calls Try.prog 56 #[.slice (some ⟨b, 0, none⟩) n c, .int .i64 (k : Int), .int .i64 ((k : Int) + 1)] W (CutE w F g t b n c k es dn mp id num busy s rep) := by
  obtain ⟨A0, c0, e0, hnc, _⟩ := h.p.row.shape
  injection e0 with _ e2 e3
  subst e3
  have hel := h.p.elen
  have ho := h.p.row.own
  rw [hel] at ho
  refine (cdelete_any ho hel.symm hk (by omega)).mono ?_
  rintro e w3 ⟨rfl, hrow, hk3⟩
  obtain ⟨h1, h2, h3⟩ := h.cut hlt hk hrow hk3
  exact ⟨rfl, h1, h2, h3⟩
def UsedK (w : World) (F : Nat → Prop) (g : Nat) (t : Tb) (v : Value) (e : Ending) (w' : World) : Prop := e = .returned (.tuple #[]) ∧ Hid (∃ F', PT w' F' g t ∧ Mv F F' w w' ∧ Kp (RG g v) w w')
set_option maxRecDepth 100000 in
set_option maxHeartbeats 4000000 in
theorem cuse_any (h : PTm w F g t A n c es dn mp) (hn : n ≤ 200) (k : Nat) (hk : k < n) (cl : Cl) (s : Sl3) (hs : w.ownsRow 0 5 1 (s3W s) cl.rep.length (u8s cl.rep)) (hF : ∀ k, (s3W s).ownBlock = some k → F k) (hid : cl.id = (t.at_ k).id) :
    Calls Try.prog 33 #[.pointer (some ⟨g, 0, none⟩), .int .i64 (k : Int), clV cl s] w (UsedK w F g { t with row := useC k cl t.row } (.slice A n c)) := by
  obtain ⟨id, num, busy, rep⟩ := cl
  obtain ⟨sA, sN, sC⟩ := s
  have hel := h.elen
  have hlen := h.len
  have hkr : k < t.row.length := by omega
  rw [Tb.at_eq t hkr] at hid
  obtain ⟨b, c0, ev, -⟩ := h.row.cell k (by omega)
  injection ev with ev ev2 ev3
  clear ev2 ev3
  subst ev
  unfold clV s3W
  dsimp only at hid ⊢
  obtain ⟨W1, hW1⟩ : ∃ W1, W1 = w.alloc (.cells #[.int .u64 (id : Int), .int .u64 (num : Int), .bool busy, .slice sA sN sC] 64) := ⟨_, rfl⟩
  have hb0 : Below w.heap.size w W1 := by rw [hW1]; exact bel1N _ _
  have hkb : Bk W1 w.heap.size 64 #[.int .u64 (id : Int), .int .u64 (num : Int), .bool busy, .slice sA sN sC] := by rw [hW1]; exact Bk.new w _ _
  have h1 := h.toPRm.below hb0
  have hs1 := own_kp (F := fun _ => False) hs (Kp.of_below hb0) (fun _ _ h => h)
  have HM1 : Hid (Mid3 w W1 F g t (some ⟨b, 0, none⟩) n c es dn mp id num busy (sA, sN, sC) rep) := Lib.hid ⟨h1, Kp.of_below hb0, hkb, hs1⟩
  have c1 := h1.cells.2.1
  have f1 := h1.frz 1
  have HR := Lib.hid (reorder_any h1)
  have HM2 : Hid (∀ W, PTm W F g t (some ⟨b, 0, none⟩) n c es false mp → Kp (fun k => k = g) W1 W → Mid3 w W F g t (some ⟨b, 0, none⟩) n c es false mp id num busy (sA, sN, sC) rep) := Lib.hid fun W hp hk => ⟨hp.toPRm, (Kp.of_below hb0).trans hk, hkb.kp hk (by have := h.bk.lt; omega), own_kp hs1 hk (fun k e e2 => h1.offRep (l := rep) hs1 k e (.inl e2))⟩
  obtain ⟨iw, hiw, hzw, hsw, hbw⟩ := info_parts Try.infoClient
  have Hiw := Lib.hid hiw
  have Hzw := Lib.hid hzw
  have Hsw := Lib.hid hsw
  have Hbw := Lib.hid hbw
  have HC1 : Hid (∀ u ∈ [Value.int .u64 (id : Int), .int .u64 (num : Int), .bool busy, .slice sA sN sC], u.oneCell' = true) := by
    intro u hu
    simp only [List.mem_cons, List.not_mem_nil, or_false] at hu
    rcases hu with rfl | rfl | rfl | rfl <;> rfl
  have Hlt := Lib.hid h.lt
  have HF := Lib.hid hF
  have hel2 : (es.eraseIdx k).length = n - 1 := by rw [List.length_eraseIdx_of_lt (by omega)]; omega
  have HEND : Hid (∀ dn2 W (A' : Option Addr) (n' c' : Nat) es' F', PRm W F' g { t with row := t.row.eraseIdx k ++ [⟨id, num, busy, rep⟩] } A' n' c' es' dn2 mp → Kp (RG g (.slice (some ⟨b, 0, none⟩) n c)) w W → (∀ k, F k → F' k) → (dn2 = true → dn = true ∧ k + 1 = n) → PT W F' g { t with row := useC k ⟨id, num, busy, rep⟩ t.row }) := Lib.hid fun dn2 W A' n' c' es' F' hp hk2 hF hd => by
    refine ⟨A', n', c', es', dn2, mp, h.fin hp hk2 hF fun e => ⟨(hd e).1, ?_⟩⟩
    exact use_ids (c := ⟨id, num, busy, rep⟩) (by have := (hd e).2; omega) hid
  have e1 : IntKind.i64.wrap ((k : Int) + 1) = (k : Int) + 1 := by rw [IntKind.wrap_i64]; omega
  have e2 : IntKind.i64.wrap ((n : Int) - 1) = (n : Int) - 1 := by rw [IntKind.wrap_i64]; omega
  obtain ⟨n1, hn1⟩ : ∃ n1, n1 = (es.eraseIdx k).length := ⟨_, rfl⟩
  have hn1' : n1 ≤ 200 := by omega
  have HN1 := Lib.hid hn1
  have HW1 := Lib.hid hW1
  clear h h1 hs hs1 hkb hb0 hF hid hiw hzw hsw hbw hW1 hel hlen hel2 hn1 hkr
  by_cases hlast : k + 1 < n
  · have m1 : (k : Int) < (n : Int) - 1 := by omega
    clear HM1
    go_enter Try.func33, Try.ntmps33
    go_upto_region 1 with (fail)
    rw [← HW1.out]
    go_wp2_with fail
    refine HR.out.mono ?_
    rintro e W2 ⟨rfl, HX2⟩
    have HM3 := Lib.hid (HM2.out W2 HX2.out.1 HX2.out.2)
    have HD2 : Hid (false = true → dn = true ∧ k + 1 = n) := Lib.hid fun e => by cases e
    clear HX2 HM2 HR c1 f1
    have c2 := HM3.out.p.cells.2.1
    have HDl := Lib.hid (HM3.out.del Hlt.out hk)
    go_wp2_with fail
    refine HDl.out.mono ?_
    rintro e w3 ⟨rfl, g1, gf, HM4⟩
    rw [← HN1.out] at HM4 ⊢
    clear c2 HDl HM3
    go_upto_region 4 with (fail)
    obtain ⟨w4, hw4⟩ : ∃ w4, w4 = w3.setCell ⟨g, 1, none⟩ (.slice (some ⟨b, 0, none⟩) n1 c) := ⟨_, rfl⟩
    rw [← hw4] at HM4 ⊢
    clear hw4 g1 gf
    have hM := HM4.out
    have c4 : w4.cell? ⟨g, 1, none⟩ = some (.slice (some ⟨b, 0, none⟩) n1 c) := hM.p.cells.2.1
    have f4 := hM.p.frz 1
    have j0 : w4.cell? ⟨w.heap.size, 0, none⟩ = some (.int .u64 (id : Int)) := hM.box.cell 0
    have j1 : w4.cell? ⟨w.heap.size, 1, none⟩ = some (.int .u64 (num : Int)) := hM.box.cell 1
    have j2 : w4.cell? ⟨w.heap.size, 2, none⟩ = some (.bool busy) := hM.box.cell 2
    have j3 : w4.cell? ⟨w.heap.size, 3, none⟩ = some (.slice sA sN sC) := hM.box.cell 3
    have c4a : (w4.alloc (.cells #[.int .u64 (id : Int), .int .u64 (num : Int), .bool busy, .slice sA sN sC] 64)).cell? ⟨g, 1, none⟩ = some (.slice (some ⟨b, 0, none⟩) n1 c) := (((Below.refl _ w4).alloc (Nat.le_refl _) _).cell (p := ⟨g, 1, none⟩) hM.p.bk.lt).trans c4
    have hbA : Below w4.heap.size w4 ((w4.drewN 1).alloc (.cells #[.int .u64 (id : Int), .int .u64 (num : Int), .bool busy, .slice sA sN sC] 64)) := ((Below.refl _ _).drew).alloc (Nat.le_refl _) _
    have HA : Hid (((w4.drewN 1).alloc (.cells #[.int .u64 (id : Int), .int .u64 (num : Int), .bool busy, .slice sA sN sC] 64)).ownsRow 0 64 4 (.slice (some ⟨b, 0, none⟩) n1 c) n1 (clC (es.eraseIdx k))) := Lib.hid (by have := (hM.p.below hbA).row.own; rwa [hM.p.elen] at this)
    have HP : Hid (∀ v' w5, App ((w4.drewN 1).alloc (.cells #[.int .u64 (id : Int), .int .u64 (num : Int), .bool busy, .slice sA sN sC] 64)) w5 0 64 4 (.slice (some ⟨b, 0, none⟩) n1 c) v' n1 1 (clC (es.eraseIdx k)) [Value.int .u64 (id : Int), .int .u64 (num : Int), .bool busy, .slice sA sN sC] →
        w5.cell? ⟨g, 1, none⟩ = some (.slice (some ⟨b, 0, none⟩) n1 c) ∧ w5.frozen? ⟨g, 1, none⟩ = false ∧ Hid (∃ F', PT (w5.setCell ⟨g, 1, none⟩ v') F' g { t with row := useC k ⟨id, num, busy, rep⟩ t.row } ∧ Mv F F' w (w5.setCell ⟨g, 1, none⟩ v') ∧ Kp (RG g (.slice (some ⟨b, 0, none⟩) n c)) w (w5.setCell ⟨g, 1, none⟩ v'))) := Lib.hid fun v' w5 ha => by
      obtain ⟨q1, q2, HX⟩ := hM.p.push (cl := ⟨id, num, busy, rep⟩) (s := (sA, sN, sC)) hbA ha hM.s HF.out
      obtain ⟨A', c', F', rfl, hp, hm, hk5, hFF⟩ := HX.out
      have hkt : Kp (RG g (.slice (some ⟨b, 0, none⟩) n c)) w (w5.setCell ⟨g, 1, none⟩ (.slice A' (n1 + 1) c')) := (hM.k.mono fun k e => by
        rcases e with e | e
        · exact .inl e
        · exact .inr e).trans (hk5.mono fun k e => by
        rcases e with e | e
        · exact .inl e
        · exact .inr e)
      refine ⟨q1, q2, Lib.hid ⟨F', HEND.out _ _ _ _ _ _ _ hp hkt hFF HD2.out, ⟨hkt.mono fun k e => hM.p.rg k (by
        rcases e with e | e
        · exact .inl e
        · exact .inr e), fun k e => ?_⟩, hkt⟩⟩
      rcases hm.new k e with h' | h'
      · exact .inl h'
      · have := hM.k.size; exact .inr (by omega)
    clear hM hbA HM4 HEND
    go_wp2_with fail
    go_region_law ((refine step_append_app _ rfl _ _ 47 (by rfl) 0 64 iw _ 4 48 Try.underlying47 Hiw.out Hzw.out Hsw.out Hbw.out rfl (.slice (some ⟨b, 0, none⟩) n1 c) n1 _ (by rfl) HA.out (some ⟨w4.heap.size, 0, none⟩) 1 1 [.int .u64 (id : Int), .int .u64 (num : Int), .bool busy, .slice sA sN sC] (by rfl) (by rfl) (by intro e; cases e) (new_cells _ _ _ rfl) HC1.out (by unfold maxLen; omega) (by omega) (by simp) ?_); intro v' w5 happ; (obtain ⟨Av', cv', rfl, _⟩ := own_shape happ.own); (obtain ⟨k2, kf, HX⟩ := HP.out _ _ happ))
    all_goals
      go_wp2
      go_end0
      exact ⟨rfl, HX⟩
  · have hlast' : k + 1 = n := by omega
    have m1 : ¬ (k : Int) < (n : Int) - 1 := by omega
    have HM3 := HM1
    have HD2 : Hid (dn = true → dn = true ∧ k + 1 = n) := Lib.hid fun e => ⟨e, hlast'⟩
    clear HM1 HR HM2 hlast
    go_enter Try.func33, Try.ntmps33
    go_upto_region 1 with (fail)
    rw [← HW1.out]
    obtain ⟨W2, hW2⟩ : ∃ W2, W2 = W1 := ⟨_, rfl⟩
    rw [← hW2] at c1 f1 HM3 ⊢
    clear hW2
    clear HW1
    have c2 := HM3.out.p.cells.2.1
    have HDl := Lib.hid (HM3.out.del Hlt.out hk)
    go_wp2_with fail
    refine HDl.out.mono ?_
    rintro e w3 ⟨rfl, g1, gf, HM4⟩
    rw [← HN1.out] at HM4 ⊢
    clear c2 HDl HM3
    go_upto_region 4 with (fail)
    obtain ⟨w4, hw4⟩ : ∃ w4, w4 = w3.setCell ⟨g, 1, none⟩ (.slice (some ⟨b, 0, none⟩) n1 c) := ⟨_, rfl⟩
    rw [← hw4] at HM4 ⊢
    clear hw4 g1 gf
    have hM := HM4.out
    have c4 : w4.cell? ⟨g, 1, none⟩ = some (.slice (some ⟨b, 0, none⟩) n1 c) := hM.p.cells.2.1
    have f4 := hM.p.frz 1
    have j0 : w4.cell? ⟨w.heap.size, 0, none⟩ = some (.int .u64 (id : Int)) := hM.box.cell 0
    have j1 : w4.cell? ⟨w.heap.size, 1, none⟩ = some (.int .u64 (num : Int)) := hM.box.cell 1
    have j2 : w4.cell? ⟨w.heap.size, 2, none⟩ = some (.bool busy) := hM.box.cell 2
    have j3 : w4.cell? ⟨w.heap.size, 3, none⟩ = some (.slice sA sN sC) := hM.box.cell 3
    have c4a : (w4.alloc (.cells #[.int .u64 (id : Int), .int .u64 (num : Int), .bool busy, .slice sA sN sC] 64)).cell? ⟨g, 1, none⟩ = some (.slice (some ⟨b, 0, none⟩) n1 c) := (((Below.refl _ w4).alloc (Nat.le_refl _) _).cell (p := ⟨g, 1, none⟩) hM.p.bk.lt).trans c4
    have hbA : Below w4.heap.size w4 ((w4.drewN 1).alloc (.cells #[.int .u64 (id : Int), .int .u64 (num : Int), .bool busy, .slice sA sN sC] 64)) := ((Below.refl _ _).drew).alloc (Nat.le_refl _) _
    have HA : Hid (((w4.drewN 1).alloc (.cells #[.int .u64 (id : Int), .int .u64 (num : Int), .bool busy, .slice sA sN sC] 64)).ownsRow 0 64 4 (.slice (some ⟨b, 0, none⟩) n1 c) n1 (clC (es.eraseIdx k))) := Lib.hid (by have := (hM.p.below hbA).row.own; rwa [hM.p.elen] at this)
    have HP : Hid (∀ v' w5, App ((w4.drewN 1).alloc (.cells #[.int .u64 (id : Int), .int .u64 (num : Int), .bool busy, .slice sA sN sC] 64)) w5 0 64 4 (.slice (some ⟨b, 0, none⟩) n1 c) v' n1 1 (clC (es.eraseIdx k)) [Value.int .u64 (id : Int), .int .u64 (num : Int), .bool busy, .slice sA sN sC] →
        w5.cell? ⟨g, 1, none⟩ = some (.slice (some ⟨b, 0, none⟩) n1 c) ∧ w5.frozen? ⟨g, 1, none⟩ = false ∧ Hid (∃ F', PT (w5.setCell ⟨g, 1, none⟩ v') F' g { t with row := useC k ⟨id, num, busy, rep⟩ t.row } ∧ Mv F F' w (w5.setCell ⟨g, 1, none⟩ v') ∧ Kp (RG g (.slice (some ⟨b, 0, none⟩) n c)) w (w5.setCell ⟨g, 1, none⟩ v'))) := Lib.hid fun v' w5 ha => by
      obtain ⟨q1, q2, HX⟩ := hM.p.push (cl := ⟨id, num, busy, rep⟩) (s := (sA, sN, sC)) hbA ha hM.s HF.out
      obtain ⟨A', c', F', rfl, hp, hm, hk5, hFF⟩ := HX.out
      have hkt : Kp (RG g (.slice (some ⟨b, 0, none⟩) n c)) w (w5.setCell ⟨g, 1, none⟩ (.slice A' (n1 + 1) c')) := (hM.k.mono fun k e => by
        rcases e with e | e
        · exact .inl e
        · exact .inr e).trans (hk5.mono fun k e => by
        rcases e with e | e
        · exact .inl e
        · exact .inr e)
      refine ⟨q1, q2, Lib.hid ⟨F', HEND.out _ _ _ _ _ _ _ hp hkt hFF HD2.out, ⟨hkt.mono fun k e => hM.p.rg k (by
        rcases e with e | e
        · exact .inl e
        · exact .inr e), fun k e => ?_⟩, hkt⟩⟩
      rcases hm.new k e with h' | h'
      · exact .inl h'
      · have := hM.k.size; exact .inr (by omega)
    clear hM hbA HM4 HEND
    go_wp2_with fail
    go_region_law ((refine step_append_app _ rfl _ _ 47 (by rfl) 0 64 iw _ 4 48 Try.underlying47 Hiw.out Hzw.out Hsw.out Hbw.out rfl (.slice (some ⟨b, 0, none⟩) n1 c) n1 _ (by rfl) HA.out (some ⟨w4.heap.size, 0, none⟩) 1 1 [.int .u64 (id : Int), .int .u64 (num : Int), .bool busy, .slice sA sN sC] (by rfl) (by rfl) (by intro e; cases e) (new_cells _ _ _ rfl) HC1.out (by unfold maxLen; omega) (by omega) (by simp) ?_); intro v' w5 happ; (obtain ⟨Av', cv', rfl, _⟩ := own_shape happ.own); (obtain ⟨k2, kf, HX⟩ := HP.out _ _ happ))
    all_goals
      go_wp2
      go_end0
      exact ⟨rfl, HX⟩
end
end Go.Proofs.Ytgippbbbfpkhhaa
