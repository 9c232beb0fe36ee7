/- Layer 13, the program's table: add, use. -/
import Derived.Test.YtgippbbbfpkhhaaOnD
namespace Go.Proofs.Ytgippbbbfpkhhaa
open Go.RowKit Go.Maps

theorem map_eraseC {α β : Type} (f : α → β) (l : List α) (k : Nat) : (l.eraseIdx k).map f = (l.map f).eraseIdx k := by
  induction l generalizing k with
  | nil => rfl
  | cons x r ih => cases k with
    | zero => rfl
    | succ k => simp [ih]
theorem findC_ids (id : Nat) : ∀ {l l' : List Cl}, l.map (·.id) = l'.map (·.id) → findC id l = findC id l' := by
  intro l l' h
  have h1 : ∀ l : List Cl, findC id l = (l.map (·.id)).findIdx? fun x => x == id := by
    intro l
    unfold findC
    rw [List.findIdx?_map]
    rfl
  rw [h1, h1, h]
theorem PlaceOk.ids {L : List (Nat × Int)} {l l' : List Cl} (h : PlaceOk L l) (he : l.map (·.id) = l'.map (·.id)) : PlaceOk L l' :=
  ⟨by have := congrArg List.length he; simp only [List.length_map] at this; rw [← this]; exact h.1, fun id => by rw [← findC_ids id he]; exact h.2 id⟩
theorem use_ids {l : List Cl} {k : Nat} {c : Cl} (hk : k + 1 = l.length) (hc : c.id = (l[k]'(by omega)).id) : l.map (·.id) = (useC k c l).map (·.id) := by
  unfold useC
  have h1 : l = l.take k ++ [l[k]'(by omega)] := by
    rw [← List.take_succ_eq_append_getElem (by omega), List.take_of_length_le (by omega)]
  have h2 : l.eraseIdx k = l.take k := by
    rw [List.eraseIdx_eq_take_drop_succ, List.drop_eq_nil_of_le (by omega), List.append_nil]
  rw [h2]
  have h3 := congrArg (List.map (·.id)) h1
  rw [List.map_append] at h3
  refine h3.trans ?_
  rw [List.map_append]
  simp only [List.map_cons, List.map_nil]
  rw [hc]
def bCls (parts : Array (Nat × Value)) : Sem Value := Instr.buildSlice 47 1 parts
theorem bCls_eq (parts : Array (Nat × Value)) : Instr.buildSlice 47 1 parts = bCls parts := rfl
theorem run_bCls (a b c d : Value) (W : World) : (bCls #[(0, .agg #[a, b, c, d])]).run Try.prog W = .ok (.slice (some ⟨W.heap.size, 0, none⟩) 1 1) (W.alloc (.cells #[a, b, c, d] 64)) := by
  obtain ⟨iw, hiw, hzw, hsw, hbw⟩ := info_parts Try.infoClient
  exact run_buildSlice_one (P := Try.prog) Try.underlying47 hiw hzw hsw (by rfl) (by omega) (by omega) (.agg #[a, b, c, d]) rfl W
section
variable {w : World} {F : Nat → Prop} {g n c : Nat} {t : Tb} {A : Option Addr} {es : List Cle} {dn : Bool} {mp : Option Nat}
/-- The blocks that are written when the row turns. -/
def RG (g : Nat) (v : Value) : Nat → Prop := fun j => j = g ∨ v.ownBlock = some j
theorem PRm.rg (h : PRm w F g t A n c es dn mp) : ∀ k, RG g (.slice A n c) k → F k := by
  rintro k (rfl | e)
  · exact h.fg
  · exact h.row.foot k e
theorem PRm.offRep (h : PRm w F g t A n c es dn mp) {s : Sl3} {l : List UInt8} (hs : w.ownsRow 0 5 1 (s3W s) l.length (u8s l)) : ∀ k, (s3W s).ownBlock = some k → ¬ RG g (.slice A n c) k := by
  rintro k e (rfl | e2)
  · exact own_not_bkC h.bk hs (by decide) k e rfl
  · exact own_sepC hs h.row.own (by decide) k e e2
/-- A client more, behind all others. -/
theorem PRm.push {w1 w3 : World} {v' : Value} {cl : Cl} {s : Sl3} (h : PRm w F g t A n c es dn mp) (hb1 : Below w.heap.size w w1) (ha : App w1 w3 0 64 4 (.slice A n c) v' n 1 (clC es) (clE (cl, s))) (hs : w.ownsRow 0 5 1 (s3W s) cl.rep.length (u8s cl.rep)) (hF : ∀ k, (s3W s).ownBlock = some k → F k) :
    w3.cell? ⟨g, 1, none⟩ = some (.slice A n c) ∧ w3.frozen? ⟨g, 1, none⟩ = false ∧
    Hid (∃ A' c' F', v' = .slice A' (n + 1) c' ∧ PRm (w3.setCell ⟨g, 1, none⟩ v') F' g { t with row := t.row ++ [cl] } A' (n + 1) c' (es ++ [(cl, s)]) dn mp ∧ Mv F F' w (w3.setCell ⟨g, 1, none⟩ v') ∧ Kp (RG g (.slice A n c)) w (w3.setCell ⟨g, 1, none⟩ v') ∧ (∀ k, F k → F' k)) := by
  have hel := h.elen
  have h1 := h.below hb1
  have hk3 : Kp (fun k => (Value.slice A n c).ownBlock = some k) w1 w3 := Kp.of_row ha.grow (fun g e => e)
  have hk4 : Kp (fun k => k = g) w3 (w3.setCell ⟨g, 1, none⟩ v') := Kp.set_ (F := fun k => k = g) (p := ⟨g, 1, none⟩) rfl _
  have hbk3 := h1.bk.kp hk3 (fun e => h1.row.off h1.bk (by decide) (by decide) g (.inl e) rfl)
  have hk : Kp (RG g (.slice A n c)) w (w3.setCell ⟨g, 1, none⟩ v') := ((Kp.of_below hb1).trans (hk3.mono fun k e => .inr e)).trans (hk4.mono fun k e => .inl e)
  obtain ⟨A', c', rfl, hnc, hcm⟩ := own_shape ha.own
  have hblk : ∀ k, (Value.slice A' (n + 1) c').ownBlock = some k → (Value.slice A n c).ownBlock = some k ∨ w.heap.size ≤ k := fun k e => by
    rcases ha.block with h' | h'
    · exact .inl (h' ▸ e)
    · rw [h'] at e; injection e with e; have := hb1.size; exact .inr (by omega)
  refine ⟨hbk3.cell 1, hbk3.frozen 1, Lib.hid ⟨A', c', fun k => F k ∨ (Value.slice A' (n + 1) c').ownBlock = some k, rfl, ⟨hbk3.set_ 1 _, ⟨?_, ?_, fun k e => .inr e, ?_⟩, by rw [List.map_append, h.eq]; rfl, by rw [List.length_append, ← h.len]; rfl, .inl h.fg, ?_⟩, ⟨hk.mono h.rg, fun k e => ?_⟩, hk, fun k e => .inl e⟩⟩
  · rw [clC_app, List.length_append, hel]
    have := own_kp ha.own hk4 (fun k e e2 => own_not_bkC hbk3 ha.own (by decide) k e e2)
    simpa [clC] using this
  · intro e he
    rcases List.mem_append.1 he with he | he
    · exact own_kp (h.row.each e he) hk (h.offRep (h.row.each e he))
    · rw [List.mem_singleton.1 he]
      exact own_kp hs hk (h.offRep hs)
  · intro e he k e2
    rcases List.mem_append.1 he with he | he
    · exact .inl (h.row.bods e he k e2)
    · rw [List.mem_singleton.1 he] at e2
      exact .inl (hF k e2)
  · rintro k (e | e)
    · exact Nat.lt_of_lt_of_le (h.lt k e) hk.size
    · have := (ha.own.lt k e).2
      simpa [World.setCell] using this
  · rcases e with e | e
    · exact .inl e
    · rcases hblk k e with h' | h'
      · exact .inl (h.row.foot k h')
      · exact .inr h'
/-- A client less. -/
theorem PRm.cut {w3 : World} {b k : Nat} (h : PRm w F g t (some ⟨b, 0, none⟩) n c es dn mp) (hk : k < n) (hrow : w3.ownsRow 0 64 4 (.slice (some ⟨b, 0, none⟩) (es.eraseIdx k).length c) (es.eraseIdx k).length (clC (es.eraseIdx k))) (hk3 : Kp (fun j => j = b) w w3) :
    w3.cell? ⟨g, 1, none⟩ = some (.slice (some ⟨b, 0, none⟩) n c) ∧ w3.frozen? ⟨g, 1, none⟩ = false ∧
    Hid (PRm (w3.setCell ⟨g, 1, none⟩ (.slice (some ⟨b, 0, none⟩) (es.eraseIdx k).length c)) F g { t with row := t.row.eraseIdx k } (some ⟨b, 0, none⟩) (es.eraseIdx k).length c (es.eraseIdx k) dn mp ∧
      Kp (RG g (.slice (some ⟨b, 0, none⟩) n c)) w (w3.setCell ⟨g, 1, none⟩ (.slice (some ⟨b, 0, none⟩) (es.eraseIdx k).length c))) := by
  have hel := h.elen
  have hbg : g ≠ b := fun e => h.row.off h.bk (by decide) (by decide) b (.inl rfl) e.symm
  have hbk3 := h.bk.kp hk3 hbg
  have hk4 : Kp (fun k => k = g) w3 (w3.setCell ⟨g, 1, none⟩ (.slice (some ⟨b, 0, none⟩) (es.eraseIdx k).length c)) := Kp.set_ (F := fun k => k = g) (p := ⟨g, 1, none⟩) rfl _
  have hkk : Kp (RG g (.slice (some ⟨b, 0, none⟩) n c)) w (w3.setCell ⟨g, 1, none⟩ (.slice (some ⟨b, 0, none⟩) (es.eraseIdx k).length c)) := (hk3.mono fun k e => .inr (by rw [e]; rfl)).trans (hk4.mono fun k e => .inl e)
  refine ⟨hbk3.cell 1, hbk3.frozen 1, Lib.hid ⟨⟨hbk3.set_ 1 _, ⟨own_kp hrow hk4 (fun k e e2 => own_not_bkC hbk3 hrow (by decide) k e e2), fun e he => ?_, fun k e => h.row.foot k e, fun e he => h.row.bods e ((List.eraseIdx_sublist _ _).subset he)⟩, by rw [map_eraseC, h.eq], ?_, h.fg, fun k e => Nat.lt_of_lt_of_le (h.lt k e) hkk.size⟩, hkk⟩⟩
  · have he' := (List.eraseIdx_sublist _ _).subset he
    exact own_kp (h.row.each e he') hkk (h.offRep (h.row.each e he'))
  · have hl := h.len
    rw [List.length_eraseIdx_of_lt (by omega)]
    show _ = (t.row.eraseIdx k).length
    rw [List.length_eraseIdx_of_lt (by omega)]
    omega
attribute [local go_sem ↓] bCls_eq
attribute [local go_sem] run_bCls
def UsedE (w : World) (F : Nat → Prop) (g : Nat) (t : Tb) (r : Value) (e : Ending) (w' : World) : Prop := e = .returned r ∧ Hid (∃ F', PT w' F' g t ∧ Mv F F' w w')
set_option maxRecDepth 100000 in
set_option maxHeartbeats 4000000 in
theorem add_any (h : PTm w F g t A n c es dn mp) (hn : n ≤ 200) (cl : Cl) (s : Sl3) (hs : w.ownsRow 0 5 1 (s3W s) cl.rep.length (u8s cl.rep)) (hF : ∀ k, (s3W s).ownBlock = some k → F k) :
    Calls Try.prog 32 #[.pointer (some ⟨g, 0, none⟩), clV cl s] w (UsedE w F g { t with row := t.row ++ [cl] } (.int .i64 (t.row.length : Int))) := by
  obtain ⟨id, num, busy, rep⟩ := cl
  obtain ⟨sA, sN, sC⟩ := s
  unfold clV s3W
  dsimp only
  obtain ⟨W1, hW1⟩ : ∃ W1, W1 = w.alloc (.cells #[.int .u64 (id : Int), .int .u64 (num : Int), .bool busy, .slice sA sN sC] 64) := ⟨_, rfl⟩
  have hb0 : Below w.heap.size w W1 := by rw [hW1]; exact bel1N _ _
  have hkb : Bk W1 w.heap.size 64 #[.int .u64 (id : Int), .int .u64 (num : Int), .bool busy, .slice sA sN sC] := by rw [hW1]; exact Bk.new w _ _
  have h1 := h.toPRm.below hb0
  have c1 := h1.cells.2.1
  have f1 := h1.frz 1
  have HW := Lib.hid hW1
  have j0 : W1.cell? ⟨w.heap.size, 0, none⟩ = some (.int .u64 (id : Int)) := hkb.cell 0
  have j1 : W1.cell? ⟨w.heap.size, 1, none⟩ = some (.int .u64 (num : Int)) := hkb.cell 1
  have j2 : W1.cell? ⟨w.heap.size, 2, none⟩ = some (.bool busy) := hkb.cell 2
  have j3 : W1.cell? ⟨w.heap.size, 3, none⟩ = some (.slice sA sN sC) := hkb.cell 3
  obtain ⟨iw, hiw, hzw, hsw, hbw⟩ := info_parts Try.infoClient
  have c1a : (W1.alloc (.cells #[.int .u64 (id : Int), .int .u64 (num : Int), .bool busy, .slice sA sN sC] 64)).cell? ⟨g, 1, none⟩ = some (.slice A n c) := (((Below.refl _ W1).alloc (Nat.le_refl _) _).cell (p := ⟨g, 1, none⟩) h1.bk.lt).trans c1
  have hbA : Below W1.heap.size W1 ((W1.drewN 1).alloc (.cells #[.int .u64 (id : Int), .int .u64 (num : Int), .bool busy, .slice sA sN sC] 64)) := ((Below.refl _ _).drew).alloc (Nat.le_refl _) _
  have hbA0 := below_then hb0 hbA
  have HA : Hid (((W1.drewN 1).alloc (.cells #[.int .u64 (id : Int), .int .u64 (num : Int), .bool busy, .slice sA sN sC] 64)).ownsRow 0 64 4 (.slice A n c) n (clC es)) := Lib.hid (by have := (h1.below hbA).row.own; rwa [h.elen] at this)
  have HC1 : Hid (∀ u ∈ [Value.int .u64 (id : Int), .int .u64 (num : Int), .bool busy, .slice sA sN sC], u.oneCell' = true) := by
    intro u hu
    simp only [List.mem_cons, List.not_mem_nil, or_false] at hu
    rcases hu with rfl | rfl | rfl | rfl <;> rfl
  have HP : Hid (∀ v' w3, App ((W1.drewN 1).alloc (.cells #[.int .u64 (id : Int), .int .u64 (num : Int), .bool busy, .slice sA sN sC] 64)) w3 0 64 4 (.slice A n c) v' n 1 (clC es) [Value.int .u64 (id : Int), .int .u64 (num : Int), .bool busy, .slice sA sN sC] →
      w3.cell? ⟨g, 1, none⟩ = some (.slice A n c) ∧ w3.frozen? ⟨g, 1, none⟩ = false ∧
      Hid (∃ A' c' F', v' = .slice A' (n + 1) c' ∧ PRm (w3.setCell ⟨g, 1, none⟩ v') F' g { t with row := t.row ++ [⟨id, num, busy, rep⟩] } A' (n + 1) c' (es ++ [(⟨id, num, busy, rep⟩, (sA, sN, sC))]) dn mp ∧ Mv F F' w (w3.setCell ⟨g, 1, none⟩ v') ∧ Kp (RG g (.slice A n c)) w (w3.setCell ⟨g, 1, none⟩ v') ∧ (∀ k, F k → F' k))) := Lib.hid fun v' w3 ha => h.toPRm.push (cl := ⟨id, num, busy, rep⟩) (s := (sA, sN, sC)) hbA0 ha hs hF
  have Hiw := Lib.hid hiw
  have Hzw := Lib.hid hzw
  have Hsw := Lib.hid hsw
  have Hbw := Lib.hid hbw
  rw [← h.len]
  clear h h1 hs hF hkb hW1 hb0 hbA hbA0 hiw hzw hsw hbw
  go_enter Try.func32, Try.ntmps32
  go_upto_region 1 with (fail)
  rw [← HW.out]
  go_wp2_with fail
  go_region_law ((refine step_append_app _ rfl _ _ 47 (by rfl) 0 64 iw _ 4 48 Try.underlying47 Hiw.out Hzw.out Hsw.out Hbw.out rfl (.slice A n c) n _ (by rfl) HA.out (some ⟨W1.heap.size, 0, none⟩) 1 1 [.int .u64 (id : Int), .int .u64 (num : Int), .bool busy, .slice sA sN sC] (by rfl) (by rfl) (by intro e; cases e) (new_cells _ _ _ rfl) HC1.out (by unfold maxLen; omega) (by omega) (by simp) ?_); intro v' w3 happ; (obtain ⟨Av', cv', rfl, _⟩ := own_shape happ.own); (obtain ⟨k2, kf, HX⟩ := HP.out _ _ happ))
  all_goals
    clear happ c1 c1a j0 j1 j2 j3
    obtain ⟨A', c', F', ev, hp, hm, hk, hFF⟩ := HX.out
    injection ev with ev1 ev2 ev3
    subst ev1 ev3
    clear ev2
    have HR := Lib.hid (reorder_any hp)
    have HM := Lib.hid hm
    clear hp hm hk hFF HX
    go_wp2_with fail
    refine HR.out.mono ?_
    rintro e w5 ⟨rfl, HY⟩
    obtain ⟨hp5, hk5⟩ := HY.out
    have d1 : w5.cell? ⟨g, 1, none⟩ = some (.slice Av' (n + 1) cv') := hp5.cells.2.1
    have e1 : IntKind.i64.wrap (((n + 1 : Nat) : Int) - 1) = (n : Int) := by rw [IntKind.wrap_i64]; omega
    have HZ : Hid (∃ F', PT w5 F' g { t with row := t.row ++ [⟨id, num, busy, rep⟩] } ∧ Mv F F' w w5) := Lib.hid ⟨_, ⟨_, _, _, _, _, _, hp5⟩, HM.out.trans (Mv.of (hk5.mono fun k e => e ▸ hp5.fg))⟩
    clear hp5 hk5 HY
    go_wp2
    go_ret
    exact ⟨rfl, HZ⟩
end
end Go.Proofs.Ytgippbbbfpkhhaa

/- Layer 13, the program's table: use. -/
namespace Go.Proofs.Ytgippbbbfpkhhaa
open Go.RowKit Go.Maps

section
variable {w w' : World} {F F' : Nat → Prop} {g n c n' c' : Nat} {t t' : Tb} {A A' : Option Addr} {es es' : List Cle} {dn dn2 : Bool} {mp : Option Nat}
theorem PTm.fin (h : PTm w F g t A n c es dn mp) (hp : PRm w' F' g t' A' n' c' es' dn2 mp) (hk : Kp (RG g (.slice A n c)) w w') (hF : ∀ k, F k → F' k) (hids : dn2 = true → dn = true ∧ t.row.map (·.id) = t'.row.map (·.id)) : PTm w' F' g t' A' n' c' es' dn2 mp :=
  ⟨hp, fun e => by
    obtain ⟨e1, e2⟩ := hids e
    have hoff := h.offMap e1
    obtain ⟨b, L, rfl, h2, h3, h4⟩ := h.map e1
    refine ⟨b, L, rfl, hF b h2, h3.kp hk ?_, h4.ids e2⟩
    rintro (e | e)
    · exact hoff b rfl b (.inr e) rfl
    · exact hoff b rfl b (.inl (.inl e)) rfl⟩
attribute [local go_sem ↓] bCls_eq
attribute [local go_sem] run_bCls
/-- What is known behind the look at the place. -/
structure Mid3 (w W : World) (F : Nat → Prop) (g : Nat) (t : Tb) (A : Option Addr) (n c : Nat) (es : List Cle) (dn : Bool) (mp : Option Nat) (id num : Nat) (busy : Bool) (s : Sl3) (rep : List UInt8) : Prop where
  p : PRm W F g t A n c es dn mp
  k : Kp (fun k => k = g) w W
  box : Bk W w.heap.size 64 #[.int .u64 (id : Int), .int .u64 (num : Int), .bool busy, s3W s]
  s : W.ownsRow 0 5 1 (s3W s) rep.length (u8s rep)
/-- Ahead of the append. -/
structure Mid4 (w W : World) (F : Nat → Prop) (g : Nat) (t : Tb) (b : Nat) (n c k : Nat) (es : List Cle) (dn : Bool) (mp : Option Nat) (id num : Nat) (busy : Bool) (s : Sl3) (rep : List UInt8) : Prop where
  p : PRm W F g { t with row := t.row.eraseIdx k } (some ⟨b, 0, none⟩) n c (es.eraseIdx k) dn mp
  k : Kp (RG g (.slice (some ⟨b, 0, none⟩) n c)) w W
  box : Bk W w.heap.size 64 #[.int .u64 (id : Int), .int .u64 (num : Int), .bool busy, s3W s]
  s : W.ownsRow 0 5 1 (s3W s) rep.length (u8s rep)
theorem Mid3.cut {W w3 : World} {b k id num : Nat} {busy : Bool} {s : Sl3} {rep : List UInt8} (h : Mid3 w W F g t (some ⟨b, 0, none⟩) n c es dn mp id num busy s rep) (hlt : ∀ k, F k → k < w.heap.size) (hk : k < n) (hrow : w3.ownsRow 0 64 4 (.slice (some ⟨b, 0, none⟩) (es.eraseIdx k).length c) (es.eraseIdx k).length (clC (es.eraseIdx k))) (hk3 : Kp (fun j => j = b) W w3) :
    w3.cell? ⟨g, 1, none⟩ = some (.slice (some ⟨b, 0, none⟩) n c) ∧ w3.frozen? ⟨g, 1, none⟩ = false ∧
    Hid (Mid4 w (w3.setCell ⟨g, 1, none⟩ (.slice (some ⟨b, 0, none⟩) (es.eraseIdx k).length c)) F g t b (es.eraseIdx k).length c k es dn mp id num busy s rep) := by
  obtain ⟨h1, h2, h3⟩ := h.p.cut hk hrow hk3
  obtain ⟨h4, h5⟩ := h3.out
  have hb := h.p.row.foot b rfl
  have hg := h.p.fg
  have hsb := hlt b hb
  have hsg := hlt g hg
  refine ⟨h1, h2, Lib.hid ⟨h4, (h.k.mono fun k e => .inl e).trans h5, h.box.kp h5 ?_, own_kp h.s h5 (h.p.offRep h.s)⟩⟩
  rintro (e | e)
  · omega
  · injection e with e
    have e' : b = w.heap.size := e
    omega
def CutE (w : World) (F : Nat → Prop) (g : Nat) (t : Tb) (b n c k : Nat) (es : List Cle) (dn : Bool) (mp : Option Nat) (id num : Nat) (busy : Bool) (s : Sl3) (rep : List UInt8) (e : Ending) (w3 : World) : Prop :=
  e = .returned (.slice (some ⟨b, 0, none⟩) (es.eraseIdx k).length c) ∧ w3.cell? ⟨g, 1, none⟩ = some (.slice (some ⟨b, 0, none⟩) n c) ∧ w3.frozen? ⟨g, 1, none⟩ = false ∧
    Hid (Mid4 w (w3.setCell ⟨g, 1, none⟩ (.slice (some ⟨b, 0, none⟩) (es.eraseIdx k).length c)) F g t b (es.eraseIdx k).length c k es dn mp id num busy s rep)
theorem Mid3.del {W : World} {b k id num : Nat} {busy : Bool} {s : Sl3} {rep : List UInt8} (h : Mid3 w W F g t (some ⟨b, 0, none⟩) n c es dn mp id num busy s rep) (hlt : ∀ k, F k → k < w.heap.size) (hk : k < n) :
    Calls Try.prog 56 #[.slice (some ⟨b, 0, none⟩) n c, .int .i64 (k : Int), .int .i64 ((k : Int) + 1)] W (CutE w F g t b n c k es dn mp id num busy s rep) := by
  obtain ⟨A0, c0, e0, hnc, _⟩ := h.p.row.shape
  injection e0 with _ e2 e3
  subst e3
  have hel := h.p.elen
  have ho := h.p.row.own
  rw [hel] at ho
  refine (cdelete_any ho hel.symm hk (by omega)).mono ?_
  rintro e w3 ⟨rfl, hrow, hk3⟩
  obtain ⟨h1, h2, h3⟩ := h.cut hlt hk hrow hk3
  exact ⟨rfl, h1, h2, h3⟩
def UsedK (w : World) (F : Nat → Prop) (g : Nat) (t : Tb) (v : Value) (e : Ending) (w' : World) : Prop := e = .returned (.tuple #[]) ∧ Hid (∃ F', PT w' F' g t ∧ Mv F F' w w' ∧ Kp (RG g v) w w')
set_option maxRecDepth 100000 in
set_option maxHeartbeats 4000000 in
theorem cuse_any (h : PTm w F g t A n c es dn mp) (hn : n ≤ 200) (k : Nat) (hk : k < n) (cl : Cl) (s : Sl3) (hs : w.ownsRow 0 5 1 (s3W s) cl.rep.length (u8s cl.rep)) (hF : ∀ k, (s3W s).ownBlock = some k → F k) (hid : cl.id = (t.at_ k).id) :
    Calls Try.prog 33 #[.pointer (some ⟨g, 0, none⟩), .int .i64 (k : Int), clV cl s] w (UsedK w F g { t with row := useC k cl t.row } (.slice A n c)) := by
  obtain ⟨id, num, busy, rep⟩ := cl
  obtain ⟨sA, sN, sC⟩ := s
  have hel := h.elen
  have hlen := h.len
  have hkr : k < t.row.length := by omega
  rw [Tb.at_eq t hkr] at hid
  obtain ⟨b, c0, ev, -⟩ := h.row.cell k (by omega)
  injection ev with ev ev2 ev3
  clear ev2 ev3
  subst ev
  unfold clV s3W
  dsimp only at hid ⊢
  obtain ⟨W1, hW1⟩ : ∃ W1, W1 = w.alloc (.cells #[.int .u64 (id : Int), .int .u64 (num : Int), .bool busy, .slice sA sN sC] 64) := ⟨_, rfl⟩
  have hb0 : Below w.heap.size w W1 := by rw [hW1]; exact bel1N _ _
  have hkb : Bk W1 w.heap.size 64 #[.int .u64 (id : Int), .int .u64 (num : Int), .bool busy, .slice sA sN sC] := by rw [hW1]; exact Bk.new w _ _
  have h1 := h.toPRm.below hb0
  have hs1 := own_kp (F := fun _ => False) hs (Kp.of_below hb0) (fun _ _ h => h)
  have HM1 : Hid (Mid3 w W1 F g t (some ⟨b, 0, none⟩) n c es dn mp id num busy (sA, sN, sC) rep) := Lib.hid ⟨h1, Kp.of_below hb0, hkb, hs1⟩
  have c1 := h1.cells.2.1
  have f1 := h1.frz 1
  have HR := Lib.hid (reorder_any h1)
  have HM2 : Hid (∀ W, PTm W F g t (some ⟨b, 0, none⟩) n c es false mp → Kp (fun k => k = g) W1 W → Mid3 w W F g t (some ⟨b, 0, none⟩) n c es false mp id num busy (sA, sN, sC) rep) := Lib.hid fun W hp hk => ⟨hp.toPRm, (Kp.of_below hb0).trans hk, hkb.kp hk (by have := h.bk.lt; omega), own_kp hs1 hk (fun k e e2 => h1.offRep (l := rep) hs1 k e (.inl e2))⟩
  obtain ⟨iw, hiw, hzw, hsw, hbw⟩ := info_parts Try.infoClient
  have Hiw := Lib.hid hiw
  have Hzw := Lib.hid hzw
  have Hsw := Lib.hid hsw
  have Hbw := Lib.hid hbw
  have HC1 : Hid (∀ u ∈ [Value.int .u64 (id : Int), .int .u64 (num : Int), .bool busy, .slice sA sN sC], u.oneCell' = true) := by
    intro u hu
    simp only [List.mem_cons, List.not_mem_nil, or_false] at hu
    rcases hu with rfl | rfl | rfl | rfl <;> rfl
  have Hlt := Lib.hid h.lt
  have HF := Lib.hid hF
  have hel2 : (es.eraseIdx k).length = n - 1 := by rw [List.length_eraseIdx_of_lt (by omega)]; omega
  have HEND : Hid (∀ dn2 W (A' : Option Addr) (n' c' : Nat) es' F', PRm W F' g { t with row := t.row.eraseIdx k ++ [⟨id, num, busy, rep⟩] } A' n' c' es' dn2 mp → Kp (RG g (.slice (some ⟨b, 0, none⟩) n c)) w W → (∀ k, F k → F' k) → (dn2 = true → dn = true ∧ k + 1 = n) → PT W F' g { t with row := useC k ⟨id, num, busy, rep⟩ t.row }) := Lib.hid fun dn2 W A' n' c' es' F' hp hk2 hF hd => by
    refine ⟨A', n', c', es', dn2, mp, h.fin hp hk2 hF fun e => ⟨(hd e).1, ?_⟩⟩
    exact use_ids (c := ⟨id, num, busy, rep⟩) (by have := (hd e).2; omega) hid
  have e1 : IntKind.i64.wrap ((k : Int) + 1) = (k : Int) + 1 := by rw [IntKind.wrap_i64]; omega
  have e2 : IntKind.i64.wrap ((n : Int) - 1) = (n : Int) - 1 := by rw [IntKind.wrap_i64]; omega
  obtain ⟨n1, hn1⟩ : ∃ n1, n1 = (es.eraseIdx k).length := ⟨_, rfl⟩
  have hn1' : n1 ≤ 200 := by omega
  have HN1 := Lib.hid hn1
  have HW1 := Lib.hid hW1
  clear h h1 hs hs1 hkb hb0 hF hid hiw hzw hsw hbw hW1 hel hlen hel2 hn1 hkr
  by_cases hlast : k + 1 < n
  · have m1 : (k : Int) < (n : Int) - 1 := by omega
    clear HM1
    go_enter Try.func33, Try.ntmps33
    go_upto_region 1 with (fail)
    rw [← HW1.out]
    go_wp2_with fail
    refine HR.out.mono ?_
    rintro e W2 ⟨rfl, HX2⟩
    have HM3 := Lib.hid (HM2.out W2 HX2.out.1 HX2.out.2)
    have HD2 : Hid (false = true → dn = true ∧ k + 1 = n) := Lib.hid fun e => by cases e
    clear HX2 HM2 HR c1 f1
    have c2 := HM3.out.p.cells.2.1
    have HDl := Lib.hid (HM3.out.del Hlt.out hk)
    go_wp2_with fail
    refine HDl.out.mono ?_
    rintro e w3 ⟨rfl, g1, gf, HM4⟩
    rw [← HN1.out] at HM4 ⊢
    clear c2 HDl HM3
    go_upto_region 4 with (fail)
    obtain ⟨w4, hw4⟩ : ∃ w4, w4 = w3.setCell ⟨g, 1, none⟩ (.slice (some ⟨b, 0, none⟩) n1 c) := ⟨_, rfl⟩
    rw [← hw4] at HM4 ⊢
    clear hw4 g1 gf
    have hM := HM4.out
    have c4 : w4.cell? ⟨g, 1, none⟩ = some (.slice (some ⟨b, 0, none⟩) n1 c) := hM.p.cells.2.1
    have f4 := hM.p.frz 1
    have j0 : w4.cell? ⟨w.heap.size, 0, none⟩ = some (.int .u64 (id : Int)) := hM.box.cell 0
    have j1 : w4.cell? ⟨w.heap.size, 1, none⟩ = some (.int .u64 (num : Int)) := hM.box.cell 1
    have j2 : w4.cell? ⟨w.heap.size, 2, none⟩ = some (.bool busy) := hM.box.cell 2
    have j3 : w4.cell? ⟨w.heap.size, 3, none⟩ = some (.slice sA sN sC) := hM.box.cell 3
    have c4a : (w4.alloc (.cells #[.int .u64 (id : Int), .int .u64 (num : Int), .bool busy, .slice sA sN sC] 64)).cell? ⟨g, 1, none⟩ = some (.slice (some ⟨b, 0, none⟩) n1 c) := (((Below.refl _ w4).alloc (Nat.le_refl _) _).cell (p := ⟨g, 1, none⟩) hM.p.bk.lt).trans c4
    have hbA : Below w4.heap.size w4 ((w4.drewN 1).alloc (.cells #[.int .u64 (id : Int), .int .u64 (num : Int), .bool busy, .slice sA sN sC] 64)) := ((Below.refl _ _).drew).alloc (Nat.le_refl _) _
    have HA : Hid (((w4.drewN 1).alloc (.cells #[.int .u64 (id : Int), .int .u64 (num : Int), .bool busy, .slice sA sN sC] 64)).ownsRow 0 64 4 (.slice (some ⟨b, 0, none⟩) n1 c) n1 (clC (es.eraseIdx k))) := Lib.hid (by have := (hM.p.below hbA).row.own; rwa [hM.p.elen] at this)
    have HP : Hid (∀ v' w5, App ((w4.drewN 1).alloc (.cells #[.int .u64 (id : Int), .int .u64 (num : Int), .bool busy, .slice sA sN sC] 64)) w5 0 64 4 (.slice (some ⟨b, 0, none⟩) n1 c) v' n1 1 (clC (es.eraseIdx k)) [Value.int .u64 (id : Int), .int .u64 (num : Int), .bool busy, .slice sA sN sC] →
        w5.cell? ⟨g, 1, none⟩ = some (.slice (some ⟨b, 0, none⟩) n1 c) ∧ w5.frozen? ⟨g, 1, none⟩ = false ∧ Hid (∃ F', PT (w5.setCell ⟨g, 1, none⟩ v') F' g { t with row := useC k ⟨id, num, busy, rep⟩ t.row } ∧ Mv F F' w (w5.setCell ⟨g, 1, none⟩ v') ∧ Kp (RG g (.slice (some ⟨b, 0, none⟩) n c)) w (w5.setCell ⟨g, 1, none⟩ v'))) := Lib.hid fun v' w5 ha => by
      obtain ⟨q1, q2, HX⟩ := hM.p.push (cl := ⟨id, num, busy, rep⟩) (s := (sA, sN, sC)) hbA ha hM.s HF.out
      obtain ⟨A', c', F', rfl, hp, hm, hk5, hFF⟩ := HX.out
      have hkt : Kp (RG g (.slice (some ⟨b, 0, none⟩) n c)) w (w5.setCell ⟨g, 1, none⟩ (.slice A' (n1 + 1) c')) := (hM.k.mono fun k e => by
        rcases e with e | e
        · exact .inl e
        · exact .inr e).trans (hk5.mono fun k e => by
        rcases e with e | e
        · exact .inl e
        · exact .inr e)
      refine ⟨q1, q2, Lib.hid ⟨F', HEND.out _ _ _ _ _ _ _ hp hkt hFF HD2.out, ⟨hkt.mono fun k e => hM.p.rg k (by
        rcases e with e | e
        · exact .inl e
        · exact .inr e), fun k e => ?_⟩, hkt⟩⟩
      rcases hm.new k e with h' | h'
      · exact .inl h'
      · have := hM.k.size; exact .inr (by omega)
    clear hM hbA HM4 HEND
    go_wp2_with fail
    go_region_law ((refine step_append_app _ rfl _ _ 47 (by rfl) 0 64 iw _ 4 48 Try.underlying47 Hiw.out Hzw.out Hsw.out Hbw.out rfl (.slice (some ⟨b, 0, none⟩) n1 c) n1 _ (by rfl) HA.out (some ⟨w4.heap.size, 0, none⟩) 1 1 [.int .u64 (id : Int), .int .u64 (num : Int), .bool busy, .slice sA sN sC] (by rfl) (by rfl) (by intro e; cases e) (new_cells _ _ _ rfl) HC1.out (by unfold maxLen; omega) (by omega) (by simp) ?_); intro v' w5 happ; (obtain ⟨Av', cv', rfl, _⟩ := own_shape happ.own); (obtain ⟨k2, kf, HX⟩ := HP.out _ _ happ))
    all_goals
      go_wp2
      go_end0
      exact ⟨rfl, HX⟩
  · have hlast' : k + 1 = n := by omega
    have m1 : ¬ (k : Int) < (n : Int) - 1 := by omega
    have HM3 := HM1
    have HD2 : Hid (dn = true → dn = true ∧ k + 1 = n) := Lib.hid fun e => ⟨e, hlast'⟩
    clear HM1 HR HM2 hlast
    go_enter Try.func33, Try.ntmps33
    go_upto_region 1 with (fail)
    rw [← HW1.out]
    obtain ⟨W2, hW2⟩ : ∃ W2, W2 = W1 := ⟨_, rfl⟩
    rw [← hW2] at c1 f1 HM3 ⊢
    clear hW2
    clear HW1
    have c2 := HM3.out.p.cells.2.1
    have HDl := Lib.hid (HM3.out.del Hlt.out hk)
    go_wp2_with fail
    refine HDl.out.mono ?_
    rintro e w3 ⟨rfl, g1, gf, HM4⟩
    rw [← HN1.out] at HM4 ⊢
    clear c2 HDl HM3
    go_upto_region 4 with (fail)
    obtain ⟨w4, hw4⟩ : ∃ w4, w4 = w3.setCell ⟨g, 1, none⟩ (.slice (some ⟨b, 0, none⟩) n1 c) := ⟨_, rfl⟩
    rw [← hw4] at HM4 ⊢
    clear hw4 g1 gf
    have hM := HM4.out
    have c4 : w4.cell? ⟨g, 1, none⟩ = some (.slice (some ⟨b, 0, none⟩) n1 c) := hM.p.cells.2.1
    have f4 := hM.p.frz 1
    have j0 : w4.cell? ⟨w.heap.size, 0, none⟩ = some (.int .u64 (id : Int)) := hM.box.cell 0
    have j1 : w4.cell? ⟨w.heap.size, 1, none⟩ = some (.int .u64 (num : Int)) := hM.box.cell 1
    have j2 : w4.cell? ⟨w.heap.size, 2, none⟩ = some (.bool busy) := hM.box.cell 2
    have j3 : w4.cell? ⟨w.heap.size, 3, none⟩ = some (.slice sA sN sC) := hM.box.cell 3
    have c4a : (w4.alloc (.cells #[.int .u64 (id : Int), .int .u64 (num : Int), .bool busy, .slice sA sN sC] 64)).cell? ⟨g, 1, none⟩ = some (.slice (some ⟨b, 0, none⟩) n1 c) := (((Below.refl _ w4).alloc (Nat.le_refl _) _).cell (p := ⟨g, 1, none⟩) hM.p.bk.lt).trans c4
    have hbA : Below w4.heap.size w4 ((w4.drewN 1).alloc (.cells #[.int .u64 (id : Int), .int .u64 (num : Int), .bool busy, .slice sA sN sC] 64)) := ((Below.refl _ _).drew).alloc (Nat.le_refl _) _
    have HA : Hid (((w4.drewN 1).alloc (.cells #[.int .u64 (id : Int), .int .u64 (num : Int), .bool busy, .slice sA sN sC] 64)).ownsRow 0 64 4 (.slice (some ⟨b, 0, none⟩) n1 c) n1 (clC (es.eraseIdx k))) := Lib.hid (by have := (hM.p.below hbA).row.own; rwa [hM.p.elen] at this)
    have HP : Hid (∀ v' w5, App ((w4.drewN 1).alloc (.cells #[.int .u64 (id : Int), .int .u64 (num : Int), .bool busy, .slice sA sN sC] 64)) w5 0 64 4 (.slice (some ⟨b, 0, none⟩) n1 c) v' n1 1 (clC (es.eraseIdx k)) [Value.int .u64 (id : Int), .int .u64 (num : Int), .bool busy, .slice sA sN sC] →
        w5.cell? ⟨g, 1, none⟩ = some (.slice (some ⟨b, 0, none⟩) n1 c) ∧ w5.frozen? ⟨g, 1, none⟩ = false ∧ Hid (∃ F', PT (w5.setCell ⟨g, 1, none⟩ v') F' g { t with row := useC k ⟨id, num, busy, rep⟩ t.row } ∧ Mv F F' w (w5.setCell ⟨g, 1, none⟩ v') ∧ Kp (RG g (.slice (some ⟨b, 0, none⟩) n c)) w (w5.setCell ⟨g, 1, none⟩ v'))) := Lib.hid fun v' w5 ha => by
      obtain ⟨q1, q2, HX⟩ := hM.p.push (cl := ⟨id, num, busy, rep⟩) (s := (sA, sN, sC)) hbA ha hM.s HF.out
      obtain ⟨A', c', F', rfl, hp, hm, hk5, hFF⟩ := HX.out
      have hkt : Kp (RG g (.slice (some ⟨b, 0, none⟩) n c)) w (w5.setCell ⟨g, 1, none⟩ (.slice A' (n1 + 1) c')) := (hM.k.mono fun k e => by
        rcases e with e | e
        · exact .inl e
        · exact .inr e).trans (hk5.mono fun k e => by
        rcases e with e | e
        · exact .inl e
        · exact .inr e)
      refine ⟨q1, q2, Lib.hid ⟨F', HEND.out _ _ _ _ _ _ _ hp hkt hFF HD2.out, ⟨hkt.mono fun k e => hM.p.rg k (by
        rcases e with e | e
        · exact .inl e
        · exact .inr e), fun k e => ?_⟩, hkt⟩⟩
      rcases hm.new k e with h' | h'
      · exact .inl h'
      · have := hM.k.size; exact .inr (by omega)
    clear hM hbA HM4 HEND
    go_wp2_with fail
    go_region_law ((refine step_append_app _ rfl _ _ 47 (by rfl) 0 64 iw _ 4 48 Try.underlying47 Hiw.out Hzw.out Hsw.out Hbw.out rfl (.slice (some ⟨b, 0, none⟩) n1 c) n1 _ (by rfl) HA.out (some ⟨w4.heap.size, 0, none⟩) 1 1 [.int .u64 (id : Int), .int .u64 (num : Int), .bool busy, .slice sA sN sC] (by rfl) (by rfl) (by intro e; cases e) (new_cells _ _ _ rfl) HC1.out (by unfold maxLen; omega) (by omega) (by simp) ?_); intro v' w5 happ; (obtain ⟨Av', cv', rfl, _⟩ := own_shape happ.own); (obtain ⟨k2, kf, HX⟩ := HP.out _ _ happ))
    all_goals
      go_wp2
      go_end0
      exact ⟨rfl, HX⟩
end
end Go.Proofs.Ytgippbbbfpkhhaa

/- Layer 13, the program's table: makeRoom. -/
namespace Go.Proofs.Ytgippbbbfpkhhaa
open Go.RowKit Go.Maps

set_option maxRecDepth 100000 in
theorem notF_any (cl : Cl) (s : Sl3) (w : World) : Calls Try.prog 55 #[clV cl s] w fun e w' => e = .returned (.bool (!cl.busy)) ∧ Hid (Below w.heap.size w w') := by
  obtain ⟨id, num, busy, rep⟩ := cl
  obtain ⟨sA, sN, sC⟩ := s
  unfold clV s3W
  dsimp only
  obtain ⟨W1, hW1⟩ : ∃ W1, W1 = w.alloc (.cells #[.int .u64 (id : Int), .int .u64 (num : Int), .bool busy, .slice sA sN sC] 64) := ⟨_, rfl⟩
  have hb0 : Below w.heap.size w W1 := by rw [hW1]; exact bel1N _ _
  have hkb : Bk W1 w.heap.size 64 #[.int .u64 (id : Int), .int .u64 (num : Int), .bool busy, .slice sA sN sC] := by rw [hW1]; exact Bk.new w _ _
  have j2 : W1.cell? ⟨w.heap.size, 2, none⟩ = some (.bool busy) := hkb.cell 2
  have HW := Lib.hid hW1
  have HB := Lib.hid hb0
  have hnot : ∀ (x : Bool) (w : World), (Op.unary .not (.bool x)).run Try.prog w = .ok (.bool (!x)) w := fun _ _ => rfl
  clear hW1 hb0 hkb
  go_enter Try.func55, Try.ntmps55
  go_upto_region 1 with (fail)
  rw [← HW.out]
  go_wp2
  go_ret
  exact ⟨rfl, HB⟩
def idxI : Option Nat → Int
  | some k => (k : Int)
  | none => -1
theorem freeC_at {l : List Cl} {k : Nat} (hk : k < l.length) (h : l[k].busy = false) (hj : ∀ j (hj : j < l.length), j < k → l[j].busy = true) : freeC l = some k := by
  unfold freeC
  rw [List.findIdx?_eq_some_iff_getElem]
  exact ⟨hk, by simpa using h, fun j hj2 => by simpa using hj j (by omega) hj2⟩
theorem freeC_all {l : List Cl} (h : ∀ j (hj : j < l.length), l[j].busy = true) : freeC l = none := by
  unfold freeC
  rw [List.findIdx?_eq_none_iff]
  intro c hc
  obtain ⟨j, hj, rfl⟩ := List.getElem_of_mem hc
  simpa using h j hj
section
variable {w : World} {F : Nat → Prop} {g n c : Nat} {t : Tb} {A : Option Addr} {es : List Cle} {dn : Bool} {mp : Option Nat}
set_option maxRecDepth 100000 in
set_option maxHeartbeats 2000000 in
theorem index_any (h : PRm w F g t A n c es dn mp) (hn : n ≤ 200) :
    Calls Try.prog 54 #[.slice A n c, .func (.func 55) #[] #[]] w fun e w' => e = .returned (.int .i64 (idxI (freeC t.row))) ∧ Hid (Below w.heap.size w w') := by
  have hel := h.elen
  have hlen := h.len
  have HC : Hid (∀ W, Below w.heap.size w W → ∀ i (hi : i < t.row.length), ∃ R s, A = some ⟨R, 0, none⟩ ∧ W.cell? ⟨R, i * 4, none⟩ = some (.int .u64 (t.row[i].id : Int)) ∧ W.cell? ⟨R, i * 4 + 1, none⟩ = some (.int .u64 (t.row[i].num : Int)) ∧ W.cell? ⟨R, i * 4 + 2, none⟩ = some (.bool t.row[i].busy) ∧ W.cell? ⟨R, i * 4 + 3, none⟩ = some (s3W s)) := Lib.hid fun W hb i hi => by
    have hie : i < es.length := by omega
    obtain ⟨R, c', e, _, _, _, q0, q1, q2, q3⟩ := (h.row.below hb).cell i hie
    injection e with e _ _
    have h1 : t.row[i] = es[i].1 := by simp only [← h.eq, List.getElem_map]
    rw [h1]
    exact ⟨R, es[i].2, e, q0, q1, q2, q3⟩
  have HF := Lib.hid (fun cl s W => notF_any cl s W)
  have HLen := Lib.hid hlen
  obtain ⟨I, hI⟩ : ∃ I, I = idxI (freeC t.row) := ⟨_, rfl⟩
  rw [← hI]
  have HI := Lib.hid hI
  clear h hel hlen hI
  go_enter Try.func54, Try.ntmps54
  go_wp2
  go_loopg [8] n (fun gk a wr => ∃ i : Nat, a = .int .i64 (i : Int) ∧ i + gk = n ∧ Hid (∀ j (hj : j < t.row.length), j < i → t.row[j].busy = true) ∧ Hid (Below w.heap.size w wr))
  case atStart => exact ⟨0, rfl, by omega, Lib.hid (fun j _ h => by omega), Lib.hid (Below.refl _ _)⟩
  case round =>
    obtain ⟨i, rfl, hig, HA, HB⟩ := hrel
    by_cases hin : i < n
    · have hil : i < t.row.length := by rw [← HLen.out]; exact hin
      have m1 : (i : Int) < (n : Int) := by omega
      have m0 : ¬ (i : Int) < 0 := by omega
      have e1 : IntKind.i64.wrap ((i : Int) + 1) = ((i + 1 : Nat) : Int) := by rw [IntKind.wrap_i64]; omega
      obtain ⟨R, ⟨sA, sN, sC⟩, rfl, q0, q1, q2, q3⟩ := HC.out wr HB.out i hil
      have HQ := Lib.hid (HF.out t.row[i] (sA, sN, sC) wr)
      have HN : Hid (t.row[i].busy = true → ∀ j (hj : j < t.row.length), j < i + 1 → t.row[j].busy = true) := Lib.hid fun hb j hj hji => by
        by_cases e : j = i
        · subst e; exact hb
        · exact HA.out j hj (by omega)
      have HY : Hid (t.row[i].busy = false → freeC t.row = some i) := Lib.hid fun hb => freeC_at hil hb HA.out
      generalize t.row[i] = cl at *
      obtain ⟨id, num, busy, rep⟩ := cl
      unfold clV s3W at HQ
      unfold s3W at q3
      dsimp only at q0 q1 q2 q3 HQ HN HY
      clear hil
      cases busy with
      | false =>
        have hI : I = (i : Int) := by rw [HI.out, HY.out rfl]; rfl
        clear HI
        subst hI
        go_wp2_with fail
        refine HQ.out.mono ?_
        rintro e w2 ⟨rfl, hb2⟩
        have HB2 := Lib.hid (below_then HB.out hb2.out)
        clear q0 q1 q2 q3 HQ
        go_wp2
        go_ret
        exact ⟨rfl, HB2⟩
      | true =>
        have HN2 := Lib.hid (HN.out rfl)
        clear HN HY
        go_wp2_with fail
        refine HQ.out.mono ?_
        rintro e w2 ⟨rfl, hb2⟩
        have HB2 := Lib.hid (below_then HB.out hb2.out)
        clear q0 q1 q2 q3 HQ
        go_wp2
        go_roundg (gk - 1)
        case measure => omega
        case rel => exact ⟨i + 1, by go_num, by omega, HN2, HB2⟩
    · obtain rfl : i = n := by omega
      have m1 : ¬ (i : Int) < (i : Int) := by omega
      have hI : I = -1 := by rw [HI.out, freeC_all (fun j hj => HA.out j hj (by rw [HLen.out]; exact hj))]; rfl
      clear HI
      subst hI
      go_wp2
      go_ret
      exact ⟨rfl, HB⟩
/-- What makeRoom does. -/
def Tb.roomy (t : Tb) : Bool × Tb :=
  if t.row.length < t.most then (true, t)
  else match freeC t.row with
    | some k => (true, { t with row := t.row.eraseIdx k })
    | none => (false, t)
set_option maxRecDepth 100000 in
set_option maxHeartbeats 4000000 in
theorem room_any (h : PTm w F g t A n c es dn mp) (hn : n ≤ 200) :
    Calls Try.prog 31 #[.pointer (some ⟨g, 0, none⟩)] w (UsedE w F g t.roomy.2 (.bool t.roomy.1)) := by
  have hlen := h.len
  obtain ⟨c0, c1, c2, c3, c4, c5, c6, c7⟩ := h.cells
  obtain ⟨wd, hwd⟩ : ∃ wd, wd = w.drew := ⟨_, rfl⟩
  have hkd : Kp (fun _ => False) w wd := by rw [hwd]; exact Kp.drew _ _
  have hd : PTm wd F g t A n c es dn mp := h.kp hkd fun _ _ h => h
  have HWd := Lib.hid hwd
  clear hwd c2 c3 c4 c5 c6 c7
  by_cases hlt : t.row.length < t.most
  · have hr : t.roomy = (true, t) := by unfold Tb.roomy; rw [if_pos hlt]
    rw [hr]
    have m1 : (n : Int) < (t.most : Int) := by omega
    have HZ : Hid (∃ F', PT wd F' g t ∧ Mv F F' w wd) := Lib.hid ⟨F, ⟨_, _, _, _, _, _, hd⟩, Mv.of (hkd.mono fun _ h => h.elim)⟩
    clear h hr hd hkd hlt hlen
    go_enter Try.func31, Try.ntmps31
    go_wp2_with fail
    go_region
    all_goals
      rw [← HWd.out]
      go_wp2
      go_ret
      exact ⟨rfl, HZ⟩
  · have m1 : ¬ (n : Int) < (t.most : Int) := by omega
    have HI := Lib.hid (index_any hd.toPRm hn)
    have d1 : wd.cell? ⟨g, 1, none⟩ = some (.slice A n c) := hd.cells.2.1
    have HD := Lib.hid hd
    have HK := Lib.hid hkd
    cases hfc : freeC t.row with
    | none =>
      have hr : t.roomy = (false, t) := by unfold Tb.roomy; rw [if_neg hlt, hfc]
      rw [hfc] at HI
      unfold idxI at HI
      dsimp only at HI
      rw [hr]
      clear h hd hkd hlt hlen hfc hr
      go_enter Try.func31, Try.ntmps31
      go_wp2_with fail
      go_region
      all_goals
        rw [← HWd.out]
        go_wp2_with fail
        refine HI.out.mono ?_
        rintro e w2 ⟨rfl, HB2⟩
        have HZ : Hid (∃ F', PT w2 F' g t ∧ Mv F F' w w2) := Lib.hid ⟨F, ⟨_, _, _, _, _, _, HD.out.below HB2.out⟩, Mv.of ((HK.out.mono fun _ h => h.elim).trans (Kp.of_below HB2.out))⟩
        go_wp2
        go_ret
        exact ⟨rfl, HZ⟩
    | some k =>
      have hr : t.roomy = (true, { t with row := t.row.eraseIdx k }) := by unfold Tb.roomy; rw [if_neg hlt, hfc]
      rw [hfc] at HI
      unfold idxI at HI
      dsimp only at HI
      rw [hr]
      have hkl : k < t.row.length := (freeC_some hfc).1
      have hkn : k < n := by omega
      have hel := h.elen
      obtain ⟨b, c0', ev, -⟩ := h.row.cell k (by omega)
      injection ev with ev ev2 ev3
      clear ev2 ev3
      subst ev
      have HDel : Hid (∀ W, PRm W F g t (some ⟨b, 0, none⟩) n c es dn mp → Calls Try.prog 56 #[.slice (some ⟨b, 0, none⟩) n c, .int .i64 (k : Int), .int .i64 ((k : Int) + 1)] W fun e w3 =>
          e = .returned (.slice (some ⟨b, 0, none⟩) (es.eraseIdx k).length c) ∧ w3.cell? ⟨g, 1, none⟩ = some (.slice (some ⟨b, 0, none⟩) n c) ∧ w3.frozen? ⟨g, 1, none⟩ = false ∧
          Hid (PRm (w3.setCell ⟨g, 1, none⟩ (.slice (some ⟨b, 0, none⟩) (es.eraseIdx k).length c)) F g { t with row := t.row.eraseIdx k } (some ⟨b, 0, none⟩) (es.eraseIdx k).length c (es.eraseIdx k) dn mp ∧
            Kp (RG g (.slice (some ⟨b, 0, none⟩) n c)) W (w3.setCell ⟨g, 1, none⟩ (.slice (some ⟨b, 0, none⟩) (es.eraseIdx k).length c)))) := Lib.hid fun W hp => by
        obtain ⟨A0, c0, e0, hnc, _⟩ := hp.row.shape
        injection e0 with e0 e2 e3
        subst e3
        have ho := hp.row.own
        rw [hel] at ho
        refine (cdelete_any ho hel.symm hkn (by omega)).mono ?_
        rintro e w3 ⟨rfl, hrow, hk3⟩
        obtain ⟨h1, h2, h3⟩ := hp.cut hkn hrow hk3
        exact ⟨rfl, h1, h2, h3⟩
      have e1 : IntKind.i64.wrap ((k : Int) + 1) = (k : Int) + 1 := by rw [IntKind.wrap_i64]; omega
      have mk : ¬ (k : Int) < 0 := by omega
      clear h hd hkd hlt hlen hfc hr hkl hel
      generalize (es.eraseIdx k).length = n1 at *
      go_enter Try.func31, Try.ntmps31
      go_wp2_with fail
      go_region
      all_goals
        rw [← HWd.out]
        go_wp2_with fail
        refine HI.out.mono ?_
        rintro e w2 ⟨rfl, HB2⟩
        have hp2 := HD.out.toPRm.below HB2.out
        have g2 : w2.cell? ⟨g, 1, none⟩ = some (.slice (some ⟨b, 0, none⟩) n c) := hp2.cells.2.1
        have HDl := Lib.hid (HDel.out w2 hp2)
        have HK2 := Lib.hid ((HK.out.mono (fun (k : Nat) h => h.elim) : Kp F w wd).trans (Kp.of_below HB2.out))
        have HR2 := Lib.hid hp2.rg
        clear hp2 d1 c0 c1
        go_wp2_with fail
        refine HDl.out.mono ?_
        rintro e w3 ⟨rfl, q1, qf, HX⟩
        clear HDl HDel g2
        go_upto_region 7 with (fail)
        obtain ⟨w4, hw4⟩ : ∃ w4, w4 = w3.setCell ⟨g, 1, none⟩ (.slice (some ⟨b, 0, none⟩) n1 c) := ⟨_, rfl⟩
        rw [← hw4] at HX ⊢
        clear hw4 q1 qf
        have HR := Lib.hid (reorder_any HX.out.1)
        have HK4 := Lib.hid (HK2.out.trans (HX.out.2.mono HR2.out))
        have HFg := Lib.hid HX.out.1.fg
        clear HX HK2 HR2
        go_wp2_with fail
        refine HR.out.mono ?_
        rintro e w5 ⟨rfl, HY⟩
        have HZ : Hid (∃ F', PT w5 F' g { t with row := t.row.eraseIdx k } ∧ Mv F F' w w5) := Lib.hid ⟨F, ⟨_, _, _, _, _, _, HY.out.1⟩, Mv.of (HK4.out.trans (HY.out.2.mono fun k e => e ▸ HFg.out))⟩
        go_wp2
        go_ret
        exact ⟨rfl, HZ⟩
end
end Go.Proofs.Ytgippbbbfpkhhaa
