/- Layer 13, the program's table: add, use. -/
import Derived.Test.YtgippbbbfpkhhaaOnD
namespace Go.Proofs.Ytgippbbbfpkhhaa
open Go.RowKit Go.Maps

theorem map_eraseC {α β : Type} (f : α → β) (l : List α) (k : Nat) : (l.eraseIdx k).map f = (l.map f).eraseIdx k := by
  induction l generalizing k with
  | nil => rfl
  | cons x r ih => cases k with
    | zero => rfl
    | succ k => simp [ih]
theorem findC_ids (id : Nat) : ∀ {l l' : List Cl}, l.map (·.id) = l'.map (·.id) → findC id l = findC id l' := by
  intro l l' h
  have h1 : ∀ l : List Cl, findC id l = (l.map (·.id)).findIdx? fun x => x == id := by
    intro l
    unfold findC
    rw [List.findIdx?_map]
    rfl
  rw [h1, h1, h]
theorem PlaceOk.ids {L : List (Nat × Int)} {l l' : List Cl} (h : PlaceOk L l) (he : l.map (·.id) = l'.map (·.id)) : PlaceOk L l' :=
  ⟨by have := congrArg List.length he; simp only [List.length_map] at this; rw [← this]; exact h.1, fun id => by rw [← findC_ids id he]; exact h.2 id⟩
theorem use_ids {l : List Cl} {k : Nat} {c : Cl} (hk : k + 1 = l.length) (hc : c.id = (l[k]'(by omega)).id) : l.map (·.id) = (useC k c l).map (·.id) := by
  unfold useC
  have h1 : l = l.take k ++ [l[k]'(by omega)] := by
    rw [← List.take_succ_eq_append_getElem (by omega), List.take_of_length_le (by omega)]
  have h2 : l.eraseIdx k = l.take k := by
    rw [List.eraseIdx_eq_take_drop_succ, List.drop_eq_nil_of_le (by omega), List.append_nil]
  rw [h2]
  have h3 := congrArg (List.map (·.id)) h1
  rw [List.map_append] at h3
  refine h3.trans ?_
  rw [List.map_append]
  simp only [List.map_cons, List.map_nil]
  rw [hc]
def bCls (parts : Array (Nat × Value)) : Sem Value := Instr.buildSlice 47 1 parts
theorem bCls_eq (parts : Array (Nat × Value)) : Instr.buildSlice 47 1 parts = bCls parts := rfl
theorem run_bCls (a b c d : Value) (W : World) : (bCls #[(0, .agg #[a, b, c, d])]).run Try.prog W = .ok (.slice (some ⟨W.heap.size, 0, none⟩) 1 1) (W.alloc (.cells #[a, b, c, d] 64)) := by
  obtain ⟨iw, hiw, hzw, hsw, hbw⟩ := info_parts Try.infoClient
  exact run_buildSlice_one (P := Try.prog) Try.underlying47 hiw hzw hsw (by rfl) (by omega) (by omega) (.agg #[a, b, c, d]) rfl W
section
variable {w : World} {F : Nat → Prop} {g n c : Nat} {t : Tb} {A : Option Addr} {es : List Cle} {dn : Bool} {mp : Option Nat}
/-- The blocks that are written when the row turns. -/
def RG (g : Nat) (v : Value) : Nat → Prop := fun j => j = g ∨ v.ownBlock = some j
theorem PRm.rg (h : PRm w F g t A n c es dn mp) : ∀ k, RG g (.slice A n c) k → F k := by
  rintro k (rfl | e)
  · exact h.fg
  · exact h.row.foot k e
theorem PRm.offRep (h : PRm w F g t A n c es dn mp) {s : Sl3} {l : List UInt8} (hs : w.ownsRow 0 5 1 (s3W s) l.length (u8s l)) : ∀ k, (s3W s).ownBlock = some k → ¬ RG g (.slice A n c) k := by
  rintro k e (rfl | e2)
  · exact own_not_bkC h.bk hs (by decide) k e rfl
  · exact own_sepC hs h.row.own (by decide) k e e2
/-- A client more, behind all others. -/
theorem PRm.push {w1 w3 : World} {v' : Value} {cl : Cl} {s : Sl3} (h : PRm w F g t A n c es dn mp) (hb1 : Below w.heap.size w w1) (ha : App w1 w3 0 64 4 (.slice A n c) v' n 1 (clC es) (clE (cl, s))) (hs : w.ownsRow 0 5 1 (s3W s) cl.rep.length (u8s cl.rep)) (hF : ∀ k, (s3W s).ownBlock = some k → F k) :
    w3.cell? ⟨g, 1, none⟩ = some (.slice A n c) ∧ w3.frozen? ⟨g, 1, none⟩ = false ∧
    Hid (∃ A' c' F', v' = .slice A' (n + 1) c' ∧ PRm (w3.setCell ⟨g, 1, none⟩ v') F' g { t with row := t.row ++ [cl] } A' (n + 1) c' (es ++ [(cl, s)]) dn mp ∧ Mv F F' w (w3.setCell ⟨g, 1, none⟩ v') ∧ Kp (RG g (.slice A n c)) w (w3.setCell ⟨g, 1, none⟩ v') ∧ (∀ k, F k → F' k)) := by
  have hel := h.elen
  have h1 := h.below hb1
  have hk3 : Kp (fun k => (Value.slice A n c).ownBlock = some k) w1 w3 := Kp.of_row ha.grow (fun g e => e)
  have hk4 : Kp (fun k => k = g) w3 (w3.setCell ⟨g, 1, none⟩ v') := Kp.set_ (F := fun k => k = g) (p := ⟨g, 1, none⟩) rfl _
  have hbk3 := h1.bk.kp hk3 (fun e => h1.row.off h1.bk (by decide) (by decide) g (.inl e) rfl)
  have hk : Kp (RG g (.slice A n c)) w (w3.setCell ⟨g, 1, none⟩ v') := ((Kp.of_below hb1).trans (hk3.mono fun k e => .inr e)).trans (hk4.mono fun k e => .inl e)
  obtain ⟨A', c', rfl, hnc, hcm⟩ := own_shape ha.own
  have hblk : ∀ k, (Value.slice A' (n + 1) c').ownBlock = some k → (Value.slice A n c).ownBlock = some k ∨ w.heap.size ≤ k := fun k e => by
    rcases ha.block with h' | h'
    · exact .inl (h' ▸ e)
    · rw [h'] at e; injection e with e; have := hb1.size; exact .inr (by omega)
  refine ⟨hbk3.cell 1, hbk3.frozen 1, Lib.hid ⟨A', c', fun k => F k ∨ (Value.slice A' (n + 1) c').ownBlock = some k, rfl, ⟨hbk3.set_ 1 _, ⟨?_, ?_, fun k e => .inr e, ?_⟩, by rw [List.map_append, h.eq]; rfl, by rw [List.length_append, ← h.len]; rfl, .inl h.fg, ?_⟩, ⟨hk.mono h.rg, fun k e => ?_⟩, hk, fun k e => .inl e⟩⟩
  · rw [clC_app, List.length_append, hel]
    have := own_kp ha.own hk4 (fun k e e2 => own_not_bkC hbk3 ha.own (by decide) k e e2)
    simpa [clC] using this
  · intro e he
    rcases List.mem_append.1 he with he | he
    · exact own_kp (h.row.each e he) hk (h.offRep (h.row.each e he))
    · rw [List.mem_singleton.1 he]
      exact own_kp hs hk (h.offRep hs)
  · intro e he k e2
    rcases List.mem_append.1 he with he | he
    · exact .inl (h.row.bods e he k e2)
    · rw [List.mem_singleton.1 he] at e2
      exact .inl (hF k e2)
  · rintro k (e | e)
    · exact Nat.lt_of_lt_of_le (h.lt k e) hk.size
    · have := (ha.own.lt k e).2
      simpa [World.setCell] using this
  · rcases e with e | e
    · exact .inl e
    · rcases hblk k e with h' | h'
      · exact .inl (h.row.foot k h')
      · exact .inr h'
/-- A client less. -/
theorem PRm.cut {w3 : World} {b k : Nat} (h : PRm w F g t (some ⟨b, 0, none⟩) n c es dn mp) (hk : k < n) (hrow : w3.ownsRow 0 64 4 (.slice (some ⟨b, 0, none⟩) (es.eraseIdx k).length c) (es.eraseIdx k).length (clC (es.eraseIdx k))) (hk3 : Kp (fun j => j = b) w w3) :
    w3.cell? ⟨g, 1, none⟩ = some (.slice (some ⟨b, 0, none⟩) n c) ∧ w3.frozen? ⟨g, 1, none⟩ = false ∧
    Hid (PRm (w3.setCell ⟨g, 1, none⟩ (.slice (some ⟨b, 0, none⟩) (es.eraseIdx k).length c)) F g { t with row := t.row.eraseIdx k } (some ⟨b, 0, none⟩) (es.eraseIdx k).length c (es.eraseIdx k) dn mp ∧
      Kp (RG g (.slice (some ⟨b, 0, none⟩) n c)) w (w3.setCell ⟨g, 1, none⟩ (.slice (some ⟨b, 0, none⟩) (es.eraseIdx k).length c))) := by
  have hel := h.elen
  have hbg : g ≠ b := fun e => h.row.off h.bk (by decide) (by decide) b (.inl rfl) e.symm
  have hbk3 := h.bk.kp hk3 hbg
  have hk4 : Kp (fun k => k = g) w3 (w3.setCell ⟨g, 1, none⟩ (.slice (some ⟨b, 0, none⟩) (es.eraseIdx k).length c)) := Kp.set_ (F := fun k => k = g) (p := ⟨g, 1, none⟩) rfl _
  have hkk : Kp (RG g (.slice (some ⟨b, 0, none⟩) n c)) w (w3.setCell ⟨g, 1, none⟩ (.slice (some ⟨b, 0, none⟩) (es.eraseIdx k).length c)) := (hk3.mono fun k e => .inr (by rw [e]; rfl)).trans (hk4.mono fun k e => .inl e)
  refine ⟨hbk3.cell 1, hbk3.frozen 1, Lib.hid ⟨⟨hbk3.set_ 1 _, ⟨own_kp hrow hk4 (fun k e e2 => own_not_bkC hbk3 hrow (by decide) k e e2), fun e he => ?_, fun k e => h.row.foot k e, fun e he => h.row.bods e ((List.eraseIdx_sublist _ _).subset he)⟩, by rw [map_eraseC, h.eq], ?_, h.fg, fun k e => Nat.lt_of_lt_of_le (h.lt k e) hkk.size⟩, hkk⟩⟩
  · have he' := (List.eraseIdx_sublist _ _).subset he
    exact own_kp (h.row.each e he') hkk (h.offRep (h.row.each e he'))
  · have hl := h.len
    rw [List.length_eraseIdx_of_lt (by omega)]
    show _ = (t.row.eraseIdx k).length
    rw [List.length_eraseIdx_of_lt (by omega)]
    omega
attribute [local go_sem ↓] bCls_eq
attribute [local go_sem] run_bCls
def UsedE (w : World) (F : Nat → Prop) (g : Nat) (t : Tb) (r : Value) (e : Ending) (w' : World) : Prop := e = .returned r ∧ Hid (∃ F', PT w' F' g t ∧ Mv F F' w w')
set_option maxRecDepth 100000 in
set_option maxHeartbeats 4000000 in
theorem add_any (h : PTm w F g t A n c es dn mp) (hn : n ≤ 200) (cl : Cl) (s : Sl3) (hs : w.ownsRow 0 5 1 (s3W s) cl.rep.length (u8s cl.rep)) (hF : ∀ k, (s3W s).ownBlock = some k → F k) :
    Calls Try.prog 32 #[.pointer (some ⟨g, 0, none⟩), clV cl s] w (UsedE w F g { t with row := t.row ++ [cl] } (.int .i64 (t.row.length : Int))) := by
  obtain ⟨id, num, busy, rep⟩ := cl
  obtain ⟨sA, sN, sC⟩ := s
  unfold clV s3W
  dsimp only
  obtain ⟨W1, hW1⟩ : ∃ W1, W1 = w.alloc (.cells #[.int .u64 (id : Int), .int .u64 (num : Int), .bool busy, .slice sA sN sC] 64) := ⟨_, rfl⟩
  have hb0 : Below w.heap.size w W1 := by rw [hW1]; exact bel1N _ _
  have hkb : Bk W1 w.heap.size 64 #[.int .u64 (id : Int), .int .u64 (num : Int), .bool busy, .slice sA sN sC] := by rw [hW1]; exact Bk.new w _ _
  have h1 := h.toPRm.below hb0
  have c1 := h1.cells.2.1
  have f1 := h1.frz 1
  have HW := Lib.hid hW1
  have j0 : W1.cell? ⟨w.heap.size, 0, none⟩ = some (.int .u64 (id : Int)) := hkb.cell 0
  have j1 : W1.cell? ⟨w.heap.size, 1, none⟩ = some (.int .u64 (num : Int)) := hkb.cell 1
  have j2 : W1.cell? ⟨w.heap.size, 2, none⟩ = some (.bool busy) := hkb.cell 2
  have j3 : W1.cell? ⟨w.heap.size, 3, none⟩ = some (.slice sA sN sC) := hkb.cell 3
  obtain ⟨iw, hiw, hzw, hsw, hbw⟩ := info_parts Try.infoClient
  have c1a : (W1.alloc (.cells #[.int .u64 (id : Int), .int .u64 (num : Int), .bool busy, .slice sA sN sC] 64)).cell? ⟨g, 1, none⟩ = some (.slice A n c) := (((Below.refl _ W1).alloc (Nat.le_refl _) _).cell (p := ⟨g, 1, none⟩) h1.bk.lt).trans c1
  have hbA : Below W1.heap.size W1 ((W1.drewN 1).alloc (.cells #[.int .u64 (id : Int), .int .u64 (num : Int), .bool busy, .slice sA sN sC] 64)) := ((Below.refl _ _).drew).alloc (Nat.le_refl _) _
  have hbA0 := below_then hb0 hbA
  have HA : Hid (((W1.drewN 1).alloc (.cells #[.int .u64 (id : Int), .int .u64 (num : Int), .bool busy, .slice sA sN sC] 64)).ownsRow 0 64 4 (.slice A n c) n (clC es)) := Lib.hid (by have := (h1.below hbA).row.own; rwa [h.elen] at this)
  have HC1 : Hid (∀ u ∈ [Value.int .u64 (id : Int), .int .u64 (num : Int), .bool busy, .slice sA sN sC], u.oneCell' = true) := by
    intro u hu
    simp only [List.mem_cons, List.not_mem_nil, or_false] at hu
    rcases hu with rfl | rfl | rfl | rfl <;> rfl
  have HP : Hid (∀ v' w3, App ((W1.drewN 1).alloc (.cells #[.int .u64 (id : Int), .int .u64 (num : Int), .bool busy, .slice sA sN sC] 64)) w3 0 64 4 (.slice A n c) v' n 1 (clC es) [Value.int .u64 (id : Int), .int .u64 (num : Int), .bool busy, .slice sA sN sC] →
      w3.cell? ⟨g, 1, none⟩ = some (.slice A n c) ∧ w3.frozen? ⟨g, 1, none⟩ = false ∧
      Hid (∃ A' c' F', v' = .slice A' (n + 1) c' ∧ PRm (w3.setCell ⟨g, 1, none⟩ v') F' g { t with row := t.row ++ [⟨id, num, busy, rep⟩] } A' (n + 1) c' (es ++ [(⟨id, num, busy, rep⟩, (sA, sN, sC))]) dn mp ∧ Mv F F' w (w3.setCell ⟨g, 1, none⟩ v') ∧ Kp (RG g (.slice A n c)) w (w3.setCell ⟨g, 1, none⟩ v') ∧ (∀ k, F k → F' k))) := Lib.hid fun v' w3 ha => h.toPRm.push (cl := ⟨id, num, busy, rep⟩) (s := (sA, sN, sC)) hbA0 ha hs hF
  have Hiw := Lib.hid hiw
  have Hzw := Lib.hid hzw
  have Hsw := Lib.hid hsw
  have Hbw := Lib.hid hbw
  rw [← h.len]
  clear h h1 hs hF hkb hW1 hb0 hbA hbA0 hiw hzw hsw hbw
  go_enter Try.func32, Try.ntmps32
  go_upto_region 1 with (fail)
  rw [← HW.out]
  go_wp2_with fail
  go_region_law ((refine step_append_app _ rfl _ _ 47 (by rfl) 0 64 iw _ 4 48 Try.underlying47 Hiw.out Hzw.out Hsw.out Hbw.out rfl (.slice A n c) n _ (by rfl) HA.out (some ⟨W1.heap.size, 0, none⟩) 1 1 [.int .u64 (id : Int), .int .u64 (num : Int), .bool busy, .slice sA sN sC] (by rfl) (by rfl) (by intro e; cases e) (new_cells _ _ _ rfl) HC1.out (by unfold maxLen; omega) (by omega) (by simp) ?_); intro v' w3 happ; (obtain ⟨Av', cv', rfl, _⟩ := own_shape happ.own); (obtain ⟨k2, kf, HX⟩ := HP.out _ _ happ))
  all_goals
    clear happ c1 c1a j0 j1 j2 j3
    obtain ⟨A', c', F', ev, hp, hm, hk, hFF⟩ := HX.out
    injection ev with ev1 ev2 ev3
    subst ev1 ev3
    clear ev2
    have HR := Lib.hid (reorder_any hp)
    have HM := Lib.hid hm
    clear hp hm hk hFF HX
    go_wp2_with fail
    refine HR.out.mono ?_
    rintro e w5 ⟨rfl, HY⟩
    obtain ⟨hp5, hk5⟩ := HY.out
    have d1 : w5.cell? ⟨g, 1, none⟩ = some (.slice Av' (n + 1) cv') := hp5.cells.2.1
    have e1 : IntKind.i64.wrap (((n + 1 : Nat) : Int) - 1) = (n : Int) := by rw [IntKind.wrap_i64]; omega
    have HZ : Hid (∃ F', PT w5 F' g { t with row := t.row ++ [⟨id, num, busy, rep⟩] } ∧ Mv F F' w w5) := Lib.hid ⟨_, ⟨_, _, _, _, _, _, hp5⟩, HM.out.trans (Mv.of (hk5.mono fun k e => e ▸ hp5.fg))⟩
    clear hp5 hk5 HY
    go_wp2
    go_ret
    exact ⟨rfl, HZ⟩
end
end Go.Proofs.Ytgippbbbfpkhhaa
