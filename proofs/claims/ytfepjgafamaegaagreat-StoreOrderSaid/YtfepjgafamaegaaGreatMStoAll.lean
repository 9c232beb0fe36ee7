/- Of the proofs of layer 4, merged: StoAll, StoChk, StoDo2, StoDo3, StoFr, StoDF, StoOr. -/
import Derived.Test.YtfepjgafamaegaaGreatM1StoSort2
import Derived.Test.YtfepjgafamaegaaGreatMStoS
import Derived.Test.YtfepjgafamaegaaGreatMStoGv
import Derived.Shelf.SlSortCmp.NoneTotal
import Derived.Test.YtfepjgafamaegaaGreatMPWal6
import Derived.Test.YtfepjgafamaegaaGreatMRWal5
import Derived.Test.YtfepjgafamaegaaGreatMBackP
import Derived.Test.YtfepjgafamaegaaGreatMStoI

/- The program's All: what it gives are the pairs, by rising keys. -/
namespace Go.Proofs.YtfepjgafamaegaaGreat
open Go.RowKit Go.Shelf

theorem sort_none (p : Option Addr) (cap : Nat) (fv : Value) (w : World) : Calls Tryz.prog 114 #[.slice p 0 cap, fv] w fun e w' => e = .returned (.tuple #[]) ∧ w' = w :=
  AnyF.slices_SortFunc_none sortPair p cap fv w
set_option maxRecDepth 100000 in
set_option maxHeartbeats 1000000 in
theorem sortedFunc_any (Bm b nn : Nat) (L : List Pr) (hS : Srt L) (w : World) (hlen : L.length ≤ 1000000) (hBm : Bm < w.heap.size) (hm : w.cell? ⟨Bm, 0, none⟩ = some (.map (some b))) (hown : OwnM w b nn L) :
    Calls Tryz.prog 77 #[valsV Bm, cmpV] w fun e w' =>
      ∃ A cap, e = .returned (.slice A L.length cap) ∧ PRd w' w'.heap.size A L.length L ∧ (∀ b o, A = some ⟨b, o, none⟩ → w.heap.size ≤ b) ∧ Below w.heap.size w w' := by
  have HC := Lib.hid (collect_any Bm b nn L hS w hlen hBm hm hown)
  have HS := Lib.hid fun xs W v => sort_any sort_none xs W w.heap.size v
  clear hm hown
  go_enter Tryz.func77, Tryz.ntmps77
  go_wp2_with fail
  refine HC.out.mono ?_
  rintro e W ⟨v, xs, rfl, hp, hr, hb⟩
  have hxl : xs.length = L.length := hp.length_eq
  have hn : (xs.map (·.1)).Nodup := (hp.map _).nodup_iff.2 hS.nodup
  have HS1 := Lib.hid (HS.out xs W v hr (by omega) hn)
  have hb := Lib.hid hb
  clear hr
  go_wp2_with fail
  refine HS1.out.mono ?_
  rintro e W2 ⟨rfl, hb2, ys, A, cap, hy, hys, rfl, hP, hA⟩
  obtain rfl : ys = L := srt_unique hys hS (hy.trans hp)
  have hP := Lib.hid hP
  have hxl := Lib.hid hxl
  go_wp2
  go_ret
  refine ⟨A, cap, ?_, by rw [← hxl.out]; exact hP.out, hA, hb.out.trans hb2⟩
  rw [← hxl.out]
  rfl

set_option maxRecDepth 100000 in
set_option maxHeartbeats 1000000 in
theorem all_any (w : World) (H : Nat → Prop) (g gd : Nat) (d : Dk) (s : Lg) (m : List Pr) (hP : PSt w H g gd d s m) (hS : Srt m) (hlen : m.length ≤ 1000000) :
    Calls Tryz.prog 43 #[.pointer (some ⟨g, 0, none⟩)] w (AllR m w) := by
  obtain ⟨H0, lg, bm, hg, -, hm, -⟩ := hP
  have hgl := hg.lt
  have hml := hm.lt
  have hc0 : w.cell? ⟨g, 1, none⟩ = some (.map (some bm)) := hg.cell 1
  obtain ⟨w1, hw1⟩ : ∃ w1, w1 = w.alloc (.cells #[.slice none 0 0] 57) := ⟨_, rfl⟩
  have hb1 : Below w.heap.size w w1 := by rw [hw1]; exact (Below.refl _ _).alloc (Nat.le_refl _) _
  have hs1 : w1.heap.size = w.heap.size + 1 := by rw [hw1]; simp
  have hk1 : Bk w1 w.heap.size 57 #[.slice none 0 0] := by rw [hw1]; exact Bk.new _ _ _
  have hg1 : Bk w1 g 111 #[.pointer (some ⟨lg, 0, none⟩), .map (some bm)] := hg.below hb1 hgl
  have c1 : w1.cell? ⟨g, 1, none⟩ = some (.map (some bm)) := hg1.cell 1
  obtain ⟨w2, hw2⟩ : ∃ w2, w2 = w1.alloc (.cells #[.map (some bm)] 109) := ⟨_, rfl⟩
  have hb2 : Below w1.heap.size w1 w2 := by rw [hw2]; exact (Below.refl _ _).alloc (Nat.le_refl _) _
  have hs2 : w2.heap.size = w1.heap.size + 1 := by rw [hw2]; simp
  have hk2 : Bk w2 (w.heap.size + 1) 109 #[.map (some bm)] := by rw [hw2, ← hs1]; exact Bk.new _ _ _
  have hV := Lib.hid (values_any (some bm) w1)
  rw [← hw2] at hV
  have hSF := Lib.hid (sortedFunc_any (w.heap.size + 1) bm m.length m hS w2 hlen (by omega) (hk2.cell 0) ((hm.below hb1 hml).below hb2 (by omega)))
  have hk1 := Lib.hid hk1
  have hk2 := Lib.hid hk2
  have hb1 := Lib.hid hb1
  have hb2 := Lib.hid hb2
  have hs1 := Lib.hid hs1
  have hs2 := Lib.hid hs2
  have hw1 := Lib.hid hw1
  clear hw2 hm hg hg1
  have c0 : w.cell? ⟨g, 1, none⟩ = some (.map (some bm)) := hc0
  clear c1
  go_enter Tryz.func43, Tryz.ntmps43
  go_wp2_with fail
  rw [← hw1.out]
  refine hV.out.mono ?_
  rintro e W ⟨rfl, rfl⟩
  go_wp2_with fail
  refine hSF.out.mono ?_
  rintro e w3 ⟨A, cap, rfl, hP3, hA, hb3⟩
  have hs2' := hs2.out
  have hs1' := hs1.out
  have hk3 : Bk w3 w.heap.size 57 #[.slice none 0 0] := (hk1.out.below hb2.out (by omega)).below hb3 (by omega)
  have c3 : w3.cell? ⟨w.heap.size, 0, none⟩ = some (.slice none 0 0) := hk3.cell 0
  have f3 : w3.frozen? ⟨w.heap.size, 0, none⟩ = false := hk3.frozen 0
  have hs3 := hb3.size
  have hb03 : Below w.heap.size w w3 := below_then hb1.out (below_then hb2.out hb3)
  have hk4 := Lib.hid (hk3.set_ 0 (.slice A m.length cap))
  have hkx : KX w.heap.size w3.heap.size w3 (w3.setCell ⟨w.heap.size, 0, none⟩ (.slice A m.length cap)) := ⟨by simp, fun k _ hne => Below.heap_setCell _ _ _ _ hne⟩
  have hP4 := Lib.hid (hP3.keep hkx (fun b o e => by have := hA b o e; omega))
  have hb4 := Lib.hid (hb03.trans (below_of_grown (grown_set w3 w.heap.size 0 (.slice A m.length cap)) (by omega) (Nat.le_refl _)))
  have hA := Lib.hid hA
  clear hkx hP3 hb3 hb03 hk3 hs1' hs2'
  go_wp2
  go_ret
  have hs1' := hs1.out
  have hs2' := hs2.out
  refine ⟨w.heap.size, A, m.length, cap, rfl, hk4.out.cell 0, by omega, ?_, hk4.out.lt, fun b o e => by have := hA.out b o e; omega, hb4.out⟩
  have hz : (w3.setCell ⟨w.heap.size, 0, none⟩ (.slice A m.length cap)).heap.size = w3.heap.size := by simp
  rw [hz]
  exact hP4.out
end Go.Proofs.YtfepjgafamaegaaGreat

/- The program's Checkpoint. -/
namespace Go.Proofs.YtfepjgafamaegaaGreat
open Go.RowKit Go.Shelf

def recOf (p : Pr) : List UInt8 := (encodeS [⟨p.1, p.2, false⟩]).1
def recsOf (m : List Pr) : List (List UInt8) := m.map recOf

theorem own_not_row {X : World} {base : Nat} {e : TypeId} {size : Nat} {v : Value} {n : Nat} {xs : List Value} {row : Option Nat} (h : X.ownsRow base e size v n xs) (hrow : ∀ r, row = some r → ∃ o : Obj, X.heap[r]? = some o ∧ o.isCells = false) : v.ownBlock = none ∨ v.ownBlock ≠ row := by
  rcases h.2 with ⟨rfl, _⟩ | ⟨g, cap, cur, rfl, _, hg, _⟩
  · exact .inl rfl
  · refine .inr fun e => ?_
    obtain ⟨o, ho, hc⟩ := hrow g e.symm
    rw [hg] at ho
    cases ho
    cases hc
theorem holdsFam_own (n₀ B n1 : Nat) (f : List Pr → List (List UInt8)) : Own (fun s W => ∃ v vals, Boxed W B 67 v ∧ W.ownsRow n₀ 23 1 v s.length vals ∧ Fam W n₀ vals (f s) ∧ n1 ≤ W.heap.size) := by
  rintro s X Y row ⟨v, vals, hv, hr, hf, hG⟩ hg hrow
  refine ⟨v, vals, hv.kept hg (fun e' => ?_), hr.kept hg (own_not_row hr hrow), hf.grown hg (fun i u hu => own_not_row (hf.each i u hu) hrow), Nat.le_trans hG hg.size⟩
  obtain ⟨o, ho, hc⟩ := hrow B e'.symm
  rw [show X.heap[B]? = _ from hv] at ho
  cases ho
  cases hc
theorem own_two_kinds {X : World} {b1 b2 : Nat} {e1 e2 : TypeId} {s1 s2 n1 n2 : Nat} {v u : Value} {xs ys : List Value} (he : e1 ≠ e2) (h : X.ownsRow b1 e1 s1 v n1 xs) (k : X.ownsRow b2 e2 s2 u n2 ys) : u.ownBlock = none ∨ u.ownBlock ≠ v.ownBlock := by
  rcases k.2 with ⟨rfl, _⟩ | ⟨g, cap, cur, rfl, _, hg, _⟩
  · exact .inl rfl
  · refine .inr fun e => ?_
    rcases h.2 with ⟨rfl, _⟩ | ⟨g2, cap2, cur2, rfl, _, hg2, _⟩
    · cases e
    · simp only [Value.ownBlock, Option.some.injEq] at e
      subst e
      rw [hg] at hg2
      injection hg2 with hg2
      injection hg2 with _ hg2
      exact he hg2.symm
theorem cell_one_new (w : World) (x : Value) (t : TypeId) : ∀ j u, [x][j]? = some u → (w.alloc (.cells #[x] t)).cell? ((⟨w.heap.size, 0, none⟩ : Addr).add j) = some u := by
  intro j u hu
  rw [Addr.add_lit, Nat.zero_add, World.cell?_alloc_at _ _ _ _ rfl]
  match j, hu with
  | 0, hu => simpa using hu
theorem chrd_one (W : World) (k v : List UInt8) : ChRd (W.alloc (.cells #[sV k, sV v, .bool false] 88)) (W.alloc (.cells #[sV k, sV v, .bool false] 88)).heap.size (some ⟨W.heap.size, 0, none⟩) 1 [⟨k, v, false⟩] := by
  refine ⟨rfl, fun i hi => ?_⟩
  obtain rfl : i = 0 := by simp at hi; omega
  have hb := Bk.new W 88 #[sV k, sV v, .bool false]
  exact ⟨W.heap.size, 0, rfl, hb.lt, hb.cell 0, hb.cell 1, hb.cell 2⟩

/-- A piece of code that ends as it should. -/
def onlyN (X : Act → World → Prop) : Exit → Act → World → Prop
  | .normal, a, w => X a w
  | _, _, _ => False
theorem wp_onlyN {P : Program} {c : Code} {Q : Exit → Act → World → Prop} {a : Act} {w : World} (h : c.wp P (onlyN (fun a w => Q .normal a w)) a w) : c.wp P Q a w := wp_mono h (fun e a w hq => by
  cases e with
  | normal => exact hq
  | _ => exact hq.elim)

attribute [local go_sem] Oper.semAt_some
set_option maxRecDepth 100000 in
set_option maxHeartbeats 4000000 in
theorem scheck_ok (g gd : Nat) (d d' : Dk) (s s' : Lg) (m : List Pr) (H : Nat → Prop) (r : Int) (w : World) (hwl : d.waits.length ≤ 800000000) (h6 : 6 ≤ d.safe.length) (hm : m.length ≤ 1000000) (hS : Srt m) (hr : r ≠ 6)
    (ha : s.reset d (recsOf m) = (r, s', d')) (h : PSt w H g gd d s m) :
    Calls Tryz.prog 41 #[.pointer (some ⟨g, 0, none⟩)] w (ActedS w H g gd r d' s' m) := by
  obtain ⟨i0, hi, hz0, hz1, hz2⟩ := info_parts Tryz.infoBytes
  have hP := h
  obtain ⟨H0, lg, bm, hbk, hpb, hom, hg0, hb0, hH0, hHg, hHb, hHlt⟩ := h
  have c0 : w.cell? ⟨g, 0, none⟩ = some (.pointer (some ⟨lg, 0, none⟩)) := hbk.cell 0
  have hgl := hbk.lt
  have HRd := Lib.hid (sready_live g ⟨lg, 0, none⟩ w c0)
  obtain ⟨w1, hw1⟩ : ∃ w1, w1 = w.alloc (.cells #[.slice none 0 0] 67) := ⟨_, rfl⟩
  have hb01 : Below w.heap.size w w1 := by rw [hw1]; exact (Below.refl _ _).alloc (Nat.le_refl _) _
  have hs1 : w1.heap.size = w.heap.size + 1 := by rw [hw1]; simp
  have bO : Boxed w1 w.heap.size 67 (.slice none 0 0) := by rw [hw1]; exact Boxed.new _ _ _
  have HAll := Lib.hid (all_any w1 H g gd d s m (hP.below hb01) hS hm)
  have HP := Lib.hid hP
  have Hw1 := Lib.hid hw1
  have Hb01 := Lib.hid hb01
  have Hs1 := Lib.hid hs1
  have HbO := Lib.hid bO
  clear hbk hpb hom hP hb01 bO c0 hs1 hw1
  refine (callsIn_wide (n := 5)).1 (callsIn_of_wp_marks Tryz.func41 rfl trivial ?_ rfl)
  simp only [Tryz.ntmps41, List.size_toArray, List.length_cons, List.length_nil, Nat.reduceAdd, Nat.reduceSub, Array.replicate_succ, Array.replicate_zero, List.push_toArray, List.append_toArray, List.nil_append, List.cons_append]
  refine wpIn_wide.2 ?_
  go_wp2_with fail
  refine HRd.out.mono ?_
  rintro e W ⟨rfl, rfl⟩
  go_wp2_with fail
  rw [← Hw1.out]
  refine HAll.out.mono ?_
  rintro e w2 ⟨B, A, len, cap, rfl, hB, hl63, hPr, hBl, hAge, hb1⟩
  go_wp2_with fail
  have hsz1 := Hs1.out
  have hsz2 := hb1.size
  have bO2 : Boxed w2 w.heap.size 67 (.slice none 0 0) := HbO.out.kept (grown_of_below hb1 none) (by simp)
  have hb02 : Below w.heap.size w w2 := below_then Hb01.out hb1
  refine (wpIn_wide (n := 5)).1 ?_
  refine wpIn_rangeFunc_ownG rfl (by decide) (gf := 81) (lb := #[.pointer (some ⟨B, 0, none⟩)]) rfl trivial (enters_of Tryz.func81 (by kernel_rfl) rfl)
    (iter_stops Fence.wide 4 trivial rfl (by decide) B w2.heap.size w.heap.size A len cap m hl63 w2 hBl (Nat.le_refl _) hB hPr (fun b o e => by have := hAge b o e; omega)) KX.trans (fun W l o o' hl ho _ _ => ⟨by simp [World.putObj], fun k hk _ => World.putObj_heap_other (by omega)⟩) (Below.refl _ _) (fun _ => rfl)
    (fun pre W => (∃ v vals, Boxed W w.heap.size 67 v ∧ W.ownsRow w2.heap.size 23 1 v pre.length vals ∧ Fam W w2.heap.size vals (recsOf pre) ∧ w2.heap.size ≤ W.heap.size) ∧ Below w.heap.size w W)
    (fun _ _ _ => False)
    (OwnFrom.and (Own.from (holdsFam_own w2.heap.size w.heap.size w2.heap.size recsOf) _) (ownFrom_below (Nat.le_refl _) (by omega)))
    (fun _ _ _ _ _ hs _ _ => hs)
    ⟨⟨_, [], bO2, World.ownsRow_nil _ _ _ _, Fam.nil _ _, Nat.le_refl _⟩, hb02⟩
    (fun x => { tmps := #[.pointer (some ⟨g, 0, none⟩), undef, .int .i64 0, .int .i64 0, .pointer (some ⟨w.heap.size, 0, none⟩), sV x.1, sV x.2, undef, undef, .pointer (some ⟨g, 0, none⟩), .int .i64 0, .int .i64 0, .bool false, undef, .pointer (some ⟨g, 0, none⟩),
      .func (.func 81) #[] #[.pointer (some ⟨B, 0, none⟩)], sV x.1, sV x.2, undef, undef, undef, undef, undef, undef, undef, undef, undef, undef, undef, undef, undef, undef, undef, undef, undef, undef, undef, undef], defers := [] }) ?assign ?body ?done ?stop
  case assign =>
    intro l x W K hK
    gi_wp2
    exact hK
  case body =>
    rintro l pre x W ⟨⟨v, vals, hv, hrow, hf, hws2⟩, hB2⟩ hlt2
    obtain ⟨x1, x2⟩ := x
    have hpl : pre.length ≤ 1000000 := by have := hPr.1; omega
    have HE := encode_any (some ⟨W.heap.size, 0, none⟩) 1 1 [⟨x1, x2, false⟩] (W.alloc (.cells #[sV x1, sV x2, .bool false] 88)) (by decide) (by decide) (chrd_one W x1 x2)
    have HE := Lib.hid HE
    have HV := Lib.hid hv
    have HR := Lib.hid hrow
    have HF := Lib.hid hf
    have HB2 := Lib.hid hB2
    have HW := Lib.hid hws2
    clear hv hrow hf hB2 hws2
    gi_wp2_with fail
    refine ⟨trivial, (CallsIn.inRound l ((callsIn_wide (n := 2)).2 HE.out)).mono ?_⟩
    rintro e W2 ⟨v2, rfl, ho, hbE⟩
    have hbA : Below W.heap.size W (W.alloc (.cells #[sV x1, sV x2, .bool false] 88)) := (Below.refl _ _).alloc (Nat.le_refl _) _
    have hbW : Below W.heap.size W W2 := below_then hbA hbE
    have hsW := hbW.size
    have hwW := HW.out
    have hf2 := HF.out.push hbW (own_mono ho (by simp)) hwW
    obtain ⟨A2, c2, rfl, hc2⟩ := own_shape ho
    have hv2 : Boxed W2 w.heap.size 67 v := HV.out.kept (grown_of_below hbW none) (by simp)
    have hrow2 := own_below HR.out hbW (fun k hk => (HR.out.lt k hk).2)
    have hB3 : Below w.heap.size w W2 := HB2.out.trans (hbW.mono HB2.out.size)
    have hrow0 := own_mono (base' := w.heap.size) hrow2 (by omega)
    have hc := hv2.cell
    have Hf2 := Lib.hid hf2
    have HbW := Lib.hid hbW
    have Hvlen := Lib.hid hrow2.1
    clear hf2 hbE hbA ho hbW
    gi_wp2_with (gi_at_builtin; refine wpListIn_append_own _ rfl _ _ 67 rfl w2.heap.size 23 i0 (.slice none 0 0) 1 24 Tryz.underlying67 hi hz0 hz1 hz2 rfl (by decide) _ _ _ rfl (hrow2.alloc _) ⟨W2.heap.size, 0, none⟩ 1 1 [.slice A2 (encodeS [⟨x1, x2, false⟩]).1.length c2] rfl rfl (cell_one_new _ _ _) (by intro u hu; simp at hu; subst hu; rfl) (by unfold maxLen; omega) (by omega) (by simp; omega) ?_; intro v' w5 hown' hgrow _; obtain ⟨g', cap', rfl⟩ := ownsRow_succ hown'; obtain ⟨hv1, hv3, hr3, hk3, hb3⟩ := hv2.appended (by decide) hrow0 hB3.size (Nat.le_refl _) (own_mono (base' := w.heap.size) hown' (by omega)) hgrow; have hc1 := hv1.cell; have hf1 := hv1.frozen)
    have hz5 := hgrow.size
    have hbW := HbW.out
    have hkx : KX w.heap.size w2.heap.size W (w5.setCell ⟨w.heap.size, 0, none⟩ (.slice (some ⟨g', 0, none⟩) (pre.length + 1) cap')) := by
      refine ⟨Nat.le_trans hsW hk3.size, fun k hk hne => ?_⟩
      rw [Below.heap_setCell _ _ _ _ hne, hgrow.block k (by simp; omega) (fun e => by have := own_block_ge hrow2 k e.symm; omega), Below.heap_alloc _ _ k (by omega)]
      exact hbW.block k (by omega)
    refine ⟨(KeepsFrom.of_grownBy (grown_of_below hbW none) (fun j e => by cases e)).trans (hk3.from _), hkx, ⟨_, vals ++ [.slice A2 (encodeS [⟨x1, x2, false⟩]).1.length c2], hv3, ?_, ?_, by simp [World.setCell] at hz5 ⊢; omega⟩, hB3.trans hb3⟩
    · rw [List.length_append]
      exact hown'.kept (grownBy_setCell' w5 w.heap.size _) (.inr (hv1.not_row (by decide) hown').symm)
    · have e1 : recsOf (pre ++ [(x1, x2)]) = recsOf pre ++ [(encodeS [⟨x1, x2, false⟩]).1] := by simp [recsOf, recOf]
      rw [e1]
      have hfa := Hf2.out.up ((Below.refl W2.heap.size W2).alloc (Nat.le_refl _) (.cells #[.slice A2 (encodeS [⟨x1, x2, false⟩]).1.length c2] 23))
      have hfb := hfa.grown hgrow (fun i u hu => own_two_kinds (by decide) (hrow2.alloc _) (hfa.each i u hu))
      exact hfb.grown (grownBy_setCell' w5 w.heap.size _) (fun i u hu => by
        cases hub : u.ownBlock with
        | none => exact .inl rfl
        | some k => exact .inr (fun e => by injection e with e; have := ((hfb.each i u hu).lt k hub).1; omega))
  case done =>
    rintro D ys W hD rfl ⟨⟨v, vals, hv, hrow1, hf, hws⟩, hB2⟩ hK
    obtain ⟨Av, cv, rfl, hcv⟩ := own_shape hrow1
    have hP4 := HP.out.below hB2
    obtain ⟨bm4, lg4, hbk4, hpb4, hom4, hcl⟩ : ∃ bm4 lg4, Bk W g 111 #[.pointer (some ⟨lg4, 0, none⟩), .map (some bm4)] ∧ (∃ H4, PB W H4 lg4 gd d s ∧ ¬ H4 g ∧ ¬ H4 bm4 ∧ ∀ k, H4 k → H k) ∧ OwnM W bm4 ys.length ys ∧ H bm4 := by
      obtain ⟨H4, lg4, bm4, q1, q2, q3, q4, q5, q6, q7, q8, q9⟩ := hP4
      exact ⟨bm4, lg4, q1, ⟨H4, q2, q4, q5, q6⟩, q3, q8⟩
    obtain ⟨H4, hpb4, hg4, hb4, hH4⟩ := hpb4
    have k0 : W.cell? ⟨g, 0, none⟩ = some (.pointer (some ⟨lg4, 0, none⟩)) := hbk4.cell 0
    have kv := hv.cell
    have hdr : Below W.heap.size W W.drew := (Below.refl _ _).drew
    have HR := reset_any lg4 gd d s H4 Av ys.length cv (recsOf ys) W.drew hwl h6 (by omega) (told_rows (by simp [recsOf]) (own_below hrow1 hdr (fun k hk => (hrow1.lt k hk).2)) (hf.up hdr)) (hpb4.below hdr)
    rw [ha] at HR
    unfold Acted at HR
    have HR := Lib.hid HR
    have HBK := Lib.hid hbk4
    have HOM := Lib.hid hom4
    have HB2 := Lib.hid hB2
    have HD := Lib.hid hK
    have HHr := Lib.hid hr
    clear hbk4 hpb4 hom4 hB2 hK hv hrow1 hf hP4 hdr hr
    go_wp2
    refine wp_onlyN ?_
    go_region_law (first | (go_simp; go_at_call 75; refine HR.out.mono ?_; rintro x w4 ⟨rfl, H1, hpb5, hmv5⟩) | (go_simp; go_at_call 66; refine (snote_ok (.pointer (some ⟨g, 0, none⟩)) r w4 HHr.out).mono ?_; rintro x w5 ⟨rfl, rfl⟩))
    all_goals dsimp only [onlyN]
    all_goals
      have hwB := HB2.out
      have hk5 : Kp H4 W w4 := (Kp.drew H4 W).trans hmv5.kp
      have hnew : ∀ k, H1 k → H4 k ∨ W.heap.size ≤ k := fun k e => hmv5.new k e
      have hDl : D < W.heap.size := (Array.getElem?_eq_some_iff.1 HD.out).1
      have hH4D : ¬ H4 D := fun e => by have := hHlt D (hH4 D e); omega
      have HKD := Lib.hid ((hk5.block D hDl hH4D).trans HD.out)
      have hbl := hHlt bm4 hcl
      have HF : Hid (∀ o, ∃ H', PSt (w4.putObj D o) H' g gd d' s' ys ∧ Mv H H' w (w4.putObj D o)) := Lib.hid fun o => by
        have hkp : Kp (fun k => k = D) w4 (w4.putObj D o) := Kp.of_grown (grownBy_putObj' w4 D o) rfl
        have hws := hwB.size
        have h1lt : ∀ k, H1 k → k < w4.heap.size := by obtain ⟨_, _, _, _, _, _, _, h⟩ := hpb5; exact h
        have hz := hkp.size
        have hz5 := hk5.size
        refine ⟨fun k => H k ∨ H1 k, ⟨H1, lg4, bm4, (HBK.out.kp hk5 hg4).kp hkp (fun e => by omega), hpb5.kp hkp (fun k hk e => ?_), (HOM.out.kp hk5 hb4).kp hkp (fun e => by omega), fun e => ?_, fun e => ?_, fun k e => .inr e, .inl hHg, .inl hcl, fun k e => ?_⟩, ⟨?_, fun k e => ?_⟩⟩
        · subst e; exact (hnew _ hk).elim hH4D (fun h => by omega)
        · exact (hnew _ e).elim hg4 (fun h => by omega)
        · exact (hnew _ e).elim hb4 (fun h => by omega)
        · rcases e with e | e
          · have := hHlt k e; omega
          · have := h1lt k e; omega
        · exact ((Kp.of_below hwB : Kp H w W).trans (hk5.mono hH4)).trans' hkp (fun i e => .inr (by omega))
        · rcases e with e | e
          · exact .inl e
          · exact (hnew k e).imp (hH4 k) (fun h => by omega)
      clear hpb5 hmv5 hk5 hnew
      go_wp2
      refine ⟨by simp, .inl ⟨_, _, rfl, run_takeDeferred HKD.out, ?_⟩⟩
      exact ⟨_, results_tmp rfl _ _ _, rfl, HF.out _⟩
  case stop =>
    rintro D c pre W _ _ h _
    exact h.elim
end Go.Proofs.YtfepjgafamaegaaGreat

/- The program's Do: what is refused, and where the log is full. -/
namespace Go.Proofs.YtfepjgafamaegaaGreat
open Go.RowKit Go.Maps

/-- The store behind a call of its log. -/
theorem pst_step {w w2 w3 : World} {H H0 H1 : Nat → Prop} {g gd lg bm : Nat} {d : Dk} {s : Lg} {m : List Pr} (hbk : Bk w g 111 #[.pointer (some ⟨lg, 0, none⟩), .map (some bm)]) (hom : OwnM w bm m.length m) (hg0 : ¬ H0 g) (hb0 : ¬ H0 bm) (hH0 : ∀ k, H0 k → H k)
    (hHg : H g) (hHb : H bm) (hHlt : ∀ k, H k → k < w.heap.size) (hb2 : Below w.heap.size w w2) (hpb : PB w3 H1 lg gd d s) (hmv : Mv H0 H1 w2 w3) : PSt w3 (fun k => H k ∨ H1 k) g gd d s m ∧ Mv H (fun k => H k ∨ H1 k) w w3 := by
  have hk3 : Kp H0 w w3 := (Kp.of_below hb2).trans hmv.kp
  have hH1 : ∀ k, H1 k → H0 k ∨ w.heap.size ≤ k := fun k e => (hmv.new k e).imp id (fun h => by have := hb2.size; omega)
  have h1lt : ∀ k, H1 k → k < w3.heap.size := by obtain ⟨_, _, _, _, _, _, _, h⟩ := hpb; exact h
  have hz := hk3.size
  have hgl := hHlt g hHg
  have hbl := hHlt bm hHb
  refine ⟨⟨H1, lg, bm, hbk.kp hk3 hg0, hpb, hom.kp hk3 hb0, fun e => ?_, fun e => ?_, fun k e => .inr e, .inl hHg, .inl hHb, fun k e => ?_⟩, ⟨hk3.mono hH0, fun k e => ?_⟩⟩
  · exact (hH1 _ e).elim hg0 (fun e => by omega)
  · exact (hH1 _ e).elim hb0 (fun e => by omega)
  · rcases e with e | e
    · have := hHlt k e; omega
    · exact h1lt k e
  · rcases e with e | e
    · exact .inl e
    · exact (hH1 k e).imp (hH0 k) id

set_option maxRecDepth 100000 in
set_option maxHeartbeats 1000000 in
/-- What is no batch. -/
theorem sdo_bad (g gd : Nat) (d : Dk) (s : Lg) (m : List Pr) (H : Nat → Prop) (A : Option Addr) (n c : Nat) (l : List Chg) (b : List UInt8) (r : Int) (w : World)
    (hc : n ≤ c) (hcm : c ≤ 9223372036854775807) (hl : ChRd w w.heap.size A n l) (he : encodeS l = (b, r)) (hr : r ≠ 0) (h : PSt w H g gd d s m) :
    Calls Tryz.prog 32 #[.pointer (some ⟨g, 0, none⟩), .slice A n c] w (ActedS w H g gd r d s m) := by
  have HP := Lib.hid h
  obtain ⟨H0, lg, bm, hbk, -⟩ := h
  have c0 : w.cell? ⟨g, 0, none⟩ = some (.pointer (some ⟨lg, 0, none⟩)) := hbk.cell 0
  have HRd := Lib.hid (sready_live g ⟨lg, 0, none⟩ w c0)
  have HEn := encode_any A n c l w hc hcm hl
  rw [he] at HEn
  have HEn := Lib.hid HEn
  clear hbk hl he
  go_enter Tryz.func32, Tryz.ntmps32
  go_wp2_with fail
  refine HRd.out.mono ?_
  clear HRd
  rintro x w1 ⟨rfl, rfl⟩
  go_wp2_with fail
  refine HEn.out.mono ?_
  clear HEn
  rintro x w2 ⟨v, rfl, -, hb2⟩
  have hr' : ¬ r = 0 := hr
  have HB := Lib.hid hb2
  clear hb2
  go_wp2
  go_ret
  exact ⟨rfl, H, HP.out.below HB.out, Mv.of (Kp.of_below HB.out)⟩

set_option maxRecDepth 100000 in
set_option maxHeartbeats 4000000 in
/-- The log refuses. -/
theorem sdo_err (g gd : Nat) (d d' : Dk) (s s' : Lg) (m : List Pr) (H : Nat → Prop) (A : Option Addr) (n c : Nat) (l : List Chg) (b : List UInt8) (r : Int) (w : World) (hwl : d.waits.length ≤ 800000000) (h6 : 6 ≤ d.safe.length)
    (hc : n ≤ c) (hcm : c ≤ 9223372036854775807) (hl : ChRd w w.heap.size A n l) (he : encodeS l = (b, 0)) (ha : s.append d b = (r, s', d')) (hr0 : r ≠ 0) (hr5 : r ≠ 5) (hr6 : r ≠ 6) (h : PSt w H g gd d s m) :
    Calls Tryz.prog 32 #[.pointer (some ⟨g, 0, none⟩), .slice A n c] w (ActedS w H g gd r d' s' m) := by
  obtain ⟨H0, lg, bm, hbk, hpb, hom, hg0, hb0, hH0, hHg, hHb, hHlt⟩ := h
  have c0 : w.cell? ⟨g, 0, none⟩ = some (.pointer (some ⟨lg, 0, none⟩)) := hbk.cell 0
  have HRd := Lib.hid (sready_live g ⟨lg, 0, none⟩ w c0)
  have HEn := encode_any A n c l w hc hcm hl
  rw [he] at HEn
  have HEn := Lib.hid HEn
  have HBK := Lib.hid hbk
  have HPB := Lib.hid hpb
  have HOM := Lib.hid hom
  clear hbk hpb hom hl he
  go_enter Tryz.func32, Tryz.ntmps32
  go_wp2_with fail
  refine HRd.out.mono ?_
  clear HRd
  rintro x w1 ⟨rfl, rfl⟩
  go_wp2_with fail
  refine HEn.out.mono ?_
  clear HEn
  rintro x w2 ⟨v, rfl, ho, hb2⟩
  obtain ⟨A2, c2, rfl, hc2⟩ := own_shape ho
  have k0 : w2.cell? ⟨g, 0, none⟩ = some (.pointer (some ⟨lg, 0, none⟩)) := (HBK.out.below hb2 HBK.out.lt).cell 0
  have HAp := append_any lg gd d s H0 A2 b.length c2 b w2 hwl h6 hc2.1 (by have := hc2.2; unfold maxLen at this; omega) (Rd.of_own ho) (HPB.out.below hb2)
  rw [ha] at HAp
  unfold Acted at HAp
  have HAp := Lib.hid HAp
  have HB2 := Lib.hid hb2
  clear ho hb2
  go_wp2_with fail
  refine HAp.out.mono ?_
  clear HAp
  rintro x w3 ⟨rfl, H1, hpb3, hmv3⟩
  have HF := Lib.hid (pst_step HBK.out HOM.out hg0 hb0 hH0 hHg hHb hHlt HB2.out hpb3 hmv3)
  have HN := Lib.hid (snote_ok (.pointer (some ⟨g, 0, none⟩)) r w3 hr6)
  have hr0' : ¬ r = 0 := hr0
  have hr5' : ¬ r = 5 := hr5
  clear hpb3 hmv3
  go_wp2_with fail
  refine HN.out.mono ?_
  rintro x w4 ⟨rfl, rfl⟩
  go_wp2
  go_ret
  exact ⟨rfl, _, HF.out.1, HF.out.2⟩
end Go.Proofs.YtfepjgafamaegaaGreat

/- The program's Do where the log is full. -/
namespace Go.Proofs.YtfepjgafamaegaaGreat
open Go.RowKit Go.Maps

set_option maxRecDepth 100000 in
set_option maxHeartbeats 4000000 in
/-- The log is full, and the checkpoint fails. -/
theorem sdo_full_chk (g gd : Nat) (d d1 d2 : Dk) (s s1 s2 : Lg) (m : List Pr) (H : Nat → Prop) (A : Option Addr) (n c : Nat) (l : List Chg) (b : List UInt8) (r : Int) (w : World) (hwl : d.waits.length ≤ 800000000) (h6 : 6 ≤ d.safe.length) (hm : m.length ≤ 1000000) (hS : Srt m)
    (hc : n ≤ c) (hcm : c ≤ 9223372036854775807) (hl : ChRd w w.heap.size A n l) (he : encodeS l = (b, 0)) (ha : s.append d b = (5, s1, d1)) (hw1 : d1.waits.length ≤ 800000000) (h61 : 6 ≤ d1.safe.length) (hck : s1.reset d1 (recsOf m) = (r, s2, d2)) (hr0 : r ≠ 0) (hr6 : r ≠ 6) (h : PSt w H g gd d s m) :
    Calls Tryz.prog 32 #[.pointer (some ⟨g, 0, none⟩), .slice A n c] w (ActedS w H g gd r d2 s2 m) := by
  obtain ⟨H0, lg, bm, hbk, hpb, hom, hg0, hb0, hH0, hHg, hHb, hHlt⟩ := h
  have c0 : w.cell? ⟨g, 0, none⟩ = some (.pointer (some ⟨lg, 0, none⟩)) := hbk.cell 0
  have HRd := Lib.hid (sready_live g ⟨lg, 0, none⟩ w c0)
  have HEn := encode_any A n c l w hc hcm hl
  rw [he] at HEn
  have HEn := Lib.hid HEn
  have HBK := Lib.hid hbk
  have HPB := Lib.hid hpb
  have HOM := Lib.hid hom
  clear hbk hpb hom hl he
  go_enter Tryz.func32, Tryz.ntmps32
  go_wp2_with fail
  refine HRd.out.mono ?_
  clear HRd
  rintro x w1 ⟨rfl, rfl⟩
  go_wp2_with fail
  refine HEn.out.mono ?_
  clear HEn
  rintro x w2 ⟨v, rfl, ho, hb2⟩
  obtain ⟨A2, c2, rfl, hc2⟩ := own_shape ho
  have k0 : w2.cell? ⟨g, 0, none⟩ = some (.pointer (some ⟨lg, 0, none⟩)) := (HBK.out.below hb2 HBK.out.lt).cell 0
  have HAp := append_any lg gd d s H0 A2 b.length c2 b w2 hwl h6 hc2.1 (by have := hc2.2; unfold maxLen at this; omega) (Rd.of_own ho) (HPB.out.below hb2)
  rw [ha] at HAp
  unfold Acted at HAp
  have HAp := Lib.hid HAp
  have HB2 := Lib.hid hb2
  clear ho hb2
  go_wp2_with fail
  refine HAp.out.mono ?_
  clear HAp
  rintro x w3 ⟨rfl, H1, hpb3, hmv3⟩
  have HF := Lib.hid (pst_step HBK.out HOM.out hg0 hb0 hH0 hHg hHb hHlt HB2.out hpb3 hmv3)
  have HCk := scheck_ok g gd d1 d2 s1 s2 m _ r w3 hw1 h61 hm hS hr6 hck HF.out.1
  unfold ActedS at HCk
  have HCk := Lib.hid HCk
  have hr0' : ¬ r = 0 := hr0
  clear hpb3 hmv3
  go_wp2_with fail
  refine HCk.out.mono ?_
  rintro x w4 ⟨rfl, H4, hP4, hmv4⟩
  have HP4 := Lib.hid hP4
  have HM4 := Lib.hid hmv4
  clear hP4 hmv4
  go_wp2
  go_ret
  exact ⟨rfl, H4, HP4.out, HF.out.2.trans HM4.out⟩

set_option maxRecDepth 100000 in
set_option maxHeartbeats 8000000 in
/-- The log is full, the checkpoint makes room. -/
theorem sdo_full (g gd : Nat) (d d1 d2 d3 : Dk) (s s1 s2 s3 : Lg) (m : List Pr) (H : Nat → Prop) (A : Option Addr) (n c : Nat) (l : List Chg) (b : List UInt8) (w : World) (hwl : d.waits.length ≤ 800000000) (h6 : 6 ≤ d.safe.length) (hm : m.length ≤ 1000000) (hS : Srt m)
    (hc : n ≤ c) (hcm : c ≤ 9223372036854775807) (hls : ∀ W, Kp H w W → ChRd W W.heap.size A n l) (he : encodeS l = (b, 0)) (ha : s.append d b = (5, s1, d1)) (hw1 : d1.waits.length ≤ 800000000) (h61 : 6 ≤ d1.safe.length) (hck : s1.reset d1 (recsOf m) = (0, s2, d2))
    (hw2 : d2.waits.length ≤ 800000000) (h62 : 6 ≤ d2.safe.length) (ha2 : s2.append d2 b = (0, s3, d3)) (h : PSt w H g gd d s m) :
    Calls Tryz.prog 32 #[.pointer (some ⟨g, 0, none⟩), .slice A n c] w (ActedS w H g gd 0 d3 s3 (layL m l)) := by
  have hl := hls w (Kp.refl _ _)
  have HLS := Lib.hid hls
  obtain ⟨H0, lg, bm, hbk, hpb, hom, hg0, hb0, hH0, hHg, hHb, hHlt⟩ := h
  have c0 : w.cell? ⟨g, 0, none⟩ = some (.pointer (some ⟨lg, 0, none⟩)) := hbk.cell 0
  have HRd := Lib.hid (sready_live g ⟨lg, 0, none⟩ w c0)
  have HEn := encode_any A n c l w hc hcm hl
  rw [he] at HEn
  have HEn := Lib.hid HEn
  have hok := (encodeS_ok he).1
  unfold rightL at hok
  simp only [Bool.and_eq_true, decide_eq_true_eq] at hok
  have Hok := Lib.hid hok
  have Hln := Lib.hid hl.1
  have hbl : b.length ≤ 1024 := by have := encodeS_len l; rw [he] at this; exact this
  have HBK := Lib.hid hbk
  have HPB := Lib.hid hpb
  have HOM := Lib.hid hom
  clear hbk hpb hom hl hls hok he
  go_enter Tryz.func32, Tryz.ntmps32
  go_wp2_with fail
  refine HRd.out.mono ?_
  clear HRd
  rintro x w1 ⟨rfl, rfl⟩
  go_wp2_with fail
  refine HEn.out.mono ?_
  clear HEn
  rintro x w2 ⟨v, rfl, ho, hb2⟩
  obtain ⟨A2, c2, rfl, hc2⟩ := own_shape ho
  have k0 : w2.cell? ⟨g, 0, none⟩ = some (.pointer (some ⟨lg, 0, none⟩)) := (HBK.out.below hb2 HBK.out.lt).cell 0
  have HAp := append_any lg gd d s H0 A2 b.length c2 b w2 hwl h6 hc2.1 (by have := hc2.2; unfold maxLen at this; omega) (Rd.of_own ho) (HPB.out.below hb2)
  rw [ha] at HAp
  unfold Acted at HAp
  have HAp := Lib.hid HAp
  have HB2 := Lib.hid hb2
  have HO := Lib.hid ho
  clear ho hb2
  go_wp2_with fail
  refine HAp.out.mono ?_
  clear HAp
  rintro x w3 ⟨rfl, H1, hpb3, hmv3⟩
  have hst := pst_step HBK.out HOM.out hg0 hb0 hH0 hHg hHb hHlt HB2.out hpb3 hmv3
  have HCk := scheck_ok g gd d1 d2 s1 s2 m _ 0 w3 hw1 h61 hm hS (by decide) hck hst.1
  unfold ActedS at HCk
  have HCk := Lib.hid HCk
  have HM3 := Lib.hid hst.2
  have HK3 := Lib.hid hmv3
  clear hpb3 hmv3 hst
  go_wp2_with fail
  refine HCk.out.mono ?_
  rintro x w4 ⟨rfl, H4, hP4, hmv4⟩
  have hM14 : Mv H H4 w w4 := HM3.out.trans hmv4
  have hk24 : Kp H w2 w4 := (HK3.out.kp.mono hH0).trans' hmv4.kp (fun k e => by
    rcases e with e | e
    · exact .inl e
    · exact (HK3.out.new k e).imp (hH0 k) id)
  have ho4 := own_kp HO.out hk24 (fun k hk e => by have := (HO.out.lt k hk).1; have := hHlt k e; omega)
  obtain ⟨G0, lg4, bm4, hbk4, hpb4, hom4, hg4, hb4, hG0, hHg4, hHb4, hHlt4⟩ := hP4
  have k4 : w4.cell? ⟨g, 0, none⟩ = some (.pointer (some ⟨lg4, 0, none⟩)) := hbk4.cell 0
  have HAp2 := append_any lg4 gd d2 s2 G0 A2 b.length c2 b w4 hw2 h62 hc2.1 (by have := hc2.2; unfold maxLen at this; omega) (Rd.of_own ho4) hpb4
  rw [ha2] at HAp2
  unfold Acted at HAp2
  have HAp2 := Lib.hid HAp2
  have HBK4 := Lib.hid hbk4
  have HOM4 := Lib.hid hom4
  have HM14 := Lib.hid hM14
  clear hbk4 hpb4 hom4 hM14 hk24 ho4 hmv4 HCk HO
  go_wp2_with fail
  refine HAp2.out.mono ?_
  clear HAp2
  rintro x w5 ⟨rfl, G1, hpb5, hmv5⟩
  have hst5 := pst_step HBK4.out HOM4.out hg4 hb4 hG0 hHg4 hHb4 hHlt4 (Below.refl _ _) hpb5 hmv5
  have hm5 : Mv H (fun k => H4 k ∨ G1 k) w w5 := HM14.out.trans hst5.2
  have hgb : g ≠ bm4 := fun e => by subst e; exact HOM4.out.no_cell k4
  have hbk5 := HBK4.out.kp hmv5.kp hg4
  have hom5 := HOM4.out.kp hmv5.kp hb4
  have hl5 : ChRd w5 w5.heap.size A n l := HLS.out w5 hm5.kp
  have HAy := Lib.hid (apply_any g bm4 m.length n c (.pointer (some ⟨lg4, 0, none⟩)) A m l w5 (by have := Hok.out.1; have := Hln.out; omega) Hok.out.2 (by omega) hbk5 hom5 hl5)
  have HBK5 := Lib.hid hbk5
  have HPB5 := Lib.hid hpb5
  have HM5 := Lib.hid hm5
  have HN5 := Lib.hid hmv5
  clear hbk5 hom5 hl5 hpb5 hm5 hmv5 hst5
  go_wp2_with fail
  refine HAy.out.mono ?_
  clear HAy
  rintro x w6 ⟨rfl, hom6, hg6⟩
  have HOM6 := Lib.hid hom6
  have HG6 := Lib.hid hg6
  clear hom6 hg6
  go_wp2
  go_ret
  have hkb : Kp (fun k => k = bm4) w5 w6 := Kp.of_grown HG6.out rfl
  have g1lt : ∀ k, G1 k → k < w5.heap.size := by obtain ⟨_, _, _, _, _, _, _, h⟩ := HPB5.out; exact h
  have hz5 := HN5.out.kp.size
  have hz6 := hkb.size
  have hblt := HOM4.out.lt
  have hglt := HBK4.out.lt
  refine ⟨rfl, fun k => H4 k ∨ G1 k, ⟨G1, lg4, bm4, HBK5.out.kp hkb (fun e => hgb e), HPB5.out.kp hkb (fun k hk e => ?_), HOM6.out.tight, fun e => ?_, fun e => ?_, fun k e => .inr e, .inl hHg4, .inl hHb4, fun k e => ?_⟩, ⟨HM5.out.kp.trans' hkb (fun i e => by subst e; exact HM14.out.new _ hHb4), fun k e => HM5.out.new k e⟩⟩
  · subst e; exact (HN5.out.new _ hk).elim hb4 (fun e => by omega)
  · exact (HN5.out.new _ e).elim hg4 (fun e => by omega)
  · exact (HN5.out.new _ e).elim hb4 (fun e => by omega)
  · rcases e with e | e
    · have := hHlt4 k e; omega
    · have := g1lt k e; omega
end Go.Proofs.YtfepjgafamaegaaGreat

/- Plain: a store on a disk whose power stays: what a batch, a sync, a checkpoint, a crash make of it. -/
namespace Go.Proofs.YtfepjgafamaegaaGreat

/-- What a batch makes of a store that lives. -/
def doS (s : Lg) (m : List Pr) (d : Dk) (l : List Chg) : Int × Lg × List Pr × Dk :=
  if (encodeS l).2 ≠ 0 then ((encodeS l).2, s, m, d)
  else if (s.append d (encodeS l).1).1 = 5 then
    if ((s.append d (encodeS l).1).2.1.reset (s.append d (encodeS l).1).2.2 (recsOf m)).1 = 0 then
      ((((s.append d (encodeS l).1).2.1.reset (s.append d (encodeS l).1).2.2 (recsOf m)).2.1.append ((s.append d (encodeS l).1).2.1.reset (s.append d (encodeS l).1).2.2 (recsOf m)).2.2 (encodeS l).1).1,
       (((s.append d (encodeS l).1).2.1.reset (s.append d (encodeS l).1).2.2 (recsOf m)).2.1.append ((s.append d (encodeS l).1).2.1.reset (s.append d (encodeS l).1).2.2 (recsOf m)).2.2 (encodeS l).1).2.1,
       (if (((s.append d (encodeS l).1).2.1.reset (s.append d (encodeS l).1).2.2 (recsOf m)).2.1.append ((s.append d (encodeS l).1).2.1.reset (s.append d (encodeS l).1).2.2 (recsOf m)).2.2 (encodeS l).1).1 = 0 then layL m l else m),
       (((s.append d (encodeS l).1).2.1.reset (s.append d (encodeS l).1).2.2 (recsOf m)).2.1.append ((s.append d (encodeS l).1).2.1.reset (s.append d (encodeS l).1).2.2 (recsOf m)).2.2 (encodeS l).1).2.2)
    else (((s.append d (encodeS l).1).2.1.reset (s.append d (encodeS l).1).2.2 (recsOf m)).1, ((s.append d (encodeS l).1).2.1.reset (s.append d (encodeS l).1).2.2 (recsOf m)).2.1, m, ((s.append d (encodeS l).1).2.1.reset (s.append d (encodeS l).1).2.2 (recsOf m)).2.2)
  else ((s.append d (encodeS l).1).1, (s.append d (encodeS l).1).2.1, (if (s.append d (encodeS l).1).1 = 0 then layL m l else m), (s.append d (encodeS l).1).2.2)

def okP (p : Pr) : Prop := 1 ≤ p.1.length ∧ p.1.length ≤ 16 ∧ p.2.length ≤ 128
theorem okP_put {L : List Pr} {k v : List UInt8} (h : ∀ p ∈ L, okP p) (hk : okP (k, v)) : ∀ p ∈ putP k v L, okP p := by
  intro p hp
  unfold putP at hp
  rcases (insP_mem _ _ _).1 hp with rfl | hp
  · exact hk
  · exact h p ((List.mem_filter.1 hp).1)
theorem okP_lay {L : List Pr} {c : Chg} (h : ∀ p ∈ L, okP p) (hc : okC c = true) : ∀ p ∈ layC L c, okP p := by
  unfold layC
  unfold okC at hc
  simp only [Bool.and_eq_true, decide_eq_true_eq] at hc
  cases hg : c.gone with
  | true => rw [if_pos rfl]; exact fun p hp => h p ((List.mem_filter.1 hp).1)
  | false =>
    rw [hg] at hc
    simp only [Bool.false_eq_true, if_false, decide_eq_true_eq] at hc
    rw [if_neg (by decide)]
    exact okP_put h ⟨hc.1, hc.2.1, hc.2.2⟩
theorem okP_layL {b : List Chg} (hb : b.all okC = true) : ∀ {L : List Pr}, (∀ p ∈ L, okP p) → ∀ p ∈ layL L b, okP p := by
  induction b with
  | nil => intro L h; exact h
  | cons c r ih =>
    intro L h
    simp only [List.all_cons, Bool.and_eq_true] at hb
    exact ih hb.2 (okP_lay h hb.1)
theorem okP_repl {recs : List (List UInt8)} : ∀ {L : List Pr}, (∀ p ∈ L, okP p) → ∀ p ∈ replS L recs, okP p := by
  induction recs with
  | nil => intro L h; exact h
  | cons b r ih => intro L h; exact ih (okP_layL (decode_ok b) h)

theorem rec_enc {p : Pr} (h : okP p) : encodeS [⟨p.1, p.2, false⟩] = (recOf p, 0) ∧ (recOf p).length ≤ 1024 := by
  have hr : rightL [⟨p.1, p.2, false⟩] = true := by
    unfold rightL okC
    simp [h.1, h.2.1, h.2.2]
  have hb : (encL [⟨p.1, p.2, false⟩]).length ≤ 1024 := by
    have h1 : ([⟨p.1, p.2, false⟩] : List Chg).all okC = true := by unfold rightL at hr; simp only [Bool.and_eq_true] at hr; exact hr.2
    have h2 := bodyL_len _ h1
    unfold encL
    rw [List.length_append]
    have h3 : (Lib.uvarint ([⟨p.1, p.2, false⟩] : List Chg).length).length = 1 := by
      show (Lib.uvarint 1).length = 1
      rw [uvarint_one]; rfl
    simp only [List.length_cons, List.length_nil] at h2 h3 ⊢
    omega
  have e := encodeS_of hr hb
  unfold recOf
  rw [e]
  exact ⟨rfl, hb⟩
theorem decode_rec {p : Pr} (h : okP p) : decodeS (recOf p) = ([⟨p.1, p.2, false⟩], 0) := decode_of (rec_enc h).1
theorem insP_end (x : Pr) : ∀ L : List Pr, (∀ p ∈ L, lessB p.1 x.1 = true) → insP x L = L ++ [x]
  | [], _ => rfl
  | y :: r, h => by
    unfold insP
    rw [if_neg (by rw [lessB_asymm (h y List.mem_cons_self)]; decide), insP_end x r fun p hp => h p (List.mem_cons_of_mem _ hp)]
    rfl
theorem putP_end {L : List Pr} {x : Pr} (h : ∀ p ∈ L, lessB p.1 x.1 = true) : putP x.1 x.2 L = L ++ [x] := by
  unfold putP
  rw [delP_none fun p hp e => by have := h p hp; rw [e, lessB_irrefl] at this; cases this]
  exact insP_end x L h
theorem repl_recs {m : List Pr} (hS : Srt m) (hk : ∀ p ∈ m, okP p) : replS [] (recsOf m) = m ∧ allDec (recsOf m) = true := by
  have key : ∀ k, k ≤ m.length → replS [] (recsOf (m.take k)) = m.take k := by
    intro k
    induction k with
    | zero => intro _; rfl
    | succ k ih =>
      intro hk1
      have hkl : k < m.length := by omega
      have e : recsOf (m.take (k + 1)) = recsOf (m.take k) ++ [recOf m[k]] := by unfold recsOf; rw [List.take_succ_eq_append_getElem hkl, List.map_append]; rfl
      have e2 : replS [] (recsOf (m.take k) ++ [recOf m[k]]) = layL (replS [] (recsOf (m.take k))) (decodeS (recOf m[k])).1 := by unfold replS; rw [List.foldl_append]; rfl
      rw [e, e2, ih (by omega), decode_rec (hk _ (List.getElem_mem hkl)), List.take_succ_eq_append_getElem hkl]
      show putP m[k].1 m[k].2 (m.take k) = _
      refine putP_end fun p hp => ?_
      obtain ⟨i, hi, rfl⟩ := List.mem_iff_getElem.1 hp
      have hi' : i < k := by rw [List.length_take] at hi; omega
      rw [List.getElem_take]
      exact (List.pairwise_iff_getElem.1 hS) i k (by omega) hkl hi'
  refine ⟨by have := key m.length (Nat.le_refl _); rwa [List.take_length] at this, ?_⟩
  unfold allDec recsOf
  rw [List.all_eq_true]
  intro b hb
  obtain ⟨p, hp, rfl⟩ := List.mem_map.1 hb
  rw [decode_rec (hk p hp)]
  rfl

/-- A store on a disk whose power stays. -/
structure SFree (N : Nat) (d : Dk) (s : Lg) (m : List Pr) : Prop where
  on : OnDisk d s
  free : d.Free
  live : s.gone = false
  len : d.safe.length = N
  dec : allDec s.recs = true
  eq : m = replS [] s.recs
section
variable {N : Nat} {d : Dk} {s : Lg} {m : List Pr}
theorem SFree.srt (h : SFree N d s m) : Srt m := by rw [h.eq]; exact Srt.repl (by unfold Srt; exact List.Pairwise.nil)
theorem SFree.ok (h : SFree N d s m) : ∀ p ∈ m, okP p := by rw [h.eq]; exact okP_repl (fun p hp => (List.not_mem_nil hp).elim)
theorem SFree.small (h : SFree N d s m) (hN : N ≤ 2048) : m.length ≤ 200000 := by
  have h1 := replS_len s.recs []
  have h2 := usedF_count s.recs
  have h3 := h.on.lg.fits
  have h4 : d.bytes ≤ 40000 := by have := h.len; unfold Dk.bytes Dk.half halfN; omega
  rw [h.eq]
  simp only [List.length_nil] at h1
  omega
theorem SFree.append (h : SFree N d s m) {l : List Chg} {b : List UInt8} (he : encodeS l = (b, 0)) :
    (∃ d', s.append d b = (0, { s with recs := s.recs ++ [b] }, d') ∧ SFree N d' { s with recs := s.recs ++ [b] } (layL m l)) ∨ s.append d b = (5, s, d) := by
  have hb : b.length ≤ 1024 := by have := encodeS_len l; rw [he] at this; exact this
  by_cases hr : usedF s.recs + (10 + b.length) ≤ d.bytes
  · obtain ⟨d', h1, h2, h3, h4⟩ := append_on h.on h.free h.live hb hr
    refine .inl ⟨d', h1, h2, h3, h.live, by rw [h4]; exact h.len, ?_, ?_⟩
    · unfold allDec
      rw [List.all_append]
      have := h.dec
      unfold allDec at this
      rw [this, Bool.true_and, List.all_cons, List.all_nil, Bool.and_true, decode_of he]
      rfl
    · show _ = replS [] (s.recs ++ [b])
      unfold replS
      rw [List.foldl_append]
      show _ = layL (replS [] s.recs) (decodeS b).1
      rw [decode_of he, ← h.eq]
  · exact .inr (append_full h.live hb (by omega))
theorem SFree.reset (h : SFree N d s m) : (∃ d' s', s.reset d (recsOf m) = (0, s', d') ∧ SFree N d' s' m ∧ d'.waits = []) ∨ (∃ r, r ≠ 0 ∧ r ≠ 6 ∧ s.reset d (recsOf m) = (r, s, d) ∧ r = 5) := by
  obtain ⟨q1, q2⟩ := repl_recs h.srt h.ok
  by_cases hn : nextE d.bytes s.epoch (recsOf m) = 0
  · obtain ⟨d', h1, h2, h3, h4, h5⟩ := reset_on h.on h.free h.live hn
    exact .inl ⟨d', _, h1, ⟨h2, h3, rfl, by rw [h5]; exact h.len, q2, q1.symm⟩, h4⟩
  · have h5 : nextE d.bytes s.epoch (recsOf m) = 5 := by
      have hl : longAny (recsOf m) = false := by
        unfold longAny
        rw [List.any_eq_false]
        intro r hr
        unfold recsOf at hr
        obtain ⟨p, hp, rfl⟩ := List.mem_map.1 hr
        have := (rec_enc (h.ok p hp)).2
        simpa using this
      rw [nextE_not hl] at hn ⊢
      split
      · rfl
      · rename_i hh; rw [if_neg hh] at hn; exact absurd rfl hn
    refine .inr ⟨5, by decide, by decide, ?_, rfl⟩
    rw [reset_not h.live hn, h5]
theorem SFree.sync (h : SFree N d s m) : ∃ d' s', s.sync d = (0, s', d') ∧ SFree N d' s' m ∧ d'.waits = [] ∧ s'.safe = s'.recs.length := by
  obtain ⟨d', h1, h2, h3, h4, h5⟩ := sync_on h.on h.free h.live
  exact ⟨d', _, h1, ⟨h2, h3, h.live, by rw [h5]; exact h.len, h.dec, h.eq⟩, h4, rfl⟩
/-- Opened anew. -/
theorem SFree.of_open {dc : Dk} (hok : dc.Ok) (h6 : 6 ≤ dc.safe.length) (hf : dc.Free) (hl : dc.safe.length = N) (ho : (openS dc).2.1 = some (s, m)) : (openS dc).1 = 0 ∧ SFree N (openS dc).2.2 s m := by
  obtain ⟨d', h1, h2, h3, h4, _⟩ := open_free hok h6 hf
  unfold openS at ho ⊢
  rw [h1] at ho ⊢
  simp only at ho ⊢
  by_cases hd : allDec dc.found.recs = true
  · rw [if_pos hd] at ho ⊢
    simp only [Option.some.injEq, Prod.mk.injEq] at ho
    obtain ⟨rfl, rfl⟩ := ho
    exact ⟨rfl, h3, h2, rfl, by show d'.safe.length = N; omega, hd, rfl⟩
  · rw [if_neg hd] at ho
    cases ho
/-- A disk without writes that wait, crashed and opened: the same. -/
theorem SFree.again (h : SFree N d s m) (hw : d.waits = []) (ks : List Int) : ∃ s', openS (d.crash ks) = (0, some (s', m), d.crash ks) ∧ s'.safe = s'.recs.length := by
  have hc := crash_on h.on hw ks
  have ho := open_again hc rfl
  have hfo := hc.found
  refine ⟨{ epoch := s.epoch, recs := s.recs, safe := s.recs.length, gone := false }, ?_, rfl⟩
  unfold openS
  rw [ho]
  simp only
  rw [hfo]
  simp only
  rw [if_pos h.dec, ← h.eq]
theorem fresh_open (n : Nat) (h : 6 ≤ n) : openS (Dk.new n) = (0, some ({ epoch := 0, recs := [], safe := 0, gone := false }, []), Dk.new n) := by
  have h1 := fresh_on n h
  have h2 := open_again h1 rfl
  unfold openS
  rw [h2, h1.found]
  rfl
theorem fresh_free (n : Nat) (h : 6 ≤ n) : SFree n (Dk.new n) { epoch := 0, recs := [], safe := 0, gone := false } [] := ⟨fresh_on n h, Dk.new_free n, rfl, by simp [Dk.new], rfl, rfl⟩
/-- A batch. -/
theorem SFree.do_ (h : SFree N d s m) (hN : N ≤ 2048) (l : List Chg) : (doS s m d l).1 ≠ 6 ∧ SFree N (doS s m d l).2.2.2 (doS s m d l).2.1 (doS s m d l).2.2.1 ∧ (doS s m d l).2.2.2.waits.length ≤ d.waits.length + 1100 := by
  unfold doS
  by_cases he : (encodeS l).2 ≠ 0
  · rw [if_pos he]
    refine ⟨?_, h, by simp⟩
    show (encodeS l).2 ≠ 6
    unfold encodeS
    split
    · exact (by decide : (2 : Int) ≠ 6)
    · split
      · exact (by decide : (3 : Int) ≠ 6)
      · exact (by decide : (0 : Int) ≠ 6)
  · rw [if_neg he]
    have he' : encodeS l = ((encodeS l).1, 0) := Prod.ext rfl (by simpa using he)
    have hw := sappend_waits s d (encodeS l).1 (by have := h.len; omega)
    rcases h.append he' with ⟨d', h1, h2⟩ | h1
    · rw [h1] at hw ⊢
      simp only
      rw [if_neg (by decide)]
      simp only [if_true]
      exact ⟨(by decide : (0 : Int) ≠ 6), h2, hw⟩
    · rw [h1]
      simp only [if_true]
      rcases h.reset with ⟨d', s', q1, q2, q3⟩ | ⟨r, r1, r2, r3, r4⟩
      · rw [q1]
        simp only [if_true]
        have hw2 := sappend_waits s' d' (encodeS l).1 (by have := q2.len; omega)
        rcases q2.append he' with ⟨d2, u1, u2⟩ | u1
        · rw [u1] at hw2 ⊢
          simp only [if_true]
          exact ⟨(by decide : (0 : Int) ≠ 6), u2, by rw [q3] at hw2; have hw3 : d2.waits.length ≤ 0 + 1100 := hw2; show d2.waits.length ≤ d.waits.length + 1100; omega⟩
        · rw [u1]
          simp only
          rw [if_neg (by decide)]
          exact ⟨(by decide : (5 : Int) ≠ 6), q2, by show d'.waits.length ≤ _; rw [q3]; simp⟩
      · rw [r3]
        simp only
        rw [if_neg r1]
        exact ⟨r2, h, by simp⟩
end
end Go.Proofs.YtfepjgafamaegaaGreat

/- The program's Do on a disk whose power stays: in all cases. -/
namespace Go.Proofs.YtfepjgafamaegaaGreat
open Go.RowKit Go.Maps

set_option maxRecDepth 100000 in
set_option maxHeartbeats 8000000 in
/-- The log is full, behind the checkpoint too. -/
theorem sdo_full_no (g gd : Nat) (d d1 d2 d3 : Dk) (s s1 s2 s3 : Lg) (m : List Pr) (H : Nat → Prop) (A : Option Addr) (n c : Nat) (l : List Chg) (b : List UInt8) (r : Int) (w : World) (hwl : d.waits.length ≤ 800000000) (h6 : 6 ≤ d.safe.length) (hm : m.length ≤ 1000000) (hS : Srt m)
    (hc : n ≤ c) (hcm : c ≤ 9223372036854775807) (hl : ChRd w w.heap.size A n l) (he : encodeS l = (b, 0)) (ha : s.append d b = (5, s1, d1)) (hw1 : d1.waits.length ≤ 800000000) (h61 : 6 ≤ d1.safe.length) (hck : s1.reset d1 (recsOf m) = (0, s2, d2))
    (hw2 : d2.waits.length ≤ 800000000) (h62 : 6 ≤ d2.safe.length) (ha2 : s2.append d2 b = (r, s3, d3)) (hr0 : r ≠ 0) (hr6 : r ≠ 6) (h : PSt w H g gd d s m) :
    Calls Tryz.prog 32 #[.pointer (some ⟨g, 0, none⟩), .slice A n c] w (ActedS w H g gd r d3 s3 m) := by
  obtain ⟨H0, lg, bm, hbk, hpb, hom, hg0, hb0, hH0, hHg, hHb, hHlt⟩ := h
  have c0 : w.cell? ⟨g, 0, none⟩ = some (.pointer (some ⟨lg, 0, none⟩)) := hbk.cell 0
  have HRd := Lib.hid (sready_live g ⟨lg, 0, none⟩ w c0)
  have HEn := encode_any A n c l w hc hcm hl
  rw [he] at HEn
  have HEn := Lib.hid HEn
  have hbl : b.length ≤ 1024 := by have := encodeS_len l; rw [he] at this; exact this
  have HBK := Lib.hid hbk
  have HPB := Lib.hid hpb
  have HOM := Lib.hid hom
  clear hbk hpb hom hl he
  go_enter Tryz.func32, Tryz.ntmps32
  go_wp2_with fail
  refine HRd.out.mono ?_
  clear HRd
  rintro x w1 ⟨rfl, rfl⟩
  go_wp2_with fail
  refine HEn.out.mono ?_
  clear HEn
  rintro x w2 ⟨v, rfl, ho, hb2⟩
  obtain ⟨A2, c2, rfl, hc2⟩ := own_shape ho
  have k0 : w2.cell? ⟨g, 0, none⟩ = some (.pointer (some ⟨lg, 0, none⟩)) := (HBK.out.below hb2 HBK.out.lt).cell 0
  have HAp := append_any lg gd d s H0 A2 b.length c2 b w2 hwl h6 hc2.1 (by have := hc2.2; unfold maxLen at this; omega) (Rd.of_own ho) (HPB.out.below hb2)
  rw [ha] at HAp
  unfold Acted at HAp
  have HAp := Lib.hid HAp
  have HB2 := Lib.hid hb2
  have HO := Lib.hid ho
  clear ho hb2
  go_wp2_with fail
  refine HAp.out.mono ?_
  clear HAp
  rintro x w3 ⟨rfl, H1, hpb3, hmv3⟩
  have hst := pst_step HBK.out HOM.out hg0 hb0 hH0 hHg hHb hHlt HB2.out hpb3 hmv3
  have HCk := scheck_ok g gd d1 d2 s1 s2 m _ 0 w3 hw1 h61 hm hS (by decide) hck hst.1
  unfold ActedS at HCk
  have HCk := Lib.hid HCk
  have HM3 := Lib.hid hst.2
  have HK3 := Lib.hid hmv3
  clear hpb3 hmv3 hst
  go_wp2_with fail
  refine HCk.out.mono ?_
  rintro x w4 ⟨rfl, H4, hP4, hmv4⟩
  have hM14 : Mv H H4 w w4 := HM3.out.trans hmv4
  have hk24 : Kp H w2 w4 := (HK3.out.kp.mono hH0).trans' hmv4.kp (fun k e => by
    rcases e with e | e
    · exact .inl e
    · exact (HK3.out.new k e).imp (hH0 k) id)
  have ho4 := own_kp HO.out hk24 (fun k hk e => by have := (HO.out.lt k hk).1; have := hHlt k e; omega)
  obtain ⟨G0, lg4, bm4, hbk4, hpb4, hom4, hg4, hb4, hG0, hHg4, hHb4, hHlt4⟩ := hP4
  have k4 : w4.cell? ⟨g, 0, none⟩ = some (.pointer (some ⟨lg4, 0, none⟩)) := hbk4.cell 0
  have HAp2 := append_any lg4 gd d2 s2 G0 A2 b.length c2 b w4 hw2 h62 hc2.1 (by have := hc2.2; unfold maxLen at this; omega) (Rd.of_own ho4) hpb4
  rw [ha2] at HAp2
  unfold Acted at HAp2
  have HAp2 := Lib.hid HAp2
  have HBK4 := Lib.hid hbk4
  have HOM4 := Lib.hid hom4
  have HM14 := Lib.hid hM14
  clear hbk4 hpb4 hom4 hM14 hk24 ho4 hmv4 HCk HO
  go_wp2_with fail
  refine HAp2.out.mono ?_
  clear HAp2
  rintro x w5 ⟨rfl, G1, hpb5, hmv5⟩
  have hst5 := pst_step HBK4.out HOM4.out hg4 hb4 hG0 hHg4 hHb4 hHlt4 (Below.refl _ _) hpb5 hmv5
  have HF := Lib.hid (⟨hst5.1, HM14.out.trans hst5.2⟩ : PSt w5 (fun k => H4 k ∨ G1 k) g gd d3 s3 m ∧ Mv H (fun k => H4 k ∨ G1 k) w w5)
  have HN := Lib.hid (snote_ok (.pointer (some ⟨g, 0, none⟩)) r w5 hr6)
  have hr0' : ¬ r = 0 := hr0
  clear hpb5 hmv5 hst5
  go_wp2_with fail
  refine HN.out.mono ?_
  rintro x w6 ⟨rfl, rfl⟩
  go_wp2
  go_ret
  exact ⟨rfl, _, HF.out.1, HF.out.2⟩

theorem sdo_free (g gd N : Nat) (d : Dk) (s : Lg) (m : List Pr) (H : Nat → Prop) (A : Option Addr) (n c : Nat) (l : List Chg) (w : World) (hwl : d.waits.length ≤ 700000000) (hN : N ≤ 2048)
    (hc : n ≤ c) (hcm : c ≤ 9223372036854775807) (hls : ∀ W, Kp H w W → ChRd W W.heap.size A n l) (hf : SFree N d s m) (h : PSt w H g gd d s m) :
    Calls Tryz.prog 32 #[.pointer (some ⟨g, 0, none⟩), .slice A n c] w (ActedS w H g gd (doS s m d l).1 (doS s m d l).2.2.2 (doS s m d l).2.1 (doS s m d l).2.2.1) := by
  have hl := hls w (Kp.refl _ _)
  have hm := hf.small hN
  unfold doS
  by_cases he : (encodeS l).2 ≠ 0
  · rw [if_pos he]
    exact sdo_bad g gd d s m H A n c l (encodeS l).1 (encodeS l).2 w hc hcm hl rfl he h
  · rw [if_neg he]
    have he' : encodeS l = ((encodeS l).1, 0) := Prod.ext rfl (by simpa using he)
    rcases hf.append he' with ⟨d', h1, h2⟩ | h1
    · rw [h1]
      simp only
      rw [if_neg (by decide)]
      simp only [if_true]
      exact sdo_ok g gd d d' s _ m H A n c l _ w (by omega) hf.on.six (by omega) hc hcm hls he' h1 h
    · rw [h1]
      simp only [if_true]
      rcases hf.reset with ⟨d', s', q1, q2, q3⟩ | ⟨r, r1, r2, r3, r4⟩
      · rw [q1]
        simp only [if_true]
        rcases q2.append he' with ⟨d2, u1, u2⟩ | u1
        · rw [u1]
          simp only [if_true]
          exact sdo_full g gd d d d' d2 s s s' _ m H A n c l _ w (by omega) hf.on.six (by omega) hf.srt hc hcm hls he' h1 (by omega) hf.on.six q1 (by rw [q3]; simp) q2.on.six u1 h
        · rw [u1]
          simp only
          rw [if_neg (by decide)]
          exact sdo_full_no g gd d d d' d' s s s' s' m H A n c l _ 5 w (by omega) hf.on.six (by omega) hf.srt hc hcm hl he' h1 (by omega) hf.on.six q1 (by rw [q3]; simp) q2.on.six u1 (by decide) (by decide) h
      · rw [r3]
        simp only
        rw [if_neg r1]
        exact sdo_full_chk g gd d d d s s s m H A n c l _ r w (by omega) hf.on.six (by omega) hf.srt hc hcm hl he' h1 (by omega) hf.on.six r3 r1 r2 h
end Go.Proofs.YtfepjgafamaegaaGreat

/- StoreOrder: the program's store between the law's steps. -/
namespace Go.Proofs.YtfepjgafamaegaaGreat
open Go.RowKit Go.Shelf

/-- The program's store at g, that the pair at gp knows; all made since W. -/
structure OSt (W w : World) (H : Nat → Prop) (gp g gd : Nat) (d : Dk) (s : Lg) (m : List Pr) : Prop where
  st : PSt w H g gd d s m
  ge : ∀ k, H k → W.heap.size ≤ k
  ne : ¬ H gp
  gpge : W.heap.size ≤ gp
  cell : ∃ cs, Bk w gp 55 cs ∧ cs[1]? = some (.pointer (some ⟨g, 0, none⟩))
  bel : Below W.heap.size W w
section
variable {W w w' : World} {H H' : Nat → Prop} {gp g gd : Nat} {d d' : Dk} {s s' : Lg} {m m' : List Pr}
theorem OSt.below (h : OSt W w H gp g gd d s m) (hb : Below w.heap.size w w') : OSt W w' H gp g gd d s m := by
  obtain ⟨cs, q1, q2⟩ := h.cell
  exact ⟨h.st.below hb, h.ge, h.ne, h.gpge, ⟨cs, q1.below hb q1.lt, q2⟩, h.bel.trans (hb.mono h.bel.size)⟩
theorem OSt.c1 (h : OSt W w H gp g gd d s m) : w.cell? ⟨gp, 1, none⟩ = some (.pointer (some ⟨g, 0, none⟩)) := by
  obtain ⟨cs, q1, q2⟩ := h.cell
  rw [q1.cell 1]
  exact q2
theorem OSt.step (h : OSt W w H gp g gd d s m) (hp : PSt w' H' g gd d' s' m') (hm : Mv H H' w w') : OSt W w' H' gp g gd d' s' m' := by
  obtain ⟨cs, q1, q2⟩ := h.cell
  exact ⟨hp, hm.ge h.bel.size h.ge, fun e => by rcases hm.new _ e with h1 | h1; exact h.ne h1; have := q1.lt; omega, h.gpge, ⟨cs, q1.kp hm.kp h.ne, q2⟩, h.bel.trans (hm.kp.below h.ge h.bel.size)⟩
theorem OSt.of {gq M : Nat} (h : OwnQ W w gp gq M d (.live s m)) : ∃ g H, OSt W w H gp g gq d s m := by
  obtain ⟨H, pw, pr, ⟨H1, H2, h1, ⟨g, rfl, h2⟩, h3, h4, h5, h6, h7, h8, h9, h10⟩, hg, hb⟩ := h
  exact ⟨g, H1, h2, fun k e => hg k (h7 k e), h5, hg _ h9, ⟨_, h1, rfl⟩, hb⟩
theorem OSt.do_ {N : Nat} (h : OSt W w H gp g gd d s m) (hf : SFree N d s m) (hN : N ≤ 2048) (hwl : d.waits.length ≤ 700000000) (A : Option Addr) (n c : Nat) (l : List Chg) (hc : n ≤ c) (hcm : c ≤ 9223372036854775807) (hls : ∀ X, Kp H w X → ChRd X X.heap.size A n l) :
    Calls Tryz.prog 32 #[.pointer (some ⟨g, 0, none⟩), .slice A n c] w fun e w' => e = .returned (.int .i64 (doS s m d l).1) ∧ ∃ H', OSt W w' H' gp g gd (doS s m d l).2.2.2 (doS s m d l).2.1 (doS s m d l).2.2.1 ∧ Mv H H' w w' := by
  refine (sdo_free g gd N d s m H A n c l w hwl hN hc hcm hls hf h.st).mono ?_
  rintro e w' ⟨rfl, H', hp, hm⟩
  exact ⟨rfl, H', h.step hp hm, hm⟩
end
/-- What holds between the batches. -/
def Round5 (W wr : World) (gp g gd k : Nat) : Prop := ∃ H d s m, OSt W wr H gp g gd d s m ∧ SFree 60 d s m ∧ d.waits.length ≤ 1100 * k
theorem Round5.below {W w w' : World} {gp g gd k : Nat} (h : Round5 W w gp g gd k) (hb : Below w.heap.size w w') : Round5 W w' gp g gd k := by
  obtain ⟨H, d, s, m, h1, h2⟩ := h
  exact ⟨H, d, s, m, h1.below hb, h2⟩
theorem Round5.do_ {W W0 w : World} {gp g gd k : Nat} (h : Round5 W w gp g gd k) (hk : k ≤ 1000) (x : Ac5) (hx : x.Ok W0 W0.heap.size) (h0 : W0.heap.size ≤ W.heap.size) (hb0 : Below W0.heap.size W0 W) :
    Calls Tryz.prog 32 #[.pointer (some ⟨g, 0, none⟩), .slice x.la x.ln x.lc] w fun e w' => (∃ r, e = .returned (.int .i64 r)) ∧ Round5 W w' gp g gd (k + 1) := by
  obtain ⟨H, d, s, m, h1, h2, h3⟩ := h
  refine (h1.do_ h2 (by decide) (by omega) x.la x.ln x.lc x.list hx.lcap.1 hx.lcap.2 (fun X hK => ?_)).mono ?_
  · have hbX : Below W0.heap.size W0 X := hb0.trans ((h1.bel.trans (hK.below h1.ge h1.bel.size)).mono h0)
    exact (hx.list.below hbX).more hbX.size
  · rintro e w' ⟨rfl, H', q1, q2⟩
    obtain ⟨u1, u2, u3⟩ := h2.do_ (by decide) x.list
    exact ⟨⟨_, rfl⟩, H', _, _, _, q1, u2, by omega⟩
theorem Round5.c1 {W w : World} {gp g gd k : Nat} (h : Round5 W w gp g gd k) : w.cell? ⟨gp, 1, none⟩ = some (.pointer (some ⟨g, 0, none⟩)) := by
  obtain ⟨H, d, s, m, h1, h2, h3⟩ := h
  exact h1.c1
theorem Round5.up {W w : World} {gp g gd k j : Nat} (h : Round5 W w gp g gd k) (hk : k ≤ j) : Round5 W w gp g gd j := by
  obtain ⟨H, d, s, m, h1, h2, h3⟩ := h
  exact ⟨H, d, s, m, h1, h2, by have : 1100 * k ≤ 1100 * j := Nat.mul_le_mul_left _ hk; omega⟩
theorem Round5.bel {W w : World} {gp g gd k : Nat} (h : Round5 W w gp g gd k) : Below W.heap.size W w := by
  obtain ⟨H, d, s, m, h1, h2, h3⟩ := h
  exact h1.bel
theorem srt_get : ∀ {m : List Pr}, Srt m → ∀ (j : Nat) (hj : j < m.length), getP m m[j].1 = some m[j].2
  | [], _, j, hj => by simp at hj
  | y :: r, h, 0, _ => by unfold getP; simp
  | y :: r, h, j + 1, hj => by
    have h0 := List.pairwise_cons.1 h
    have hj' : j < r.length := by simpa using hj
    have ih := srt_get h0.2 j hj'
    have hne : (y.1 == r[j].1) = false := by
      have h1 := h0.1 _ (List.getElem_mem hj')
      cases hb : y.1 == r[j].1 with
      | false => rfl
      | true =>
        have e : y.1 = r[j].1 := by simpa using hb
        rw [e, lessB_irrefl] at h1
        cases h1
    unfold getP at ih ⊢
    simp only [List.getElem_cons_succ]
    rw [List.find?_cons_of_neg (by simp [hne])]
    exact ih
theorem OSt.get {W w : World} {H : Nat → Prop} {gp g gd : Nat} {d : Dk} {s : Lg} {m : List Pr} (h : OSt W w H gp g gd d s m) (hS : Srt m) (hk : ∀ p ∈ m, okP p) (j : Nat) (hj : j < m.length) :
    Calls Tryz.prog 28 #[.pointer (some ⟨g, 0, none⟩), sV m[j].1] w fun e w' => e = .returned (.tuple #[sV m[j].2, .bool true]) ∧ Below w.heap.size w w' := by
  obtain ⟨H0, lg, bm, h1, _, h2, _⟩ := h.st
  have hg := srt_get hS j hj
  refine (sget_any g bm m.length _ m m[j].1 w (by have := (hk _ (List.getElem_mem hj)).2.1; unfold maxLen; omega) h1 h2).mono ?_
  rintro e w' ⟨rfl, hb⟩
  refine ⟨?_, hb⟩
  unfold getV
  rw [hg]
  rfl
/-- What All gives, and that the variable that it holds is new. -/
def AllR2 (L : List Pr) (W : World) (e : Ending) (w' : World) : Prop :=
  ∃ B A len cap, e = .returned (.func (.func 81) #[] #[.pointer (some ⟨B, 0, none⟩)]) ∧ w'.cell? ⟨B, 0, none⟩ = some (.slice A len cap) ∧ len ≤ 9223372036854775807 ∧ PRd w' w'.heap.size A len L ∧ B < w'.heap.size ∧ (∀ b o, A = some ⟨b, o, none⟩ → W.heap.size ≤ b) ∧ W.heap.size ≤ B ∧ Below W.heap.size W w'
set_option maxRecDepth 100000 in
set_option maxHeartbeats 1000000 in
theorem all_any2 (w : World) (H : Nat → Prop) (g gd : Nat) (d : Dk) (s : Lg) (m : List Pr) (hP : PSt w H g gd d s m) (hS : Srt m) (hlen : m.length ≤ 1000000) :
    Calls Tryz.prog 43 #[.pointer (some ⟨g, 0, none⟩)] w (fun e w' => AllR2 m w e w') := by
  obtain ⟨H0, lg, bm, hg, -, hm, -⟩ := hP
  have hgl := hg.lt
  have hml := hm.lt
  have hc0 : w.cell? ⟨g, 1, none⟩ = some (.map (some bm)) := hg.cell 1
  obtain ⟨w1, hw1⟩ : ∃ w1, w1 = w.alloc (.cells #[.slice none 0 0] 57) := ⟨_, rfl⟩
  have hb1 : Below w.heap.size w w1 := by rw [hw1]; exact (Below.refl _ _).alloc (Nat.le_refl _) _
  have hs1 : w1.heap.size = w.heap.size + 1 := by rw [hw1]; simp
  have hk1 : Bk w1 w.heap.size 57 #[.slice none 0 0] := by rw [hw1]; exact Bk.new _ _ _
  have hg1 : Bk w1 g 111 #[.pointer (some ⟨lg, 0, none⟩), .map (some bm)] := hg.below hb1 hgl
  have c1 : w1.cell? ⟨g, 1, none⟩ = some (.map (some bm)) := hg1.cell 1
  obtain ⟨w2, hw2⟩ : ∃ w2, w2 = w1.alloc (.cells #[.map (some bm)] 109) := ⟨_, rfl⟩
  have hb2 : Below w1.heap.size w1 w2 := by rw [hw2]; exact (Below.refl _ _).alloc (Nat.le_refl _) _
  have hs2 : w2.heap.size = w1.heap.size + 1 := by rw [hw2]; simp
  have hk2 : Bk w2 (w.heap.size + 1) 109 #[.map (some bm)] := by rw [hw2, ← hs1]; exact Bk.new _ _ _
  have hV := Lib.hid (values_any (some bm) w1)
  rw [← hw2] at hV
  have hSF := Lib.hid (sortedFunc_any (w.heap.size + 1) bm m.length m hS w2 hlen (by omega) (hk2.cell 0) ((hm.below hb1 hml).below hb2 (by omega)))
  have hk1 := Lib.hid hk1
  have hk2 := Lib.hid hk2
  have hb1 := Lib.hid hb1
  have hb2 := Lib.hid hb2
  have hs1 := Lib.hid hs1
  have hs2 := Lib.hid hs2
  have hw1 := Lib.hid hw1
  clear hw2 hm hg hg1
  have c0 : w.cell? ⟨g, 1, none⟩ = some (.map (some bm)) := hc0
  clear c1
  go_enter Tryz.func43, Tryz.ntmps43
  go_wp2_with fail
  rw [← hw1.out]
  refine hV.out.mono ?_
  rintro e W ⟨rfl, rfl⟩
  go_wp2_with fail
  refine hSF.out.mono ?_
  rintro e w3 ⟨A, cap, rfl, hP3, hA, hb3⟩
  have hs2' := hs2.out
  have hs1' := hs1.out
  have hk3 : Bk w3 w.heap.size 57 #[.slice none 0 0] := (hk1.out.below hb2.out (by omega)).below hb3 (by omega)
  have c3 : w3.cell? ⟨w.heap.size, 0, none⟩ = some (.slice none 0 0) := hk3.cell 0
  have f3 : w3.frozen? ⟨w.heap.size, 0, none⟩ = false := hk3.frozen 0
  have hs3 := hb3.size
  have hb03 : Below w.heap.size w w3 := below_then hb1.out (below_then hb2.out hb3)
  have hk4 := Lib.hid (hk3.set_ 0 (.slice A m.length cap))
  have hkx : KX w.heap.size w3.heap.size w3 (w3.setCell ⟨w.heap.size, 0, none⟩ (.slice A m.length cap)) := ⟨by simp, fun k _ hne => Below.heap_setCell _ _ _ _ hne⟩
  have hP4 := Lib.hid (hP3.keep hkx (fun b o e => by have := hA b o e; omega))
  have hb4 := Lib.hid (hb03.trans (below_of_grown (grown_set w3 w.heap.size 0 (.slice A m.length cap)) (by omega) (Nat.le_refl _)))
  have hA := Lib.hid hA
  clear hkx hP3 hb3 hb03 hk3 hs1' hs2'
  go_wp2
  go_ret
  have hs1' := hs1.out
  have hs2' := hs2.out
  refine ⟨w.heap.size, A, m.length, cap, rfl, hk4.out.cell 0, by omega, ?_, hk4.out.lt, (fun b o e => by have := hA.out b o e; omega), Nat.le_refl _, hb4.out⟩
  have hz : (w3.setCell ⟨w.heap.size, 0, none⟩ (.slice A m.length cap)).heap.size = w3.heap.size := by simp
  rw [hz]
  exact hP4.out
set_option maxRecDepth 100000 in
set_option maxHeartbeats 2000000 in
theorem iter_in2 (F : Fence) (n : Nat) (hf : F.fn 81) (hro : F.round = none) (hn : 1 ≤ n) (l Bs n₀ x : Nat) (A : Option Addr) (len cap : Nat) (L : List Pr) (hlen : len ≤ 9223372036854775807) (J Jx : List Pr → World → Prop)
    (hY : ∀ pre y W, J pre W → pre.length < len → YieldAt F (n - 1) Tryz.prog l (encP y) W fun e W' => (e = .returned (.bool true) ∧ J (pre ++ [y]) W' ∧ KX x n₀ W W') ∨ (e = .returned (.bool false) ∧ Jx (pre ++ [y]) W'))
    (W : World) (hJ : AbidesFrom W.heap.size J) (hBs : W.cell? ⟨Bs, 0, none⟩ = some (.slice A len cap)) (hL : PRd W n₀ A len L) (hx : 0 < L.length → ∀ b o, A = some ⟨b, o, none⟩ → b ≠ x) (hn0 : n₀ ≤ W.heap.size) (h0 : J [] W) :
    CallsIn F n Tryz.prog 81 #[.func (.yield l) #[] #[], .pointer (some ⟨Bs, 0, none⟩)] W fun e W' => (∃ v, e = .returned v) ∧
      ((∃ ys, ys = L ∧ J ys W') ∨ (∃ pre, pre <+: L ∧ Jx pre W')) := by
  have hpl := hL.1
  refine callsIn_of_wp Tryz.func81 rfl hf ?_ hro
  simp only [Tryz.ntmps81, List.size_toArray, List.length_cons, List.length_nil, Nat.reduceAdd, Nat.reduceSub, Array.replicate_succ, Array.replicate_zero, List.push_toArray, List.append_toArray, List.nil_append, List.cons_append]
  gi_wp2
  gi_loopw [7] (fun i wr => ∃ k : Nat, k ≤ len ∧ i = .int .i64 k ∧ J (L.take k) wr ∧ KX x n₀ W wr ∧ W.heap.size ≤ wr.heap.size)
    (fun i _ => len - (intOf i).toNat)
  case atStart => exact ⟨0, Nat.zero_le _, rfl, by simpa using h0, KX.refl _ _ _, Nat.le_refl _⟩
  case round =>
    obtain ⟨k, hk, rfl, hJs, hnx, hsz⟩ := hrel
    by_cases hlt : k < len
    · have hkl : k < L.length := by omega
      obtain ⟨b, o, rfl, hbw, c0, c1⟩ := (hL.keep hnx (hx (by omega))).2 k hkl
      have htk : L.take (k + 1) = L.take k ++ [L[k]] := List.take_succ_eq_append_getElem hkl
      have hJa : J (L.take k) (wr.alloc (.cells #[sV L[k].1, sV L[k].2] 86)) := hJ _ _ _ none hJs (World.grownBy_alloc _ _ _) (fun r e => by cases e)
      have hBk := Bk.new wr 86 #[sV L[k].1, sV L[k].2]
      have hba : KX x n₀ W (wr.alloc (.cells #[sV L[k].1, sV L[k].2] 86)) := hnx.alloc (by omega) _
      obtain ⟨fn, tmps, assign, body, hy, hR⟩ := hY _ L[k] _ hJa (by rw [List.length_take]; omega)
      generalize L[k] = p at *
      obtain ⟨p1, p2⟩ := p
      have hi1 : (k : Int) < (len : Int) := by omega
      dsimp only [encP] at hy
      have k0 : (wr.alloc (.cells #[sV p1, sV p2] 86)).cell? ⟨wr.heap.size, 0, none⟩ = some (sV p1) := hBk.cell 0
      have k1 : (wr.alloc (.cells #[sV p1, sV p2] 86)).cell? ⟨wr.heap.size, 1, none⟩ = some (sV p2) := hBk.cell 1
      have c0 : wr.cell? ⟨b, o + k * 2, none⟩ = some (sV p1) := c0
      have c1 : wr.cell? ⟨b, o + k * 2 + 1, none⟩ = some (sV p2) := c1
      gi_wp2
      refine hR.mono ?_
      rintro e W3 (⟨rfl, hJ3, hk3⟩ | ⟨rfl, hJx3⟩)
      · gi_wp2
        go_roundw
        case rel => exact ⟨k + 1, by omega, by simp, by rw [htk]; exact hJ3, hba.trans hk3, by have := hk3.size; simp at this; omega⟩
        case measure => simp [intOf]; omega
      · gi_wp2
        refine bodyPost_ret (results_none rfl _ _ _) rfl ?_
        exact ⟨⟨_, rfl⟩, .inr ⟨_, ⟨L.drop (k + 1), by rw [← htk, List.take_append_drop]⟩, hJx3⟩⟩
    · obtain rfl : k = len := by omega
      have hi1 : ¬ (k : Int) < (k : Int) := by omega
      gi_wp2
      go_end0
      rw [List.take_of_length_le (by omega)] at hJs
      refine ⟨⟨_, rfl⟩, .inl ?_⟩
      first | exact hJs | exact ⟨_, rfl, hJs⟩
theorem iter_stops2 (F : Fence) (n : Nat) (hf : F.fn 81) (hro : F.round = none) (hn : 1 ≤ n) (Bs n₀ x : Nat) (A : Option Addr) (len cap : Nat) (L : List Pr) (hlen : len ≤ 9223372036854775807) (w : World) (hB : Bs < w.heap.size)
    (hn0 : n₀ ≤ w.heap.size) (hBs : w.cell? ⟨Bs, 0, none⟩ = some (.slice A len cap)) (hL : PRd w n₀ A len L) (hx : 0 < L.length → ∀ b o, A = some ⟨b, o, none⟩ → b ≠ x) :
    SeqStopsK F n Tryz.prog 81 #[.pointer (some ⟨Bs, 0, none⟩)] encP (KX x n₀) (fun ys => ys = L) (fun pre => pre <+: L) len w := fun l J Jx W hW hJ _ hY h0 =>
  iter_in2 F n hf hro hn l Bs n₀ x A len cap L hlen J Jx hY W hJ ((hW.cell (p := ⟨Bs, 0, none⟩) hB).trans hBs) (hL.below (hW.mono hn0)) hx (Nat.le_trans hn0 hW.size) h0
end Go.Proofs.YtfepjgafamaegaaGreat
