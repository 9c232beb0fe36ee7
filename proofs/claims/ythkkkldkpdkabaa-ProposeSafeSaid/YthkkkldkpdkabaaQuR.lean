/- Layer 8: Right. -/
import Derived.Test.YthkkkldkpdkabaaQuM
namespace Go.Proofs.Ythkkkldkpdkabaa
open Go.RowKit Go.Lib Go.Shelf

section
variable (kd nd on tw : Int) (A : Option Addr) (n c : Nat) (w : World)
set_option maxRecDepth 100000 in
set_option maxHeartbeats 400000 in
theorem isNoSite_any (x : Int) (W : World) : Calls Try.prog 68 #[.int .i64 x] W fun e w' => e = .returned (.bool (noSite x)) ∧ W = w' := by
  unfold noSite
  by_cases h1 : x < 0
  · go_enter Try.func68, Try.ntmps68
    go_wp2
    go_ret
    exact ⟨ret_bool (by rw [decide_eq_true h1]; rfl), rfl⟩
  · have h1' : ¬ x < 0 := h1
    go_enter Try.func68, Try.ntmps68
    go_wp2
    go_ret
    exact ⟨ret_bool (by rw [decide_eq_false (by omega : ¬ x < 0)]; rfl), rfl⟩
theorem noSite_pred (w : World) : PredAt Try.prog 68 #[] (Value.int .i64) noSite w := fun W x _ => by
  show Calls Try.prog 68 #[.int .i64 x] W _
  refine (isNoSite_any x W).mono ?_
  rintro e w' ⟨rfl, rfl⟩
  exact ⟨rfl, 0, rfl⟩
theorem containsSites (l : List Int) (hn : 0 < n) (hm : n ≤ 9223372036854775807) (hr : RdI w w.heap.size A n l) :
    Calls Try.prog 67 #[.slice A n c, .func (.func 68) #[] #[]] w fun e w' => e = .returned (.bool (l.any noSite)) ∧ Below w.heap.size w w' := by
  obtain ⟨hl, _, h⟩ := hr
  obtain ⟨b, o, rfl, hb, hc⟩ := h hn
  have H := AnyE.slices_ContainsFunc layCf (Value.int .i64) noSite 68 #[] (enters_of Try.func68 (by kernel_rfl) rfl) b o n c l w (noSite_pred w) (by omega) hm (fun j hj => by rw [hc j hj, getElem!_pos l j hj])
  rw [List.take_of_length_le (by omega)] at H
  refine Calls.mono (show Calls Try.prog 67 _ _ _ from H) ?_
  rintro e w' ⟨rfl, q, rfl⟩
  exact ⟨rfl, bel_drewN (Below.refl _ _) q⟩

/-- The cells of a system in a block. -/
abbrev qA : Array Value := #[.int .i64 kd, .int .i64 nd, .int .i64 on, .int .i64 tw, .slice A n c]
abbrev QB (W : World) (g : Nat) : Prop := Bk W g 24 (qA kd nd on tw A n c)
theorem QB.cells {W : World} {g : Nat} (h : QB kd nd on tw A n c W g) : W.cell? ⟨g, 0, none⟩ = some (.int .i64 kd) ∧ W.cell? ⟨g, 1, none⟩ = some (.int .i64 nd) ∧ W.cell? ⟨g, 2, none⟩ = some (.int .i64 on) ∧ W.cell? ⟨g, 3, none⟩ = some (.int .i64 tw) ∧ W.cell? ⟨g, 4, none⟩ = some (.slice A n c) :=
  ⟨h.cell 0, h.cell 1, h.cell 2, h.cell 3, h.cell 4⟩
theorem boxed (w : World) : ∃ w1, Hid (w1 = w.alloc (.cells #[.int .i64 kd, .int .i64 nd, .int .i64 on, .int .i64 tw, .slice A n c] 24)) ∧ Hid (Below w.heap.size w w1) ∧ Hid (QB kd nd on tw A n c w1 w.heap.size) :=
  ⟨_, Lib.hid rfl, Lib.hid (box_below kd nd on tw A n c w), Lib.hid (Bk.new w _ _)⟩

set_option maxRecDepth 100000 in
set_option maxHeartbeats 1000000 in
theorem rightC_any (hn : nd ≤ 12) : Calls Try.prog 57 #[aggQ kd nd on tw A n c] w fun e w' => e = .returned (.int .i64 (Qm.rightC ⟨kd, nd, on, tw, []⟩)) ∧ Below w.heap.size w w' := by
  have HC := fun (x : Int) (W : World) => isCount_any kd nd on tw A n c W x
  obtain ⟨w1, HW1, HB1, HK1⟩ := boxed kd nd on tw A n c w
  obtain ⟨k0, k1, k2, k3, k4⟩ := HK1.out.cells
  rw [HW1.out] at k0 k1 k2 k3 k4
  unfold Qm.rightC Qm.isCount
  dsimp only
  have HO := HC on
  cases ho : (decide (1 ≤ on) && decide (on ≤ nd)) with
  | false =>
    rw [ho] at HO
    have HOH := Lib.hid HO
    clear HC HO ho
    go_enter Try.func57, Try.ntmps57
    go_wp2_with (fail)
    rw [← HW1.out]
    refine (HOH.out w1).mono ?_
    rintro e w2 ⟨rfl, hb2⟩
    have HB2 := Lib.hid (below_then HB1.out hb2)
    clear hb2
    go_wp2
    go_ret
    exact ⟨rfl, HB2.out⟩
  | true =>
    rw [ho] at HO
    have HOH := Lib.hid HO
    have HT := HC tw
    have ho' : 1 ≤ on ∧ on ≤ nd := by simpa using ho
    clear HO ho HC
    cases ht : (decide (1 ≤ tw) && decide (tw ≤ nd)) with
    | false =>
      rw [ht] at HT
      have HTH := Lib.hid HT
      clear HT ht
      go_enter Try.func57, Try.ntmps57
      go_wp2_with (fail)
      rw [← HW1.out]
      refine (HOH.out w1).mono ?_
      rintro e w2 ⟨rfl, hb2⟩
      have HB2 := Lib.hid (below_then HB1.out hb2)
      have HK2 := Lib.hid (HK1.out.below hb2 HK1.out.lt)
      obtain ⟨j0, j1, j2, j3, j4⟩ := QB.cells kd nd on tw A n c HK2.out
      clear hb2 k0 k1 k2 k3 k4
      go_wp2_with fail
      refine (HTH.out w2).mono ?_
      rintro e w3 ⟨rfl, hb3⟩
      have HB3 := Lib.hid (below_then HB2.out hb3)
      clear hb3 j0 j1 j2 j3 j4
      go_wp2
      go_ret
      exact ⟨rfl, HB3.out⟩
    | true =>
      rw [ht] at HT
      have HTH := Lib.hid HT
      have ht' : 1 ≤ tw ∧ tw ≤ nd := by simpa using ht
      clear HT ht
      obtain ⟨o1, o2⟩ := ho'
      obtain ⟨t1, t2⟩ := ht'
      simp only [Bool.not_true, Bool.or_false, Bool.false_eq_true, ↓reduceIte]
      go_enter Try.func57, Try.ntmps57
      go_wp2_with (fail)
      rw [← HW1.out]
      refine (HOH.out w1).mono ?_
      rintro e w2 ⟨rfl, hb2⟩
      have HB2 := Lib.hid (below_then HB1.out hb2)
      have HK2 := Lib.hid (HK1.out.below hb2 HK1.out.lt)
      obtain ⟨j0, j1, j2, j3, j4⟩ := QB.cells kd nd on tw A n c HK2.out
      clear hb2 k0 k1 k2 k3 k4
      go_wp2_with fail
      refine (HTH.out w2).mono ?_
      rintro e w3 ⟨rfl, hb3⟩
      have HB3 := Lib.hid (below_then HB2.out hb3)
      obtain ⟨k0, k1, k2, k3, k4⟩ := QB.cells kd nd on tw A n c (HK2.out.below hb3 HK2.out.lt)
      clear hb3 j0 j1 j2 j3 j4
      go_wp2
      all_goals (go_ret; exact ⟨rfl, HB3.out⟩)
set_option maxRecDepth 100000 in
set_option maxHeartbeats 1000000 in
theorem rightR_any (hn : nd ≤ 12) : Calls Try.prog 58 #[aggQ kd nd on tw A n c] w fun e w' => e = .returned (.int .i64 (Qm.rightR ⟨kd, nd, on, tw, []⟩)) ∧ Below w.heap.size w w' := by
  have HC := fun (x : Int) (W : World) => isCount_any kd nd on tw A n c W x
  obtain ⟨w1, HW1, HB1, HK1⟩ := boxed kd nd on tw A n c w
  obtain ⟨k0, k1, k2, k3, k4⟩ := HK1.out.cells
  rw [HW1.out] at k0 k1 k2 k3 k4
  unfold Qm.rightR Qm.isCount
  dsimp only
  have HO := HC on
  cases ho : (decide (1 ≤ on) && decide (on ≤ nd)) with
  | false =>
    rw [ho] at HO
    have HOH := Lib.hid HO
    clear HC HO ho
    go_enter Try.func58, Try.ntmps58
    go_wp2_with (fail)
    rw [← HW1.out]
    refine (HOH.out w1).mono ?_
    rintro e w2 ⟨rfl, hb2⟩
    have HB2 := Lib.hid (below_then HB1.out hb2)
    clear hb2
    go_wp2
    go_ret
    exact ⟨rfl, HB2.out⟩
  | true =>
    rw [ho] at HO
    have HOH := Lib.hid HO
    have HT := HC tw
    have ho' : 1 ≤ on ∧ on ≤ nd := by simpa using ho
    clear HO ho HC
    cases ht : (decide (1 ≤ tw) && decide (tw ≤ nd)) with
    | false =>
      rw [ht] at HT
      have HTH := Lib.hid HT
      clear HT ht
      go_enter Try.func58, Try.ntmps58
      go_wp2_with (fail)
      rw [← HW1.out]
      refine (HOH.out w1).mono ?_
      rintro e w2 ⟨rfl, hb2⟩
      have HB2 := Lib.hid (below_then HB1.out hb2)
      have HK2 := Lib.hid (HK1.out.below hb2 HK1.out.lt)
      obtain ⟨j0, j1, j2, j3, j4⟩ := QB.cells kd nd on tw A n c HK2.out
      clear hb2 k0 k1 k2 k3 k4
      go_wp2_with fail
      refine (HTH.out w2).mono ?_
      rintro e w3 ⟨rfl, hb3⟩
      have HB3 := Lib.hid (below_then HB2.out hb3)
      clear hb3 j0 j1 j2 j3 j4
      go_wp2
      go_ret
      exact ⟨rfl, HB3.out⟩
    | true =>
      rw [ht] at HT
      have HTH := Lib.hid HT
      have ht' : 1 ≤ tw ∧ tw ≤ nd := by simpa using ht
      clear HT ht
      obtain ⟨o1, o2⟩ := ho'
      obtain ⟨t1, t2⟩ := ht'
      have m0 : 0 ≤ on * tw := Int.mul_nonneg (by omega) (by omega)
      have m1 : on * tw ≤ 12 * 12 := Int.mul_le_mul (by omega) (by omega) (by omega) (by omega)
      simp only [Bool.not_true, Bool.or_false, Bool.false_eq_true, ↓reduceIte]
      have m2 : on * tw ≤ 144 := m1
      clear m1
      by_cases hp : on * tw = nd
      · rw [if_neg (fun e => e hp)]
        have hp' : (on * tw == nd) = true := by simpa using hp
        go_enter Try.func58, Try.ntmps58
        go_wp2_with (fail)
        rw [← HW1.out]
        refine (HOH.out w1).mono ?_
        rintro e w2 ⟨rfl, hb2⟩
        have HB2 := Lib.hid (below_then HB1.out hb2)
        have HK2 := Lib.hid (HK1.out.below hb2 HK1.out.lt)
        obtain ⟨j0, j1, j2, j3, j4⟩ := QB.cells kd nd on tw A n c HK2.out
        clear hb2 k0 k1 k2 k3 k4
        go_wp2_with fail
        refine (HTH.out w2).mono ?_
        rintro e w3 ⟨rfl, hb3⟩
        have HB3 := Lib.hid (below_then HB2.out hb3)
        obtain ⟨k0, k1, k2, k3, k4⟩ := QB.cells kd nd on tw A n c (HK2.out.below hb3 HK2.out.lt)
        clear hb3 j0 j1 j2 j3 j4
        go_wp2
        go_ret
        exact ⟨rfl, HB3.out⟩
      · rw [if_pos hp]
        have hp' : (on * tw == nd) = false := by simpa using hp
        go_enter Try.func58, Try.ntmps58
        go_wp2_with (fail)
        rw [← HW1.out]
        refine (HOH.out w1).mono ?_
        rintro e w2 ⟨rfl, hb2⟩
        have HB2 := Lib.hid (below_then HB1.out hb2)
        have HK2 := Lib.hid (HK1.out.below hb2 HK1.out.lt)
        obtain ⟨j0, j1, j2, j3, j4⟩ := QB.cells kd nd on tw A n c HK2.out
        clear hb2 k0 k1 k2 k3 k4
        go_wp2_with fail
        refine (HTH.out w2).mono ?_
        rintro e w3 ⟨rfl, hb3⟩
        have HB3 := Lib.hid (below_then HB2.out hb3)
        obtain ⟨k0, k1, k2, k3, k4⟩ := QB.cells kd nd on tw A n c (HK2.out.below hb3 HK2.out.lt)
        clear hb3 j0 j1 j2 j3 j4
        go_wp2
        go_ret
        exact ⟨rfl, HB3.out⟩
set_option maxRecDepth 100000 in
set_option maxHeartbeats 1000000 in
theorem rightS_any (l : List Int) (hn0 : 1 ≤ nd) (hn : nd ≤ 12) (hc : n ≤ c) (hm : c ≤ 9223372036854775807) (hr : RdI w w.heap.size A n l) : Calls Try.prog 59 #[aggQ kd nd on tw A n c] w fun e w' => e = .returned (.int .i64 (Qm.rightS ⟨kd, nd, on, tw, l⟩)) ∧ Below w.heap.size w w' := by
  have hln := hr.1
  obtain ⟨w1, HW1, HB1, HK1⟩ := boxed kd nd on tw A n c w
  have hr1 := hr.up HB1.out
  have HC := Lib.hid (fun (h : 0 < n) => containsSites A n c w1 l h (by omega) hr1)
  clear hr hr1
  obtain ⟨k0, k1, k2, k3, k4⟩ := HK1.out.cells
  rw [HW1.out] at k0 k1 k2 k3 k4
  unfold Qm.rightS
  dsimp only
  rw [hln]
  by_cases h : (n : Int) = nd
  · rw [if_neg (by omega)]
    cases ha : l.any noSite with
    | true =>
      have HCC := HC.out (by omega)
      rw [ha] at HCC
      have HCC := Lib.hid HCC
      clear HC ha hln
      simp only [↓reduceIte]
      have h1 : ((n : Int) == nd) = true := by simpa using h
      go_enter Try.func59, Try.ntmps59
      go_wp2_with fail
      rw [← HW1.out]
      refine (HCC.out).mono ?_
      rintro e w2 ⟨rfl, hb2⟩
      have HB2 := Lib.hid (below_then HB1.out hb2)
      clear hb2 k0 k1 k2 k3 k4
      go_wp2
      go_ret
      exact ⟨rfl, HB2.out⟩
    | false =>
      have HCC := HC.out (by omega)
      rw [ha] at HCC
      have HCC := Lib.hid HCC
      clear HC ha hln
      simp only [Bool.false_eq_true, ↓reduceIte]
      go_enter Try.func59, Try.ntmps59
      go_wp2_with fail
      rw [← HW1.out]
      refine (HCC.out).mono ?_
      rintro e w2 ⟨rfl, hb2⟩
      have HB2 := Lib.hid (below_then HB1.out hb2)
      clear hb2 k0 k1 k2 k3 k4
      go_wp2
      go_ret
      exact ⟨rfl, HB2.out⟩
  · rw [if_pos (by omega)]
    clear hln HC
    go_enter Try.func59, Try.ntmps59
    go_wp2
    go_ret
    rw [← HW1.out]
    exact ⟨rfl, HB1.out⟩
end
end Go.Proofs.Ythkkkldkpdkabaa
