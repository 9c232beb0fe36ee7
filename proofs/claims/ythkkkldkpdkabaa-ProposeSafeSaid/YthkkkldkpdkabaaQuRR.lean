/- Layer 8: the document's Right. -/
import Derived.Test.YthkkkldkpdkabaaQuG
import Derived.Test.YthkkkldkpdkabaaQuRC
namespace Go.Proofs.Ythkkkldkpdkabaa
open Go.RowKit Go.Lib Go.Shelf

theorem sites_any {p : Int → Bool} {l : List Int} (h : ∀ j (hj : j < l.length), p l[j] = false) : l.any p = false := by
  rw [Bool.eq_false_iff]
  intro e
  obtain ⟨x, hx, hp⟩ := List.any_eq_true.1 e
  obtain ⟨j, hj, rfl⟩ := List.getElem_of_mem hx
  rw [h j hj] at hp
  cases hp
set_option maxRecDepth 100000 in
set_option linter.unusedSimpArgs false in
set_option maxHeartbeats 4000000 in
theorem refRight_any8 (q : Qm) (A : Option Addr) (n c : Nat) (w : World) (hq : Qi w q A n c) :
    Calls Try.prog 22 #[qV q (.slice A n c)] w fun e w' => e = .returned (.int .i64 q.right) ∧ Below w.heap.size w w' := by
  obtain ⟨w1, HW1, HB1, HK1⟩ := boxed q.kind q.nodes q.one q.two A n c w
  have hr1 := hq.rd.up HB1.out
  have hcap := hq.cap
  clear hq
  obtain ⟨kd, nd, on, tw, l⟩ := q
  unfold qV
  dsimp only at *
  obtain ⟨k0, k1, k2, k3, k4⟩ := HK1.out.cells
  rw [HW1.out] at k0 k1 k2 k3 k4 hr1
  rw [HW1.out] at HB1
  have Hln := Lib.hid hr1.1
  by_cases h3 : kd = 3 ∧ 1 ≤ nd ∧ nd ≤ 12 ∧ (n : Int) = nd
  · obtain ⟨hk, h1, h12, hn⟩ := h3
    subst hk
    have hlen := hr1.1
    have hR : Qm.right ⟨3, nd, on, tw, l⟩ = if l.any noSite = true then 2 else 0 := by
      unfold Qm.right Qm.rightS
      dsimp only
      rw [if_neg (by omega), if_neg (by omega), if_neg (by omega), if_pos rfl, if_neg (by rw [hlen]; omega)]
    rw [hR]
    obtain ⟨R, hR2⟩ : ∃ R, R = (if l.any noSite = true then (2 : Int) else 0) := ⟨_, rfl⟩
    rw [← hR2]
    have HR := Lib.hid hR2
    clear hR hR2
    subst hn
    rw [← HW1.out] at hr1 HB1
    have HRD := Lib.hid hr1
    have HB := Lib.hid HB1.out
    clear hr1 HB1
    go_enter Try.func22, Try.ntmps22
    go_wp2_with fail
    rw [← HW1.out] at k0 k1 k2 k3 k4 ⊢
    go_loopg [3] n (fun g i wr => ∃ k : Nat, i = .int .i64 (k : Int) ∧ k + g = n ∧ w1 = wr ∧ Hid (∀ j (hj : j < l.length), j < k → noSite l[j] = false))
    case atStart => exact ⟨0, rfl, by omega, rfl, Lib.hid fun j _ h => absurd h (by omega)⟩
    case round =>
      obtain ⟨k, rfl, hkg, rfl, HH⟩ := hrel
      by_cases hkn : k < n
      · have hkl : k < l.length := by rw [Hln.out]; exact hkn
        obtain ⟨b, o, rfl, hb, hc⟩ := HRD.out.2.2 (by omega)
        have hcell := hc k hkl
        obtain ⟨x, hx⟩ : ∃ x, x = l[k] := ⟨_, rfl⟩
        rw [← hx] at hcell
        have HX := Lib.hid hx
        have hkn' : (k : Int) < (n : Int) := by omega
        clear hc hx
        by_cases hns : x < 0 ∨ 11 < x
        · have hp : l.any noSite = true := List.any_eq_true.2 ⟨l[k], List.getElem_mem hkl, by rw [← HX.out]; unfold noSite; simp only [Bool.or_eq_true, decide_eq_true_eq]; omega⟩
          rcases hns with hx1 | hx1
          · go_wp2
            go_ret
            exact ⟨ret_i64 (by rw [HR.out, if_pos hp]), HB.out⟩
          · have hx2 : ¬ x < 0 := by omega
            go_wp2
            go_ret
            exact ⟨ret_i64 (by rw [HR.out, if_pos hp]), HB.out⟩
        · have hx1 : ¬ x < 0 := by omega
          have hx2 : ¬ 11 < x := by omega
          go_wp2
          go_roundg (gk - 1)
          case rel => exact ⟨k + 1, by go_num, by omega, rfl, Lib.hid fun j hj hjk => by
            by_cases e : j = k
            · subst e; rw [← HX.out]; unfold noSite; rw [decide_eq_false (by omega : ¬ x < 0), decide_eq_false (by omega : ¬ 12 ≤ x)]; rfl
            · exact HH.out j hj (by omega)⟩
          case measure => omega
      · obtain rfl : k = n := by omega
        have hp : l.any noSite = false := sites_any fun j hj => HH.out j hj (by rw [← Hln.out]; exact hj)
        go_wp2
        go_ret
        exact ⟨ret_i64 (by rw [HR.out, if_neg (by rw [hp]; simp)]), HB.out⟩
  · have hlen := hr1.1
    obtain ⟨R, hR⟩ : ∃ R, R = Qm.right ⟨kd, nd, on, tw, l⟩ := ⟨_, rfl⟩
    rw [← hR]
    unfold Qm.right Qm.rightC Qm.rightR Qm.rightS Qm.isCount at hR
    dsimp only at hR
    rw [hlen] at hR
    have HR := Lib.hid hR
    clear hR hr1
    by_cases hb : 1 ≤ on ∧ on ≤ nd ∧ 1 ≤ tw ∧ tw ≤ nd ∧ nd ≤ 12
    · have hp : wrap64 (on * tw) = on * tw := by
        have h1 : 0 ≤ on * tw := Int.mul_nonneg (by omega) (by omega)
        have h2 : on * tw ≤ 12 * 12 := Int.mul_le_mul (by omega) (by omega) (by omega) (by omega)
        unfold wrap64
        omega
      go_enter Try.func22, Try.ntmps22
      go_wp2
      all_goals first
        | (exfalso; simp only [bne_iff_ne, beq_iff_eq, ne_eq, bne_eq_false_iff_eq, beq_eq_false_iff_ne] at *; omega)
        | (go_ret
           refine ⟨ret_i64 ?_, (Below.refl _ _).alloc (Nat.le_refl _) _⟩
           rw [HR.out]
           simp only [Bool.or_eq_true, Bool.not_eq_true', Bool.and_eq_false_iff, decide_eq_false_iff_not, bne_iff_ne, beq_iff_eq, ne_eq, bne_eq_false_iff_eq, beq_eq_false_iff_ne] at *
           repeat' split
           all_goals omega)
    · go_enter Try.func22, Try.ntmps22
      go_wp2
      all_goals first
        | (exfalso; simp only [bne_iff_ne, beq_iff_eq, ne_eq, bne_eq_false_iff_eq, beq_eq_false_iff_ne] at *; omega)
        | (go_ret
           refine ⟨ret_i64 ?_, (Below.refl _ _).alloc (Nat.le_refl _) _⟩
           rw [HR.out]
           simp only [Bool.or_eq_true, Bool.not_eq_true', Bool.and_eq_false_iff, decide_eq_false_iff_not, bne_iff_ne, beq_iff_eq, ne_eq, bne_eq_false_iff_eq, beq_eq_false_iff_ne] at *
           repeat' split
           all_goals omega)
end Go.Proofs.Ythkkkldkpdkabaa
