/- Layer 15: the document's Wait and Back. -/
import Derived.Test.YtenmopnegedgjaaBuD
import Derived.Test.YtenmopnegedgjaaBuB
namespace Go.Proofs.Ytenmopnegedgjaa
open Go.RowKit

theorem two_half (k : Nat) : 2 ^ (k + 1) / 2 = 2 ^ k := by rw [Nat.pow_succ]; omega
section
variable {w : World} {g : Nat} {u : Bu}
set_option maxRecDepth 100000 in
set_option maxHeartbeats 1000000 in
theorem rwait_any (h : PU 35 w g u) (n : Int) : Calls Try.prog 18 #[.pointer (some ⟨g, 0, none⟩), .int .i64 n] w fun e w' => e = .returned (.int .i64 (u.wait n)) ∧ ∃ q, w' = w.drewN q := by
  have c0 := h.c0
  have c1 := h.c1
  have c2 := h.c2
  have hr := h.ok.r
  have hl := h.ok.l
  have hb := h.ok.b
  unfold Bu.wait
  by_cases m0 : n < 1 ∨ (u.burst : Int) < n
  · rw [if_pos m0]
    by_cases m1 : n < 1
    · clear h m0
      go_enter Try.func18, Try.ntmps18
      go_wp2
      go_ret
      exact ⟨rfl, 0, rfl⟩
    · have m2 : (u.burst : Int) < n := by omega
      clear h m0
      go_enter Try.func18, Try.ntmps18
      go_wp2
      go_ret
      exact ⟨rfl, 0, rfl⟩
  rw [if_neg m0]
  have m1 : ¬ n < 1 := by omega
  have m2 : ¬ (u.burst : Int) < n := by omega
  clear m0
  by_cases m3 : n ≤ (u.level : Int)
  · rw [if_pos m3]
    have m4 : ¬ (u.level : Int) < n := by omega
    clear h
    go_enter Try.func18, Try.ntmps18
    go_wp2
    go_ret
    exact ⟨rfl, 0, rfl⟩
  rw [if_neg m3]
  have m8 : (u.level : Int) < n := by omega
  by_cases m4 : u.rate = 0
  · rw [if_pos m4]
    have m5 : ((u.rate : Int) == 0) = true := by simp; omega
    clear h m4
    go_enter Try.func18, Try.ntmps18
    go_wp2
    go_ret
    exact ⟨rfl, 0, rfl⟩
  rw [if_neg m4]
  obtain ⟨k, rfl⟩ := Int.eq_ofNat_of_zero_le (show 0 ≤ n by omega)
  rw [Int.toNat_natCast]
  have m5 : ((u.rate : Int) == 0) = false := by simp; omega
  obtain ⟨x, hx, hx1, hx2⟩ := ceil_spec (k - u.level) u.rate (by omega) (by omega)
  rw [hx]
  obtain ⟨R, hR⟩ : ∃ R, R = u.rate := ⟨_, rfl⟩
  obtain ⟨L, hL⟩ : ∃ L, L = u.level := ⟨_, rfl⟩
  obtain ⟨B, hB⟩ : ∃ B, B = u.burst := ⟨_, rfl⟩
  rw [← hR] at c0 hr m5 hx1 hx2 m4
  rw [← hB] at c1 hb hl m2
  rw [← hL] at c2 hl hx1 hx2 m3 m8
  have HX : Hid (x * R < k - L ∧ k - L ≤ (x + 1) * R ∧ 0 < R ∧ L < k ∧ k ≤ 1000000 ∧ R ≤ 1000000) := Lib.hid ⟨hx1, hx2, by omega, by omega, by omega, hr⟩
  clear h m4 hr hl hb hx hx1 hx2 hR hL hB
  go_enter Try.func18, Try.ntmps18
  go_wp2_with fail
  go_loopg [5, 6] 21 (fun gk a b wr => ∃ K S : Nat, a = .int .i64 (K : Int) ∧ b = .int .i64 (S : Int) ∧ gk ≤ 21 ∧ Hid (S = 2 ^ gk / 2 ∧ L + K * R < k ∧ k ≤ L + (K + 2 ^ gk) * R) ∧ ∃ q, wr = w.drewN q)
  case atStart =>
    refine ⟨0, 1048576, rfl, rfl, by omega, Lib.hid ⟨by decide, by have := HX.out; omega, ?_⟩, 0, rfl⟩
    have := HX.out
    have h2 : 2 ^ 21 * 1 ≤ (0 + 2 ^ 21) * R := by rw [Nat.zero_add]; exact Nat.mul_le_mul (Nat.le_refl _) this.2.2.1
    have h3 : (2 : Nat) ^ 21 = 2097152 := by decide
    omega
  case round =>
    obtain ⟨K, S, rfl, rfl, hg, HI, q, rfl⟩ := hrel
    have HK : Hid (K ≤ 1000000) := Lib.hid (by
      have h1 := HI.out
      have h2 := HX.out
      have h3 : K * 1 ≤ K * R := Nat.mul_le_mul (Nat.le_refl _) h2.2.2.1
      omega)
    cases gk with
    | zero =>
      have hS : S = 0 := by have := HI.out; omega
      subst hS
      have HE : Hid (((x + 1 : Nat) : Int) = (K : Int) + 1) := Lib.hid (by
        have h1 := HI.out
        have h2 := HX.out
        have h3 : ceil_iff (k - L) R K h2.2.2.1 (by omega) (by
          have := h1.2.2
          rw [Nat.pow_zero] at this
          omega) = ceil_iff (k - L) R K h2.2.2.1 (by omega) (by
          have := h1.2.2
          rw [Nat.pow_zero] at this
          omega) := rfl
        clear h3
        have h4 : (k - L + R - 1) / R = K + 1 := ceil_iff (k - L) R K h2.2.2.1 (by omega) (by
          have := h1.2.2
          rw [Nat.pow_zero] at this
          omega)
        have h5 : (k - L + R - 1) / R = x + 1 := ceil_iff (k - L) R x h2.2.2.1 h2.1 h2.2.1
        omega)
      have e1 : IntKind.i64.wrap ((K : Int) + 1) = (K : Int) + 1 := by
        have := HK.out
        rw [IntKind.wrap_i64]; omega
      clear HI
      go_wp2_with fail
      go_ret
      exact ⟨by rw [HE.out]; rfl, q, rfl⟩
    | succ j =>
      obtain ⟨P, hP⟩ : ∃ P, P = 2 ^ j := ⟨_, rfl⟩
      have hS : S = P := by have := HI.out.1; rw [two_half] at this; omega
      have hP1 : 1 ≤ P := by rw [hP]; exact Nat.one_le_two_pow
      have hP2 : P ≤ 1048576 := by
        rw [hP]
        exact Nat.le_trans (Nat.pow_le_pow_right (by omega) (show j ≤ 20 by omega)) (by decide)
      subst hS
      have HT : Hid (2 ^ (j + 1) = 2 * S) := Lib.hid (by rw [Nat.pow_succ, hP]; omega)
      have HP := Lib.hid hP
      have hm : (K + S) * R ≤ 2048576 * 1000000 := Nat.mul_le_mul (by have := HK.out; omega) HX.out.2.2.2.2.2
      have e0 : IntKind.i64.wrap ((K : Int) + (S : Int)) = ((K + S : Nat) : Int) := by
        have := HK.out
        rw [IntKind.wrap_i64]; omega
      obtain ⟨D, hD⟩ : ∃ D, D = K + S := ⟨_, rfl⟩
      rw [← hD] at e0 hm
      obtain ⟨Y, hY⟩ : ∃ Y, Y = D * R := ⟨_, rfl⟩
      rw [← hY] at hm
      have e1 : IntKind.i64.wrap ((D : Int) * (R : Int)) = (Y : Int) := by rw [← Int.natCast_mul, ← hY, IntKind.wrap_i64]; omega
      obtain ⟨Z, hZ⟩ : ∃ Z, Z = L + Y := ⟨_, rfl⟩
      have e2 : IntKind.i64.wrap ((L : Int) + (Y : Int)) = (Z : Int) := by
        have := HX.out
        rw [IntKind.wrap_i64, hZ]; omega
      have e3 : IntKind.i64.wrap ((S : Int) / 2) = ((S / 2 : Nat) : Int) := by rw [IntKind.wrap_i64]; omega
      have m9 : 0 < (S : Int) := by omega
      have HN : Hid (S / 2 = 2 ^ j / 2) := Lib.hid (by rw [hP])
      have HZ : Hid (Z = L + (K + S) * R) := Lib.hid (by rw [hZ, hY, hD])
      have HD : Hid (D = K + S) := Lib.hid hD
      generalize S / 2 = H at e3 HN
      by_cases m7 : Z < k
      · have HJ : Hid (H = 2 ^ j / 2 ∧ L + D * R < k ∧ k ≤ L + (D + 2 ^ j) * R) := Lib.hid (by
          have h1 := HI.out
          have h2 := HZ.out
          refine ⟨HN.out, by rw [HD.out]; omega, ?_⟩
          rw [HD.out, ← HP.out]
          have h3 := h1.2.2
          rw [HT.out] at h3
          rw [show K + S + S = K + 2 * S by omega]
          exact h3)
        clear hP hD hY hZ hm HI HT HZ HN HD HP hP1 hP2
        go_wp2_with fail
        go_quiet (fail)
        go_wp2
        go_roundg (j)
        case measure => omega
        case rel => exact ⟨D, H, by go_num, by go_num, by omega, HJ, _, rfl⟩
      · have HJ : Hid (H = 2 ^ j / 2 ∧ L + K * R < k ∧ k ≤ L + (K + 2 ^ j) * R) := Lib.hid (by
          have h1 := HI.out
          have h2 := HZ.out
          refine ⟨HN.out, h1.2.1, ?_⟩
          rw [← HP.out]
          omega)
        clear hP hD hY hZ hm HI HT HZ HN HD HP hP1 hP2
        go_wp2_with fail
        go_quiet (fail)
        go_wp2
        go_roundg (j)
        case measure => omega
        case rel => exact ⟨K, H, by go_num, by go_num, by omega, HJ, _, rfl⟩
end
end Go.Proofs.Ytenmopnegedgjaa
