/- Layer 15: how long to wait: the program's Back. -/
import Derived.Test.YtenmopnegedgjaaBuP
import Derived.Test.YtenmopnegedgjaaProg
import Derived.Lib.Hide
import Derived.WalkKit
import Derived.Deep.LoopGhost
import Derived.Deep.CutRange
import Derived.Deep.CutBlock
import Derived.Deep.DeepCutAuto
namespace Go.Proofs.Ytenmopnegedgjaa
open Go.RowKit

theorem baseB_le1 {base : Int} (h1 : 1 ≤ base) (h : base ≤ 4611686018427387904) : ((baseB base : Nat) : Int) = base := by unfold baseB; omega
theorem baseB_gt {base : Int} (h : ¬ base ≤ 4611686018427387904) : ((baseB base : Nat) : Int) = 4611686018427387904 := by unfold baseB; omega
theorem topB_cast {base most : Int} (h1 : 1 ≤ base) : ((topB base most : Nat) : Int) = min (max base most) 4611686018427387904 := by unfold topB; omega
set_option maxRecDepth 100000 in
theorem back_zero (base most tries : Int) (own : Nat) (h : base < 1 ∨ tries < 1) (w : World) :
    Calls Try.prog 19 #[.int .i64 base, .int .i64 most, .int .i64 tries, .int .u64 (own : Int)] w fun e w' => e = .returned (.int .i64 0) ∧ w' = w := by
  by_cases h1 : base < 1
  · clear h
    go_enter Try.func19, Try.ntmps19
    go_wp2
    go_ret
    exact ⟨rfl, rfl⟩
  · have h2 : tries < 1 := by omega
    clear h
    go_enter Try.func19, Try.ntmps19
    go_wp2
    go_ret
    exact ⟨rfl, rfl⟩
set_option maxRecDepth 100000 in
theorem back_ok (base most tries : Int) (own : Nat) (h1 : 1 ≤ base) (h2 : 1 ≤ tries) (h3 : base ≤ 9223372036854775807) (h4 : most ≤ 9223372036854775807) (h4' : -9223372036854775808 ≤ most) (h5 : tries ≤ 9223372036854775807) (h6 : own < 18446744073709551616) (w : World) :
    Calls Try.prog 19 #[.int .i64 base, .int .i64 most, .int .i64 tries, .int .u64 (own : Int)] w fun e w' => e = .returned (.int .i64 ((halfB (triesB base most tries) own : Nat) : Int)) ∧ w' = w := by
  unfold triesB
  have hbt := baseB_le base most
  have htl := topB_le base most
  have c1 := @baseB_le1 base h1
  have c2 := @baseB_gt base
  have c3 := @topB_cast base most h1
  obtain ⟨b0, hb0⟩ : ∃ b0, b0 = baseB base := ⟨_, rfl⟩
  obtain ⟨T, hT⟩ : ∃ T, T = topB base most := ⟨_, rfl⟩
  rw [← hb0] at hbt c1 c2 ⊢
  rw [← hT] at hbt htl c3 ⊢
  obtain ⟨N, hN⟩ := Int.eq_ofNat_of_zero_le (show 0 ≤ tries - 1 by omega)
  have e1 : IntKind.i64.wrap (tries - 1) = (N : Int) := by rw [hN, IntKind.wrap_i64]; omega
  rw [hN, Int.toNat_natCast]
  have m1 : ¬ base < 1 := by omega
  have m2 : ¬ tries < 1 := by omega
  have HN : Hid (N ≤ 9223372036854775806) := Lib.hid (by omega)
  have HBT := Lib.hid hbt
  have HTL := Lib.hid htl
  have C1 := Lib.hid c1
  have C2 := Lib.hid c2
  have C3 := Lib.hid c3
  have H3 := Lib.hid h3
  have H4 := Lib.hid h4
  have HO := Lib.hid h6
  clear hb0 hT hbt htl c1 c2 c3 hN h5 h6 h3 h4
  go_enter Try.func19, Try.ntmps19
  go_upto_region 3 with (fail)
  go_cut [9] (fun v wx => v = .int .u64 (b0 : Int) ∧ wx = w)
  case first =>
    by_cases k1 : base ≤ 4611686018427387904
    · have e2 := C1.out k1
      have e3 : IntKind.u64.wrap base = (b0 : Int) := by rw [IntKind.wrap_u64, e2]; omega
      clear e2
      go_wp2_with fail
      go_meet
      exact ⟨rfl, rfl⟩
    · have e2 := C2.out k1
      go_wp2_with fail
      go_meet
      exact ⟨by rw [e2], rfl⟩
  case rest =>
    obtain ⟨rfl, rfl⟩ := hcut
    go_upto_region 4 with (fail)
    go_cut [10] (fun v wx => v = .int .u64 (T : Int) ∧ wx = wc)
    case first =>
      have e9 : IntKind.u64.wrap (T : Int) = (T : Int) := by
        have := HTL.out
        rw [IntKind.wrap_u64]; omega
      have e8 := C3.out
      by_cases k1 : base < most
      · have e7 : max base most = most := by omega
        rw [e7] at e8
        by_cases k2 : most ≤ 4611686018427387904
        · have e6 : (T : Int) = most := by omega
          rw [e6] at e9
          have E6 := Lib.hid e6
          clear e6 e8 e7
          go_wp2_with fail
          go_meet
          exact ⟨by rw [E6.out], rfl⟩
        · have e6 : (T : Int) = 4611686018427387904 := by omega
          have E6 := Lib.hid e6
          clear e6 e8 e7 e9
          go_wp2_with fail
          go_meet
          exact ⟨by rw [E6.out], rfl⟩
      · have e7 : max base most = base := by omega
        rw [e7] at e8
        by_cases k2 : base ≤ 4611686018427387904
        · have e6 : (T : Int) = base := by omega
          rw [e6] at e9
          have E6 := Lib.hid e6
          clear e6 e8 e7
          go_wp2_with fail
          go_meet
          exact ⟨by rw [E6.out], rfl⟩
        · have e6 : (T : Int) = 4611686018427387904 := by omega
          have E6 := Lib.hid e6
          clear e6 e8 e7 e9
          go_wp2_with fail
          go_meet
          exact ⟨by rw [E6.out], rfl⟩
    case rest =>
      obtain ⟨rfl, rfl⟩ := hcut
      have HG : Hid (∀ G : Nat, G ≤ 4611686018427387904 → ∃ h p d r z : Nat, IntKind.u64.wrap ((G : Int) / 2) = (h : Int) ∧ IntKind.u64.wrap ((G : Int) - (h : Int)) = (p : Int) ∧ IntKind.u64.wrap ((h : Int) + 1) = (d : Int) ∧ ¬ d = 0 ∧ (own : Int) % (d : Int) = (r : Int) ∧ IntKind.u64.wrap (r : Int) = (r : Int) ∧ IntKind.u64.wrap ((p : Int) + (r : Int)) = (z : Int) ∧ IntKind.i64.wrap (z : Int) = (z : Int) ∧ Hid (halfB G own = z)) := Lib.hid (by
        intro G hG
        have hr := Nat.mod_lt own (show 0 < G / 2 + 1 by omega)
        refine ⟨G / 2, G - G / 2, G / 2 + 1, own % (G / 2 + 1), halfB G own, ?_, ?_, ?_, by omega, by omega, ?_, ?_, ?_, Lib.hid rfl⟩
        · rw [IntKind.wrap_u64]; omega
        · rw [IntKind.wrap_u64]; omega
        · rw [IntKind.wrap_u64]; omega
        · generalize own % (G / 2 + 1) = r at hr ⊢
          rw [IntKind.wrap_u64]; omega
        · unfold halfB
          generalize own % (G / 2 + 1) = r at hr ⊢
          rw [IntKind.wrap_u64]; omega
        · unfold halfB
          generalize own % (G / 2 + 1) = r at hr ⊢
          rw [IntKind.wrap_i64]; omega)
      go_wp2_with fail
      go_loopg [9, 28] N (fun gk a b wr => ∃ i : Nat, b = .int .i64 (i : Int) ∧ i + gk = N ∧ ∃ G : Nat, a = .int .u64 (G : Int) ∧ Hid (G = growB T b0 i) ∧ wr = wc)
      case atStart => exact ⟨0, rfl, by omega, b0, rfl, Lib.hid rfl, rfl⟩
      case round =>
        obtain ⟨i, rfl, hig, G, rfl, HGG, rfl⟩ := hrel
        have HT1 : Hid (G ≤ T) := Lib.hid (by rw [HGG.out]; exact growB_le _ _ HBT.out _)
        by_cases k1 : i < N
        · by_cases k2 : G = T
          · have k3 : ((G : Int) == (T : Int)) = true := by simp; omega
            obtain ⟨h, p, d, r, z, f1, f2, f3, f4, f5, f6, f7, f8, HZ⟩ := HG.out G (Nat.le_trans HT1.out HTL.out)
            have HE : Hid (growB T b0 N = G) := Lib.hid (by
              have := growB_stay T b0 i (by rw [← HGG.out]; exact k2) (N - i)
              rw [show i + (N - i) = N by omega] at this
              rw [this, k2])
            have k4 : (i : Int) < (N : Int) := by omega
            have HZ2 : Hid (halfB (growB T b0 N) own = z) := Lib.hid (by rw [HE.out, HZ.out])
            clear HG k2 HGG HT1 hig k1 HE HZ
            go_wp2_with fail
            go_ret
            exact ⟨by rw [HZ2.out]; rfl, rfl⟩
          · have k3 : ((G : Int) == (T : Int)) = false := by simp; omega
            have k4 : (i : Int) < (N : Int) := by omega
            have e5 : IntKind.u64.wrap (2 * (G : Int)) = ((2 * G : Nat) : Int) := by
              have := HT1.out
              have := HTL.out
              rw [IntKind.wrap_u64]; omega
            have e6 : IntKind.i64.wrap ((i : Int) + 1) = ((i + 1 : Nat) : Int) := by
              have := HN.out
              rw [IntKind.wrap_i64]; omega
            have HS : Hid (growB T b0 (i + 1) = min (2 * G) T) := Lib.hid (by rw [growB_succ, ← HGG.out])
            generalize 2 * G = D at e5 HS
            by_cases k5 : D ≤ T
            · have HD : Hid (D = growB T b0 (i + 1)) := Lib.hid (by rw [HS.out]; omega)
              clear HG k2 HGG HT1 HS
              go_wp2_with fail
              go_roundg (gk - 1)
              case measure => omega
              case rel => exact ⟨i + 1, by go_num, by omega, D, by go_num, HD, rfl⟩
            · have HD : Hid (T = growB T b0 (i + 1)) := Lib.hid (by rw [HS.out]; omega)
              clear HG k2 HGG HT1 HS
              go_wp2_with fail
              go_roundg (gk - 1)
              case measure => omega
              case rel => exact ⟨i + 1, by go_num, by omega, T, by go_num, HD, rfl⟩
        · obtain rfl : i = N := by omega
          have k4 : ¬ (i : Int) < (i : Int) := by omega
          obtain ⟨h, p, d, r, z, f1, f2, f3, f4, f5, f6, f7, f8, HZ⟩ := HG.out G (Nat.le_trans HT1.out HTL.out)
          have HZ2 : Hid (halfB (growB T b0 i) own = z) := Lib.hid (by rw [← HGG.out, HZ.out])
          clear HG HGG HT1 hig k1 HZ
          go_wp2_with fail
          go_ret
          exact ⟨by rw [HZ2.out]; rfl, rfl⟩
theorem back_any (base most tries : Int) (own : Nat) (h3 : base ≤ 9223372036854775807) (h4 : most ≤ 9223372036854775807) (h4' : -9223372036854775808 ≤ most) (h5 : tries ≤ 9223372036854775807) (h6 : own < 18446744073709551616) (w : World) :
    Calls Try.prog 19 #[.int .i64 base, .int .i64 most, .int .i64 tries, .int .u64 (own : Int)] w fun e w' => e = .returned (.int .i64 (backB base most tries own)) ∧ w' = w := by
  unfold backB
  split
  · rename_i h
    exact back_zero base most tries own h w
  · rename_i h
    exact back_ok base most tries own (by omega) (by omega) h3 h4 h4' h5 h6 w
end Go.Proofs.Ytenmopnegedgjaa
