/- Layer 15: the document's Back. -/
import Derived.Test.YtenmopnegedgjaaBuB
import Derived.Test.YtenmopnegedgjaaBuE
namespace Go.Proofs.Ytenmopnegedgjaa
open Go.RowKit

set_option maxRecDepth 100000 in
theorem rback_zero (base most tries : Int) (own : Nat) (h : base < 1 ∨ tries < 1) (w : World) :
    Calls Try.prog 20 #[.int .i64 base, .int .i64 most, .int .i64 tries, .int .u64 (own : Int)] w fun e w' => e = .returned (.int .i64 0) ∧ w' = w := by
  by_cases h1 : base < 1
  · clear h
    go_enter Try.func20, Try.ntmps20
    go_wp2
    go_ret
    exact ⟨rfl, rfl⟩
  · have h2 : tries < 1 := by omega
    clear h
    go_enter Try.func20, Try.ntmps20
    go_wp2
    go_ret
    exact ⟨rfl, rfl⟩
set_option maxRecDepth 100000 in
set_option maxHeartbeats 1000000 in
theorem rback_ok (base most tries : Int) (own : Nat) (h1 : 1 ≤ base) (h2 : 1 ≤ tries) (h3 : base ≤ 9223372036854775807) (h4 : most ≤ 9223372036854775807) (_ : -9223372036854775808 ≤ most) (h5 : tries ≤ 9223372036854775807) (h6 : own < 18446744073709551616) (w : World) :
    Calls Try.prog 20 #[.int .i64 base, .int .i64 most, .int .i64 tries, .int .u64 (own : Int)] w fun e w' => e = .returned (.int .i64 ((halfB (triesB base most tries) own : Nat) : Int)) ∧ w' = w := by
  unfold triesB
  have hbt := baseB_le base most
  have htl := topB_le base most
  have c1 := @baseB_le1 base h1
  have c2 := @baseB_gt base
  have c3 := @topB_cast base most h1
  obtain ⟨b0, hb0⟩ : ∃ b0, b0 = baseB base := ⟨_, rfl⟩
  obtain ⟨T, hT⟩ : ∃ T, T = topB base most := ⟨_, rfl⟩
  rw [← hb0] at hbt c1 c2 ⊢
  rw [← hT] at hbt htl c3 ⊢
  obtain ⟨N, hN⟩ := Int.eq_ofNat_of_zero_le (show 0 ≤ tries - 1 by omega)
  have HN2 : Hid (tries = (N : Int) + 1) := Lib.hid (by omega)
  rw [hN, Int.toNat_natCast]
  have m1 : ¬ base < 1 := by omega
  have m2 : ¬ tries < 1 := by omega
  have HN : Hid (N ≤ 9223372036854775806) := Lib.hid (by omega)
  have HBT := Lib.hid hbt
  have HTL := Lib.hid htl
  have C1 := Lib.hid c1
  have C2 := Lib.hid c2
  have C3 := Lib.hid c3
  have H3 := Lib.hid h3
  have H4 := Lib.hid h4
  have HO := Lib.hid h6
  clear hb0 hT hbt htl c1 c2 c3 hN h5 h6 h3 h4
  go_enter Try.func20, Try.ntmps20
  obtain ⟨M, hM⟩ : ∃ M : Int, M = max (b0 : Int) most := ⟨_, rfl⟩
  have HM := Lib.hid hM
  have HTM : Hid ((T : Int) = min M 4611686018427387904) := Lib.hid (by
    have h1 := C3.out
    by_cases k : base ≤ 4611686018427387904
    · have := C1.out k
      omega
    · have := C2.out k
      omega)
  clear hM
  go_upto_if 19 with (fail)
  go_cut [0] (fun v wx => v = .int .i64 (b0 : Int) ∧ wx = w)
  case first =>
    by_cases k1 : base ≤ 4611686018427387904
    · have e2 := C1.out k1
      have k2 : ¬ 4611686018427387904 < base := by omega
      have E2 := Lib.hid e2
      clear e2
      go_wp2_with fail
      go_meet
      exact ⟨by rw [E2.out], rfl⟩
    · have e2 := C2.out k1
      have k2 : 4611686018427387904 < base := by omega
      have E2 := Lib.hid e2
      clear e2
      go_wp2_with fail
      go_meet
      exact ⟨by rw [E2.out], rfl⟩
  case rest =>
    obtain ⟨rfl, rfl⟩ := hcut
    go_upto_if 22 with (fail)
    go_cut [1] (fun v wx => v = .int .i64 M ∧ wx = wc)
    case first =>
      by_cases k3 : most < (b0 : Int)
      · have E2 : Hid (M = (b0 : Int)) := Lib.hid (by have := HM.out; omega)
        go_wp2_with fail
        go_meet
        exact ⟨by rw [E2.out], rfl⟩
      · have E2 : Hid (M = most) := Lib.hid (by have := HM.out; omega)
        go_wp2_with fail
        go_meet
        exact ⟨by rw [E2.out], rfl⟩
    case rest =>
      obtain ⟨rfl, rfl⟩ := hcut
      go_upto_if 25 with (fail)
      go_cut [1] (fun v wx => v = .int .i64 (T : Int) ∧ wx = wc)
      case first =>
        by_cases k3 : 4611686018427387904 < M
        · have E2 : Hid ((T : Int) = 4611686018427387904) := Lib.hid (by have := HTM.out; omega)
          go_wp2_with fail
          go_meet
          exact ⟨by rw [E2.out], rfl⟩
        · have E2 : Hid ((T : Int) = M) := Lib.hid (by have := HTM.out; omega)
          go_wp2_with fail
          go_meet
          exact ⟨by rw [E2.out], rfl⟩
      case rest =>
        obtain ⟨rfl, rfl⟩ := hcut
        go_wp2_with fail
        go_loopg [9, 10] N (fun gk a b wr => ∃ i : Nat, b = .int .i64 ((i : Int) + 1) ∧ i + gk = N ∧ ∃ G : Nat, a = .int .i64 (G : Int) ∧ Hid (G = growB T b0 i) ∧ wr = wc)
        case atStart => exact ⟨0, by go_num, by omega, b0, rfl, Lib.hid rfl, rfl⟩
        case round =>
          obtain ⟨i, rfl, hig, G, rfl, HGG, rfl⟩ := hrel
          have HT1 : Hid (G ≤ T) := Lib.hid (by rw [HGG.out]; exact growB_le _ _ HBT.out _)
          have HG1 := Lib.hid (Nat.le_trans HT1.out HTL.out)
          have HE : Hid (¬ (i < N ∧ G < T) → growB T b0 N = G) := Lib.hid (fun hh => by
            by_cases k : i < N
            · have k2 : G = T := by have := HT1.out; omega
              have := growB_stay T b0 i (by rw [← HGG.out]; exact k2) (N - i)
              rw [show i + (N - i) = N by omega] at this
              rw [this, k2]
            · obtain rfl : i = N := by omega
              exact HGG.out.symm)
          by_cases kk : i < N ∧ G < T
          · have k1 : (i : Int) + 1 < tries := by have := HN2.out; omega
            have k2 : (G : Int) < (T : Int) := by omega
            have e5 : IntKind.i64.wrap ((T : Int) - (G : Int)) = ((T - G : Nat) : Int) := by
              have := HG1.out
              have := HTL.out
              rw [IntKind.wrap_i64]; omega
            have e6 : IntKind.i64.wrap ((i : Int) + 1 + 1) = ((i + 1 : Nat) : Int) + 1 := by
              have := HN.out
              rw [IntKind.wrap_i64]; omega
            have HS : Hid (growB T b0 (i + 1) = min (2 * G) T) := Lib.hid (by rw [growB_succ, ← HGG.out])
            obtain ⟨D, hD⟩ : ∃ D, D = T - G := ⟨_, rfl⟩
            rw [← hD] at e5
            have HKK := Lib.hid kk
            by_cases k5 : D < G
            · have HD : Hid (T = growB T b0 (i + 1)) := Lib.hid (by rw [HS.out]; have := HT1.out; omega)
              clear kk HGG HT1 HS HE HG1 hD
              go_wp2_with fail
              go_roundg (gk - 1)
              case measure => have := HKK.out; omega
              case rel => exact ⟨i + 1, by go_num, by have := HKK.out; omega, T, by go_num, HD, rfl⟩
            · have e7 : IntKind.i64.wrap ((G : Int) + (G : Int)) = ((2 * G : Nat) : Int) := by
                have := HT1.out
                have := HTL.out
                have := HG1.out
                rw [IntKind.wrap_i64]; omega
              have HD : Hid (2 * G = growB T b0 (i + 1)) := Lib.hid (by rw [HS.out]; have := HT1.out; omega)
              generalize 2 * G = E at e7 HD
              clear kk HGG HT1 HS HE HG1 hD
              go_wp2_with fail
              go_roundg (gk - 1)
              case measure => have := HKK.out; omega
              case rel => exact ⟨i + 1, by go_num, by have := HKK.out; omega, E, by go_num, HD, rfl⟩
          · have HE2 := Lib.hid (HE.out kk)
            have hr := Nat.mod_lt own (show 0 < G / 2 + 1 by omega)
            have HZ : Hid (halfB (growB T b0 N) own = (G - G / 2) + own % (G / 2 + 1)) := Lib.hid (by rw [HE2.out]; rfl)
            have e1 : IntKind.i64.wrap ((G : Int) / 2) = ((G / 2 : Nat) : Int) := by have := HG1.out; rw [IntKind.wrap_i64]; omega
            have hcase : (G % 2 = 1 ∧ G - G / 2 = G / 2 + 1) ∨ (G % 2 = 0 ∧ G - G / 2 = G / 2) := by omega
            have hG := HG1.out
            obtain ⟨r, hr0⟩ : ∃ r, r = own % (G / 2 + 1) := ⟨_, rfl⟩
            rw [← hr0] at hr HZ
            obtain ⟨A, hA⟩ : ∃ A, A = G - G / 2 := ⟨_, rfl⟩
            rw [← hA] at HZ hcase
            have e3 : IntKind.i64.wrap ((G : Int) - (A : Int)) = ((G - A : Nat) : Int) := by rw [IntKind.wrap_i64]; omega
            have e4 : IntKind.i64.wrap (((G - A : Nat) : Int) + 1) = ((G / 2 + 1 : Nat) : Int) := by rw [IntKind.wrap_i64]; omega
            obtain ⟨X, hX⟩ : ∃ X, X = G - A := ⟨_, rfl⟩
            obtain ⟨Y, hY⟩ : ∃ Y, Y = G / 2 + 1 := ⟨_, rfl⟩
            rw [← hX] at e3 e4
            rw [← hY] at e4 hr0
            have e5 : IntKind.u64.wrap (Y : Int) = (Y : Int) := by rw [IntKind.wrap_u64]; omega
            have e6 : (own : Int) % (Y : Int) = (r : Int) := by omega
            have e7 : IntKind.u64.wrap (r : Int) = (r : Int) := by rw [IntKind.wrap_u64]; omega
            have e8 : IntKind.i64.wrap (r : Int) = (r : Int) := by rw [IntKind.wrap_i64]; omega
            have e9 : IntKind.i64.wrap ((A : Int) + (r : Int)) = ((A + r : Nat) : Int) := by rw [IntKind.wrap_i64]; omega
            have m5 : ¬ Y = 0 := by omega
            have HG2 : Hid (¬ (i < N ∧ G < T)) := Lib.hid kk
            generalize A + r = Z at e9 HZ
            rcases hcase with ⟨o1, o2⟩ | ⟨o1, o2⟩
            · have p1 : (((G % 2 : Nat) : Int) == 1) = true := by rw [o1]; rfl
              have p2 : (G : Int) % 2 = 1 := by omega
              have p3 : IntKind.i64.wrap (((G / 2 : Nat) : Int) + 1) = (A : Int) := by rw [IntKind.wrap_i64]; omega
              generalize G / 2 = hh at *
              by_cases k1 : i < N
              · have k2 : ¬ (G : Int) < (T : Int) := by omega
                have k3 : (i : Int) + 1 < tries := by have := HN2.out; omega
                clear kk hr hA hX hY hr0 hG HE HE2 hig k1 o1 o2
                go_wp2_with fail
                go_ret
                exact ⟨by rw [HZ.out]; rfl, rfl⟩
              · have k3 : ¬ (i : Int) + 1 < tries := by have := HN2.out; omega
                clear kk hr hA hX hY hr0 hG HE HE2 hig k1 o1 o2
                go_wp2_with fail
                go_ret
                exact ⟨by rw [HZ.out]; rfl, rfl⟩
            · have p2 : (G : Int) % 2 = 0 := by omega
              rw [← o2] at e1
              by_cases k1 : i < N
              · have k2 : ¬ (G : Int) < (T : Int) := by omega
                have k3 : (i : Int) + 1 < tries := by have := HN2.out; omega
                clear kk hr hA hX hY hr0 hG HE HE2 hig k1 o1 o2
                go_wp2_with fail
                go_ret
                exact ⟨by rw [HZ.out]; rfl, rfl⟩
              · have k3 : ¬ (i : Int) + 1 < tries := by have := HN2.out; omega
                clear kk hr hA hX hY hr0 hG HE HE2 hig k1 o1 o2
                go_wp2_with fail
                go_ret
                exact ⟨by rw [HZ.out]; rfl, rfl⟩
theorem rback_any (base most tries : Int) (own : Nat) (h3 : base ≤ 9223372036854775807) (h4 : most ≤ 9223372036854775807) (h4' : -9223372036854775808 ≤ most) (h5 : tries ≤ 9223372036854775807) (h6 : own < 18446744073709551616) (w : World) :
    Calls Try.prog 20 #[.int .i64 base, .int .i64 most, .int .i64 tries, .int .u64 (own : Int)] w fun e w' => e = .returned (.int .i64 (backB base most tries own)) ∧ w' = w := by
  unfold backB
  split
  · rename_i h
    exact rback_zero base most tries own h w
  · rename_i h
    exact rback_ok base most tries own (by omega) (by omega) h3 h4 h4' h5 h6 w
end Go.Proofs.Ytenmopnegedgjaa
