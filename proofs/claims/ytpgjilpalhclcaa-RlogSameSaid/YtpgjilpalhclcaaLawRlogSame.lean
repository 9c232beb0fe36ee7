/- RlogSame: two logs that learned the same values in other orders tell the same. -/
import Derived.Test.YtpgjilpalhclcaaRlSm
import Derived.Test.YtpgjilpalhclcaaRlHo
namespace Go.Proofs.Ytpgjilpalhclcaa
open Go.ChangeShapes Go.WideShapes Go.ChangeAt Go.RowKit

set_option maxHeartbeats 8000000 in
set_option maxRecDepth 100000 in
theorem rlogSame_walk (A0 : Option Addr) (n0 c0 : Nat) (f0 : Nat → Option Addr × Nat × Nat × List UInt8) (A1 : Option Addr) (n1 c1 : Nat) (f1 : Nat → Nat) (A2 : Option Addr) (n2 c2 : Nat) (f2 : Nat → Nat) (W : World) (hc0 : n0 ≤ c0) (hm0 : c0 ≤ 9223372036854775807) (hr0 : Lsr W W.heap.size A0 n0 f0) (hc1 : n1 ≤ c1) (hm1 : c1 ≤ 9223372036854775807) (hr1 : Nsr W W.heap.size A1 n1 f1) (hc2 : n2 ≤ c2) (hm2 : c2 ≤ 9223372036854775807) (hr2 : Nsr W W.heap.size A2 n2 f2) :
    Calls Try.prog 5 #[.slice A0 n0 c0, .slice A1 n1 c1, .slice A2 n2 c2] W fun e W' => e = .returned (.bool true) ∧ Below W.heap.size W W' := by
  have HKn := Lib.hid (fun w => known12_any w)
  have HN := Lib.hid (fun w => ol_new w)
  have HAc : Hid (∀ w, Below W.heap.size W w → ∀ k, k < n0 → ∃ b o, A0 = some ⟨b, o, none⟩ ∧ w.cell? ⟨b, o + k, none⟩ = some (.slice (f0 k).1 (f0 k).2.1 (f0 k).2.2.1) ∧ Rd w W.heap.size (f0 k).1 (f0 k).2.1 (f0 k).2.2.2) := Lib.hid fun w hb k hk => by
    obtain ⟨b, o, e, _, hi⟩ := (hr0.below hb) (by omega)
    obtain ⟨q0, _, _, q3⟩ := hi k hk
    exact ⟨b, o, e, q0, q3⟩
  have HOne : Hid (∀ w, Below W.heap.size W w → ∀ k, k < n1 → ∃ b o, A1 = some ⟨b, o, none⟩ ∧ w.cell? ⟨b, o + k, none⟩ = some (.int .u64 (f1 k : Int))) := Lib.hid fun w hb k hk => by
    obtain ⟨b, o, e, _, hi⟩ := (hr1.below hb) (by omega)
    exact ⟨b, o, e, hi k hk⟩
  have HTwo : Hid (∀ w, Below W.heap.size W w → ∀ k, k < n2 → ∃ b o, A2 = some ⟨b, o, none⟩ ∧ w.cell? ⟨b, o + k, none⟩ = some (.int .u64 (f2 k : Int))) := Lib.hid fun w hb k hk => by
    obtain ⟨b, o, e, _, hi⟩ := (hr2.below hb) (by omega)
    exact ⟨b, o, e, hi k hk⟩
  obtain ⟨val, hval⟩ : ∃ val : Nat → List UInt8, val = fun j => (f0 j).2.2.2 := ⟨_, rfl⟩
  have HVal : Hid (∀ j, val j = (f0 j).2.2.2) := Lib.hid fun j => by rw [hval]
  clear hr0 hr1 hr2 hval
  go_enter Try.func5, Try.ntmps5
  go_upto_block 0 with (fail)
  go_cut [7] from 19 (fun _u wx => Hid (Below W.heap.size W wx ∧ ∀ j, j < n0 → (f0 j).2.1 ≤ 100))
  case first =>
    go_wp2
    go_loopg [7] n0 (fun gk a wr => ∃ i : Nat, a = .int .i64 (i : Int) ∧ i + gk = n0 ∧ Hid (Below W.heap.size W wr ∧ ∀ j, j < i → (f0 j).2.1 ≤ 100))
    case atStart => exact ⟨0, rfl, by omega, Lib.hid ⟨Below.refl _ _, fun j hj => by omega⟩⟩
    case round =>
      obtain ⟨i, rfl, hig, HS⟩ := hrel
      by_cases hin : i < n0
      · obtain ⟨b, o, rfl, a0, _⟩ := HAc.out wr HS.out.1 i hin
        have m1 : (i : Int) < (n0 : Int) := by omega
        have m0 : ¬ (i : Int) < 0 := by omega
        have e5 : IntKind.i64.wrap ((i : Int) + 1) = ((i + 1 : Nat) : Int) := by rw [IntKind.wrap_i64]; omega
        obtain ⟨vn, hvn⟩ : ∃ vn, vn = (f0 i).2.1 := ⟨_, rfl⟩
        rw [← hvn] at a0
        have Hvn := Lib.hid hvn
        clear hvn
        by_cases h100 : vn ≤ 100
        · have x1 : ¬ (100 : Int) < (vn : Int) := by omega
          have HS6 : Hid (Below W.heap.size W wr ∧ ∀ j, j < i + 1 → (f0 j).2.1 ≤ 100) := Lib.hid ⟨HS.out.1, fun j hj => by
            by_cases e : j = i
            · subst e; rw [← Hvn.out]; exact h100
            · exact HS.out.2 j (by omega)⟩
          go_wp2
          go_roundg (gk - 1)
          case measure => omega
          case rel => exact ⟨i + 1, by go_num, by omega, HS6⟩
        · have x1 : (100 : Int) < (vn : Int) := by omega
          have HB := Lib.hid HS.out.1
          go_wp2_with fail
          refine (HKn.out _).mono ?_
          rintro e wc ⟨rfl, hb4⟩
          have HB4 := Lib.hid (below_then HB.out hb4)
          clear hb4
          go_wp2
          go_ret
          exact ⟨rfl, HB4.out⟩
      · have m1 : ¬ (i : Int) < (n0 : Int) := by omega
        go_wp2_with fail
        go_meet
        exact Lib.hid ⟨HS.out.1, fun j hj => HS.out.2 j (by omega)⟩
  case rest =>
  obtain ⟨N, hN⟩ : ∃ N, N = min n0 40 := ⟨_, rfl⟩
  have hN40 : N ≤ 40 := by omega
  have hNn : N ≤ n0 := by omega
  have HNe := Lib.hid hN
  have z1 : min (n0 : Int) 40 = (N : Int) := by omega
  have z2 : (if (n0 : Int) < 40 then (n0 : Int) else 40) = (N : Int) := by split <;> omega
  have z3 : (if (40 : Int) < (n0 : Int) then (40 : Int) else (n0 : Int)) = (N : Int) := by split <;> omega
  have z4 : IntKind.u64.wrap (N : Int) = (N : Int) := by rw [IntKind.wrap_u64]; omega
  clear hN
  have HB0 := Lib.hid hcut.out.1
  have HV := Lib.hid hcut.out.2
  clear hcut
  obtain ⟨wb, hwb⟩ : ∃ z, z = wc := ⟨_, rfl⟩
  subst hwb
  go_wp2_with fail
  clear z1 z2 z3 z4
  refine (HN.out _).mono ?_
  rintro e w2 ⟨g1, F, rfl, HO⟩
  have HTw := Lib.hid (ol_two HO.out)
  clear HO HN
  go_wp2_with fail
  refine HTw.out.mono ?_
  clear HTw
  rintro e w3 ⟨g2, rfl, HT⟩
  have HS3 : Hid (SaL wb val N g1 g2 w3) := Lib.hid ⟨_, _, HT.out, Fits.new, Fits.new, rfl⟩
  clear HT
  by_cases hN0 : N = 0
  · subst hN0
    have HB3 := Lib.hid (below_then HB0.out HS3.out.bel)
    go_wp2_with fail
    refine (HKn.out _).mono ?_
    rintro e w4 ⟨rfl, hb4⟩
    have HB4 := Lib.hid (below_then HB3.out hb4)
    clear hb4
    go_wp2
    go_ret
    exact ⟨rfl, HB4.out⟩
  have y1 : ((N : Int) == 0) = false := by simp; omega
  have y2 : ¬ (N : Int) = 0 := by omega
  have y3 : ¬ (N : Int) = (0 : Nat) := by omega
  go_upto_block 2 with (fail)
  go_cut [11, 12] from 57 (fun _a _b wx => Hid (SaL wb val N g1 g2 wx))
  case first =>
    go_wp2
    go_loopg [11, 12] n1 (fun gk a b wr => ∃ i : Nat, a = .int .i64 (i : Int) ∧ i + gk = n1 ∧ i ≤ 100 ∧ Hid (SaL wb val N g1 g2 wr))
    case atStart => exact ⟨0, rfl, by omega, by omega, HS3⟩
    case round =>
      obtain ⟨i, rfl, hig, hi100, HS⟩ := hrel
      by_cases hlt : i < n1 ∧ i < 100
      · obtain ⟨hin, hi1⟩ := hlt
        have m1 : (i : Int) < (n1 : Int) := by omega
        have m2 : (i : Int) < 100 := by omega
        have m0 : ¬ (i : Int) < 0 := by omega
        have e5 : IntKind.i64.wrap ((i : Int) + 1) = ((i + 1 : Nat) : Int) := by rw [IntKind.wrap_i64]; omega
        have HBr := Lib.hid (below_then HB0.out HS.out.bel)
        obtain ⟨b, o, rfl, a0⟩ := HOne.out wr HBr.out i hin
        obtain ⟨sl, hsl⟩ : ∃ sl, sl = f1 i := ⟨_, rfl⟩
        rw [← hsl] at a0
        obtain ⟨S, hS⟩ : ∃ S, S = sl % N := ⟨_, rfl⟩
        have hSN : S < N := by rw [hS]; exact Nat.mod_lt _ (by omega)
        obtain ⟨r1, r2, r3⟩ := rem_u64 sl N (by omega) (by omega)
        rw [← hS] at r1 r2 r3
        clear hS hsl
        obtain ⟨b2, o2, rfl, a2, hrd⟩ := HAc.out wr HBr.out S (by omega)
        rw [← HVal.out S] at hrd
        have hvl := HV.out S (by omega)
        obtain ⟨T, hT⟩ : ∃ T, T = S + 1 := ⟨_, rfl⟩
        have e6 : IntKind.u64.wrap ((S : Int) + 1) = (T : Int) := by rw [IntKind.wrap_u64]; omega
        have m3 : (S : Int) < (n0 : Int) := by omega
        have m4 : ¬ (S : Int) < 0 := by omega
        have HLe := Lib.hid (HS.out.learnA hSN (by omega) (f0 S).2.2.1 (hrd.more HBr.out.size) hvl)
        rw [← hT] at HLe
        clear hrd hvl hT
        generalize (f0 S).1 = vA at *
        generalize (f0 S).2.1 = vn at *
        generalize (f0 S).2.2.1 = vc at *
        go_wp2_with fail
        refine HLe.out.mono ?_
        clear HLe
        rintro e w5 ⟨rfl, HS5⟩
        by_cases h3 : i % 3 = 0
        · have t1 : (i : Int).tmod 3 = 0 := by rw [Int.tmod_eq_emod_of_nonneg (by omega)]; omega
          have t2 : (i : Int) % 3 = 0 := by omega
          have HAp := Lib.hid HS5.out.applyA
          go_wp2_with fail
          refine HAp.out.mono ?_
          clear HAp
          rintro e w6 ⟨⟨x, bq, rfl⟩, HS6⟩
          go_wp2
          go_roundg (gk - 1)
          case measure => omega
          case rel => exact ⟨i + 1, by go_num, by omega, by omega, HS6⟩
        · obtain ⟨R, hR⟩ : ∃ R, R = i % 3 := ⟨_, rfl⟩
          have t1 : (i : Int).tmod 3 = (R : Int) := by rw [Int.tmod_eq_emod_of_nonneg (by omega)]; omega
          have t2 : (i : Int) % 3 = (R : Int) := by omega
          have t3 : IntKind.i64.wrap (R : Int) = (R : Int) := by rw [IntKind.wrap_i64]; omega
          have t4 : ((R : Int) == 0) = false := by simp; omega
          have t5 : ¬ (R : Int) = 0 := by omega
          clear hR h3
          go_wp2
          go_roundg (gk - 1)
          case measure => omega
          case rel => exact ⟨i + 1, by go_num, by omega, by omega, HS5⟩
      · have hlt' : ¬ i < n1 ∨ (i < n1 ∧ ¬ i < 100) := by omega
        clear hlt
        rcases hlt' with h | ⟨h, h'⟩
        · have m1 : ¬ (i : Int) < (n1 : Int) := by omega
          go_wp2_with fail
          go_meet
          exact HS
        · have m1 : (i : Int) < (n1 : Int) := by omega
          have m2 : ¬ (i : Int) < 100 := by omega
          go_wp2_with fail
          go_meet
          exact HS
  case rest =>
  have HS4 := hcut
  clear hcut HS3
  go_upto_block 4 with (fail)
  go_cut [13, 14] from 87 (fun _a _b wx => Hid (SaL wb val N g1 g2 wx))
  case first =>
    go_wp2
    go_loopg [13, 14] n2 (fun gk a b wr => ∃ i : Nat, a = .int .i64 (i : Int) ∧ i + gk = n2 ∧ i ≤ 100 ∧ Hid (SaL wb val N g1 g2 wr))
    case atStart => exact ⟨0, rfl, by omega, by omega, HS4⟩
    case round =>
      obtain ⟨i, rfl, hig, hi100, HS⟩ := hrel
      by_cases hlt : i < n2 ∧ i < 100
      · obtain ⟨hin, hi1⟩ := hlt
        have m1 : (i : Int) < (n2 : Int) := by omega
        have m2 : (i : Int) < 100 := by omega
        have m0 : ¬ (i : Int) < 0 := by omega
        have e5 : IntKind.i64.wrap ((i : Int) + 1) = ((i + 1 : Nat) : Int) := by rw [IntKind.wrap_i64]; omega
        have HBr := Lib.hid (below_then HB0.out HS.out.bel)
        obtain ⟨b, o, rfl, a0⟩ := HTwo.out wr HBr.out i hin
        obtain ⟨sl, hsl⟩ : ∃ sl, sl = f2 i := ⟨_, rfl⟩
        rw [← hsl] at a0
        obtain ⟨S, hS⟩ : ∃ S, S = sl % N := ⟨_, rfl⟩
        have hSN : S < N := by rw [hS]; exact Nat.mod_lt _ (by omega)
        obtain ⟨r1, r2, r3⟩ := rem_u64 sl N (by omega) (by omega)
        rw [← hS] at r1 r2 r3
        clear hS hsl
        obtain ⟨b2, o2, rfl, a2, hrd⟩ := HAc.out wr HBr.out S (by omega)
        rw [← HVal.out S] at hrd
        have hvl := HV.out S (by omega)
        obtain ⟨T, hT⟩ : ∃ T, T = S + 1 := ⟨_, rfl⟩
        have e6 : IntKind.u64.wrap ((S : Int) + 1) = (T : Int) := by rw [IntKind.wrap_u64]; omega
        have m3 : (S : Int) < (n0 : Int) := by omega
        have m4 : ¬ (S : Int) < 0 := by omega
        have HLe := Lib.hid (HS.out.learnB hSN (by omega) (f0 S).2.2.1 (hrd.more HBr.out.size) hvl)
        rw [← hT] at HLe
        clear hrd hvl hT
        generalize (f0 S).1 = vA at *
        generalize (f0 S).2.1 = vn at *
        generalize (f0 S).2.2.1 = vc at *
        go_wp2_with fail
        refine HLe.out.mono ?_
        clear HLe
        rintro e w5 ⟨rfl, HS5⟩
        go_wp2
        go_roundg (gk - 1)
        case measure => omega
        case rel => exact ⟨i + 1, by go_num, by omega, by omega, HS5⟩
      · have hlt' : ¬ i < n2 ∨ (i < n2 ∧ ¬ i < 100) := by omega
        clear hlt
        rcases hlt' with h | ⟨h, h'⟩
        · have m1 : ¬ (i : Int) < (n2 : Int) := by omega
          go_wp2_with fail
          go_meet
          exact HS
        · have m1 : (i : Int) < (n2 : Int) := by omega
          have m2 : ¬ (i : Int) < 100 := by omega
          go_wp2_with fail
          go_meet
          exact HS
  case rest =>
  have HRs := Lib.hid hcut.out.rests
  clear hcut HS4
  go_wp2_with fail
  refine HRs.out.mono ?_
  clear HRs
  rintro e w4 ⟨xA, xc, I, rfl, hI, H5⟩
  go_wp2_with fail
  refine H5.out.mono ?_
  clear H5
  rintro e w5 ⟨yA, yc, J, at_, rfl, hJ, HB5, HX, HY⟩
  have HB6 := Lib.hid (below_then HB0.out HB5.out)
  go_wp2
  go_loopg [17] I (fun gk a wr => ∃ i : Nat, a = .int .i64 (i : Int) ∧ i + gk = I ∧ Hid (Below w5.heap.size w5 wr))
  case atStart => exact ⟨0, rfl, by omega, Lib.hid (Below.refl _ _)⟩
  case round =>
    obtain ⟨i, rfl, hig, HW⟩ := hrel
    by_cases hi : i < I
    · obtain ⟨hT1, R, s, rfl, q0, q1, hr⟩ := (HX.out.up HW.out) i hi
      obtain ⟨T, hT⟩ : ∃ T, T = at_ + i := ⟨_, rfl⟩
      rw [← hT] at hr q0 hT1
      obtain ⟨T1, hT2⟩ : ∃ T1, T1 = T + 1 := ⟨_, rfl⟩
      rw [← hT2] at q0
      have e6 : IntKind.u64.wrap ((T1 : Int) - 1) = (T : Int) := by rw [IntKind.wrap_u64]; omega
      obtain ⟨b, o, rfl, a0, hr2⟩ := HAc.out wr (below_then HB6.out HW.out) T (by omega)
      rw [← HVal.out T] at hr2
      have HSm : Hid (∀ q, Calls Try.prog 27 #[.slice s.1 s.2.1 s.2.2, .slice (f0 T).1 (f0 T).2.1 (f0 T).2.2.1] (wr.drewN q) fun e w' => e = .returned (.bool true) ∧ w' = wr.drewN q) := Lib.hid fun q => by
        refine (same_any s.1 (f0 T).1 s.2.1 (f0 T).2.1 s.2.2 (f0 T).2.2.1 _ _ (val T) (val T) (wr.drewN q) (hr.drewN q) (hr2.drewN q)).mono ?_
        rintro e w' ⟨rfl, rfl⟩
        exact ⟨by simp, rfl⟩
      have m1 : (i : Int) < (I : Int) := by omega
      have m0 : ¬ (i : Int) < 0 := by omega
      have m3 : (T : Int) < (n0 : Int) := by omega
      have m4 : ¬ (T : Int) < 0 := by omega
      have e5 : IntKind.i64.wrap ((i : Int) + 1) = ((i + 1 : Nat) : Int) := by rw [IntKind.wrap_i64]; omega
      obtain ⟨sA, sN, sC⟩ := s
      unfold s3W at q1
      dsimp only at q1 HSm
      clear hr hr2 hT hT2
      generalize (f0 T).1 = vA at *
      generalize (f0 T).2.1 = vn at *
      generalize (f0 T).2.2.1 = vc at *
      go_wp2_with fail
      go_quiet ((go_at_call 27; exact Calls.quiet_of_same (HSm.out _)))
      go_wp2
      go_roundg (gk - 1)
      case measure => omega
      case rel => exact ⟨i + 1, by go_num, by omega, Lib.hid (bel_drewN HW.out _)⟩
    · obtain rfl : i = I := by omega
      have m1 : ¬ (i : Int) < (i : Int) := by omega
      clear hi HX
      go_wp2
      go_loopg [18] J (fun gk a wr => ∃ j : Nat, a = .int .i64 (j : Int) ∧ j + gk = J ∧ Hid (Below w5.heap.size w5 wr))
      case atStart => exact ⟨0, rfl, by omega, HW⟩
      case round =>
        obtain ⟨j, rfl, hjg, HW2⟩ := hrel
        by_cases hj : j < J
        · obtain ⟨hT1, R, s, rfl, q0, q1, hr⟩ := (HY.out.up HW2.out) j hj
          rw [Nat.zero_add] at hr q0 hT1
          obtain ⟨T1, hT2⟩ : ∃ T1, T1 = j + 1 := ⟨_, rfl⟩
          rw [← hT2] at q0
          obtain ⟨b, o, rfl, a0, hr2⟩ := HAc.out wr (below_then HB6.out HW2.out) j (by omega)
          rw [← HVal.out j] at hr2
          have HSm : Hid (∀ q, Calls Try.prog 27 #[.slice s.1 s.2.1 s.2.2, .slice (f0 j).1 (f0 j).2.1 (f0 j).2.2.1] (wr.drewN q) fun e w' => e = .returned (.bool true) ∧ w' = wr.drewN q) := Lib.hid fun q => by
            refine (same_any s.1 (f0 j).1 s.2.1 (f0 j).2.1 s.2.2 (f0 j).2.2.1 _ _ (val j) (val j) (wr.drewN q) (hr.drewN q) (hr2.drewN q)).mono ?_
            rintro e w' ⟨rfl, rfl⟩
            exact ⟨by simp, rfl⟩
          have m1 : (j : Int) < (J : Int) := by omega
          have m0 : ¬ (j : Int) < 0 := by omega
          have m3 : (j : Int) < (n0 : Int) := by omega
          have e5 : IntKind.i64.wrap ((j : Int) + 1) = (T1 : Int) := by rw [IntKind.wrap_i64]; omega
          have e6 : IntKind.u64.wrap (T1 : Int) = (T1 : Int) := by rw [IntKind.wrap_u64]; omega
          have HT2 := Lib.hid hT2
          obtain ⟨sA, sN, sC⟩ := s
          unfold s3W at q1
          dsimp only at q1 HSm
          clear hr hr2 hT2
          generalize (f0 j).1 = vA at *
          generalize (f0 j).2.1 = vn at *
          generalize (f0 j).2.2.1 = vc at *
          go_wp2_with fail
          go_quiet ((go_at_call 27; exact Calls.quiet_of_same (HSm.out _)))
          go_wp2
          go_roundg (gk - 1)
          case measure => omega
          case rel => exact ⟨T1, rfl, by have := HT2.out; omega, Lib.hid (bel_drewN HW2.out _)⟩
        · obtain rfl : j = J := by omega
          have m1 : ¬ (j : Int) < (j : Int) := by omega
          have HB7 := Lib.hid (below_then HB6.out HW2.out)
          clear hj
          go_wp2_with fail
          refine (HKn.out _).mono ?_
          rintro e w8 ⟨rfl, hb4⟩
          have HB4 := Lib.hid (below_then HB7.out hb4)
          clear hb4
          go_wp2
          go_ret
          exact ⟨rfl, HB4.out⟩
namespace rlogSame
set_option maxRecDepth 100000 in
theorem lifted (os : Os) (started : os.Started) (H : Type) (enc : TypeId × Value → H) :
    ReturnsInHanded {} Try.checked os 5 .any (Rows.rlogSameSpec.pre6 enc Try.prog Try.f5 Rows.rlogSameRow.domain false) (Rows.rlogSameSpec.post enc Try.prog Try.f5 false true false false) := by
  refine law_lift started (by kernel_rfl) Try.func5
    (ChangeSpec.witness6 (enc := enc) (C := Try.checked) false ⟨#[], #[.slice none 0 0, .slice none 0 0, .slice none 0 0], []⟩ 8 (by kernel_rfl) (by kernel_rfl) (by kernel_rfl) (by kernel_rfl))
    rfl ?_ (by kernel_rfl) (by kernel_rfl) ?_
  · intro ds h
    match ds, h with
    | [_, _, _], _ => rfl
  intro W base args ds p g
  have hA := g.trod
  have hval := g.val
  rw [Try.params5] at hA hval
  obtain ⟨v0, vs0, d0, ds0, p0, q0, hargs, rfl, rfl, h0, r0⟩ := trodAll_cons hA
  obtain ⟨v1, vs1, d1, ds1, p1, q1, rfl, rfl, rfl, h1, r1⟩ := trodAll_cons r0
  obtain ⟨v2, vs2, d2, ds2, p2, q2, rfl, rfl, rfl, h2, r2⟩ := trodAll_cons r1
  obtain ⟨rfl, rfl, rfl⟩ := trodAll_nil r2
  obtain rfl : args = #[v0, v1, v2] := by cases args; simp_all
  obtain ⟨A0, n0, c0, f0, rfl, hc0, hm0, hr0⟩ := given_lsr (hval 0 50 v0 rfl rfl) h0
  obtain ⟨A1, n1, c1, f1, rfl, hc1, hm1, hr1⟩ := given_nsr (hval 1 39 v1 rfl rfl) h1
  obtain ⟨A2, n2, c2, f2, rfl, hc2, hm2, hr2⟩ := given_nsr (hval 2 39 v2 rfl rfl) h2
  exact rlogSame_walk A0 n0 c0 f0 A1 n1 c1 f1 A2 n2 c2 f2 W hc0 hm0 hr0 hc1 hm1 hr1 hc2 hm2 hr2

theorem over : Rows.rlogSameRow.holds Try.pinned (OpenSpec.ofChange Rows.rlogSameSpec) :=
  OpenClaim.holds_of_wide 5 Try.f5 rfl rfl rfl rfl rfl rfl rfl ⟨rfl, rfl, rfl, rfl, rfl⟩ rfl rfl rfl rfl rfl (by kernel_rfl) Try.func5 (by kernel_rfl)
    (of_decide_eq_true (by kernel_rfl)) (by unfold Func.isWrapper; first | (rw [if_pos (by decide +kernel)]; kernel_rfl) | (rw [if_neg (by decide +kernel)]; exact ⟨rfl, rfl⟩))
    (fun os started H enc _ => lifted os started H enc)
end rlogSame

theorem RlogSame_proved : Rows.RlogSameSaid := rlogSame.over
#print axioms RlogSame_proved
end Go.Proofs.Ytpgjilpalhclcaa
