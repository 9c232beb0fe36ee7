/- RlogCatches: a log that catches up from another one, a piece at a time, has all in the end. -/
import Derived.Test.YtpgjilpalhclcaaRlCt
namespace Go.Proofs.Ytpgjilpalhclcaa
open Go.ChangeShapes Go.WideShapes Go.ChangeAt Go.RowKit

set_option maxHeartbeats 8000000 in
set_option maxRecDepth 100000 in
theorem rlogCatches_walk (A0 : Option Addr) (n0 c0 : Nat) (f0 : Nat → Option Addr × Nat × Nat × List UInt8) (A1 : Option Addr) (n1 c1 : Nat) (f1 : Nat → Nat) (m : Int) (W : World) (hc0 : n0 ≤ c0) (hm0 : c0 ≤ 9223372036854775807) (hr0 : Lsr W W.heap.size A0 n0 f0) (hc1 : n1 ≤ c1) (hm1 : c1 ≤ 9223372036854775807) (hr1 : Nsr W W.heap.size A1 n1 f1) (_hb1 : -9223372036854775808 ≤ m) (_hb2 : m ≤ 9223372036854775807) :
    Calls Try.prog 6 #[.slice A0 n0 c0, .slice A1 n1 c1, .int .i64 m] W fun e W' => e = .returned (.bool true) ∧ Below W.heap.size W W' := by
  have HKn := Lib.hid (fun w => known12_any w)
  have HN := Lib.hid (fun w => ol_new w)
  have HAc : Hid (∀ w, Below W.heap.size W w → ∀ k, k < n0 → ∃ b o, A0 = some ⟨b, o, none⟩ ∧ w.cell? ⟨b, o + k, none⟩ = some (.slice (f0 k).1 (f0 k).2.1 (f0 k).2.2.1) ∧ Rd w W.heap.size (f0 k).1 (f0 k).2.1 (f0 k).2.2.2) := Lib.hid fun w hb k hk => by
    obtain ⟨b, o, e, _, hi⟩ := (hr0.below hb) (by omega)
    obtain ⟨q0, _, _, q3⟩ := hi k hk
    exact ⟨b, o, e, q0, q3⟩
  have HOne : Hid (∀ w, Below W.heap.size W w → ∀ k, k < n1 → ∃ b o, A1 = some ⟨b, o, none⟩ ∧ w.cell? ⟨b, o + k, none⟩ = some (.int .u64 (f1 k : Int))) := Lib.hid fun w hb k hk => by
    obtain ⟨b, o, e, _, hi⟩ := (hr1.below hb) (by omega)
    exact ⟨b, o, e, hi k hk⟩
  obtain ⟨val, hval⟩ : ∃ val : Nat → List UInt8, val = fun j => (f0 j).2.2.2 := ⟨_, rfl⟩
  have HVal : Hid (∀ j, val j = (f0 j).2.2.2) := Lib.hid fun j => by rw [hval]
  clear hr0 hr1 hval
  go_enter Try.func6, Try.ntmps6
  go_upto_block 0 with (fail)
  go_cut [7] from 20 (fun _u wx => Hid (Below W.heap.size W wx ∧ ∀ j, j < n0 → (f0 j).2.1 ≤ 100))
  case first =>
    go_wp2
    go_loopg [7] n0 (fun gk a wr => ∃ i : Nat, a = .int .i64 (i : Int) ∧ i + gk = n0 ∧ Hid (Below W.heap.size W wr ∧ ∀ j, j < i → (f0 j).2.1 ≤ 100))
    case atStart => exact ⟨0, rfl, by omega, Lib.hid ⟨Below.refl _ _, fun j hj => by omega⟩⟩
    case round =>
      obtain ⟨i, rfl, hig, HS⟩ := hrel
      by_cases hin : i < n0
      · obtain ⟨b, o, rfl, a0, _⟩ := HAc.out wr HS.out.1 i hin
        have m1 : (i : Int) < (n0 : Int) := by omega
        have m0 : ¬ (i : Int) < 0 := by omega
        have e5 : IntKind.i64.wrap ((i : Int) + 1) = ((i + 1 : Nat) : Int) := by rw [IntKind.wrap_i64]; omega
        obtain ⟨vn, hvn⟩ : ∃ vn, vn = (f0 i).2.1 := ⟨_, rfl⟩
        rw [← hvn] at a0
        have Hvn := Lib.hid hvn
        clear hvn
        by_cases h100 : vn ≤ 100
        · have x1 : ¬ (100 : Int) < (vn : Int) := by omega
          have HS6 : Hid (Below W.heap.size W wr ∧ ∀ j, j < i + 1 → (f0 j).2.1 ≤ 100) := Lib.hid ⟨HS.out.1, fun j hj => by
            by_cases e : j = i
            · subst e; rw [← Hvn.out]; exact h100
            · exact HS.out.2 j (by omega)⟩
          go_wp2
          go_roundg (gk - 1)
          case measure => omega
          case rel => exact ⟨i + 1, by go_num, by omega, HS6⟩
        · have x1 : (100 : Int) < (vn : Int) := by omega
          have HB := Lib.hid HS.out.1
          go_wp2_with fail
          refine (HKn.out _).mono ?_
          rintro e wc ⟨rfl, hb4⟩
          have HB4 := Lib.hid (below_then HB.out hb4)
          clear hb4
          go_wp2
          go_ret
          exact ⟨rfl, HB4.out⟩
      · have m1 : ¬ (i : Int) < (n0 : Int) := by omega
        go_wp2_with fail
        go_meet
        exact Lib.hid ⟨HS.out.1, fun j hj => HS.out.2 j (by omega)⟩
  case rest =>
  obtain ⟨N, hN⟩ : ∃ N, N = min n0 60 := ⟨_, rfl⟩
  have hN60 : N ≤ 60 := by omega
  have hNn : N ≤ n0 := by omega
  have HNe := Lib.hid hN
  have z1 : min (n0 : Int) 60 = (N : Int) := by omega
  have z2 : (if (n0 : Int) < 60 then (n0 : Int) else 60) = (N : Int) := by split <;> omega
  have z3 : (if (60 : Int) < (n0 : Int) then (60 : Int) else (n0 : Int)) = (N : Int) := by split <;> omega
  have z4 : IntKind.u64.wrap (N : Int) = (N : Int) := by rw [IntKind.wrap_u64]; omega
  clear hN
  have HB0 := Lib.hid hcut.out.1
  have HV := Lib.hid hcut.out.2
  have HVl : Hid (∀ j, j < n0 → (f0 j).2.2.2.length ≤ 100) := Lib.hid fun j hj => by
    obtain ⟨_, _, _, _, hr⟩ := HAc.out W (Below.refl _ _) j hj
    rw [hr.1]
    exact hcut.out.2 j hj
  clear hcut
  obtain ⟨wb, hwb⟩ : ∃ z, z = wc := ⟨_, rfl⟩
  subst hwb
  go_wp2_with fail
  clear z1 z2 z3
  refine (HN.out _).mono ?_
  rintro e w2 ⟨g1, F, rfl, HO⟩
  have HTw := Lib.hid (ol_two HO.out)
  clear HO HN
  go_wp2_with fail
  refine HTw.out.mono ?_
  clear HTw
  rintro e w3 ⟨g2, rfl, HT⟩
  have HS3 : Hid (Tw12 wb w3 g1 g2 ⟨0, rowN val 0⟩ Rl.new) := Lib.hid HT.out
  clear HT
  go_wp2
  go_loopg [11] N (fun gk a wr => ∃ i : Nat, a = .int .i64 (i : Int) ∧ i + gk = N ∧ Hid (Tw12 wb wr g1 g2 ⟨0, rowN val i⟩ Rl.new))
  case atStart => exact ⟨0, rfl, by omega, HS3⟩
  case round =>
    obtain ⟨i, rfl, hig, HS⟩ := hrel
    by_cases hin : i < N
    · have HBr := Lib.hid (below_then HB0.out HS.out.bel)
      obtain ⟨b2, o2, rfl, a2, hrd⟩ := HAc.out wr HBr.out i (by omega)
      rw [← HVal.out i] at hrd
      have hvl := HV.out i (by omega)
      have m1 : (i : Int) < (N : Int) := by omega
      have m0 : ¬ (i : Int) < 0 := by omega
      have m3 : (i : Int) < (n0 : Int) := by omega
      obtain ⟨T, hT⟩ : ∃ T, T = i + 1 := ⟨_, rfl⟩
      have e5 : IntKind.i64.wrap ((i : Int) + 1) = (T : Int) := by rw [IntKind.wrap_i64]; omega
      have e6 : IntKind.u64.wrap (T : Int) = (T : Int) := by rw [IntKind.wrap_u64]; omega
      have HLe := Lib.hid (HS.out.learn (i + 1) (by omega) (f0 i).2.2.1 (hrd.more HBr.out.size) (by omega))
      rw [rowN_learn (by rw [hrd.1]; exact hvl) (by omega), ← hT] at HLe
      have HT2 := Lib.hid hT
      clear hrd hvl hT
      generalize (f0 i).1 = vA at *
      generalize (f0 i).2.1 = vn at *
      generalize (f0 i).2.2.1 = vc at *
      go_wp2_with fail
      refine HLe.out.mono ?_
      clear HLe
      rintro e w5 ⟨rfl, HS5⟩
      go_wp2
      go_roundg (gk - 1)
      case measure => omega
      case rel => exact ⟨T, rfl, by have := HT2.out; omega, HS5⟩
    · obtain rfl : i = N := by omega
      have m1 : ¬ (i : Int) < (i : Int) := by omega
      have HS4 : Hid (CaL wb val i g1 g2 0 wr) := Lib.hid ⟨_, HS.out, Fits.new, rfl, fun x _ _ _ => by omega⟩
      clear HS HS3 hin
      go_upto_block 4 with (fail)
      go_cut [12, 13] from 58 (fun _a _b wx => Hid (CaL wb val i g1 g2 0 wx))
      case first =>
        go_wp2
        go_loopg [12, 13] n1 (fun gk a b wr => ∃ j : Nat, a = .int .i64 (j : Int) ∧ j + gk = n1 ∧ Hid (CaL wb val i g1 g2 0 wr))
        case atStart => exact ⟨0, rfl, by omega, HS4⟩
        case round =>
          obtain ⟨j, rfl, hjg, HS⟩ := hrel
          by_cases hlt : j < n1 ∧ 0 < i
          · obtain ⟨hin, hi1⟩ := hlt
            have m1 : (j : Int) < (n1 : Int) := by omega
            have m2 : (0 : Int) < (i : Int) := by omega
            have m0 : ¬ (j : Int) < 0 := by omega
            have y1 : ((i : Int) == 0) = false := by simp; omega
            have y2 : ¬ (i : Int) = 0 := by omega
            have e5 : IntKind.i64.wrap ((j : Int) + 1) = ((j + 1 : Nat) : Int) := by rw [IntKind.wrap_i64]; omega
            have HBr := Lib.hid (below_then HB0.out HS.out.bel)
            obtain ⟨b, o, rfl, a0⟩ := HOne.out wr HBr.out j hin
            obtain ⟨sl, hsl⟩ : ∃ sl, sl = f1 j := ⟨_, rfl⟩
            rw [← hsl] at a0
            obtain ⟨S, hS⟩ : ∃ S, S = sl % i := ⟨_, rfl⟩
            have hSN : S < i := by rw [hS]; exact Nat.mod_lt _ (by omega)
            obtain ⟨r1, r2, r3⟩ := rem_u64 sl i (by omega) (by omega)
            rw [← hS] at r1 r2 r3
            clear hS hsl
            obtain ⟨b2, o2, rfl, a2, hrd⟩ := HAc.out wr HBr.out S (by omega)
            rw [← HVal.out S] at hrd
            have hvl := HV.out S (by omega)
            obtain ⟨T, hT⟩ : ∃ T, T = S + 1 := ⟨_, rfl⟩
            have e6 : IntKind.u64.wrap ((S : Int) + 1) = (T : Int) := by rw [IntKind.wrap_u64]; omega
            have m3 : (S : Int) < (n0 : Int) := by omega
            have m4 : ¬ (S : Int) < 0 := by omega
            have HLe := Lib.hid (HS.out.learnB hSN hN60 (f0 S).2.2.1 (hrd.more HBr.out.size) hvl)
            rw [← hT] at HLe
            clear hrd hvl hT
            generalize (f0 S).1 = vA at *
            generalize (f0 S).2.1 = vn at *
            generalize (f0 S).2.2.1 = vc at *
            go_wp2_with fail
            refine HLe.out.mono ?_
            clear HLe
            rintro e w5 ⟨rfl, HS5⟩
            go_wp2
            go_roundg (gk - 1)
            case measure => omega
            case rel => exact ⟨j + 1, by go_num, by omega, HS5⟩
          · have hlt' : ¬ j < n1 ∨ (j < n1 ∧ ¬ 0 < i) := by omega
            clear hlt
            rcases hlt' with h | ⟨h, h'⟩
            · have m1 : ¬ (j : Int) < (n1 : Int) := by omega
              go_wp2_with fail
              go_meet
              exact HS
            · have m1 : (j : Int) < (n1 : Int) := by omega
              have m2 : ¬ (0 : Int) < (i : Int) := by omega
              go_wp2_with fail
              go_meet
              exact HS
      case rest =>
      have HS6 := hcut
      clear hcut HS4 z4
      obtain ⟨u, hu⟩ : ∃ u : Nat, IntKind.u64.wrap m = (u : Int) := ⟨(IntKind.u64.wrap m).toNat, by rw [IntKind.wrap_u64]; omega⟩
      obtain ⟨v, hv⟩ : ∃ v, v = u % 9 := ⟨_, rfl⟩
      obtain ⟨r1, r2, r3⟩ := rem_u64 u 9 (by decide) (by decide)
      rw [← hv] at r1 r2 r3
      have r1 : (u : Int).tmod 9 = (v : Int) := r1
      have r2 : (u : Int) % 9 = (v : Int) := r2
      have hv9 : v < 9 := by omega
      have r4 : IntKind.i64.wrap (v : Int) = (v : Int) := by rw [IntKind.wrap_i64]; omega
      obtain ⟨P, hP⟩ : ∃ P, P = v + 1 := ⟨_, rfl⟩
      have r5 : IntKind.i64.wrap (1 + (v : Int)) = (P : Int) := by rw [IntKind.wrap_i64]; omega
      have hP9 : P ≤ 9 ∧ 0 < P := by omega
      clear hv hP
      go_wp2
      go_loopg [15, 16, 17] (i + 1) (fun gk a b c wr => ∃ k : Nat, a = .int .i64 (k : Int) ∧ k + gk = i + 1 ∧ Hid (CaL wb val i g1 g2 k wr))
      case atStart => exact ⟨0, rfl, by omega, HS6⟩
      case round =>
        clear r1 r2 r3 r4 r5 hu HS6
        obtain ⟨k, rfl, hkg, HS⟩ := hrel
        by_cases hk : k ≤ i
        · have m1 : (k : Int) ≤ (i : Int) := by omega
          have e5 : IntKind.i64.wrap ((k : Int) + 1) = ((k + 1 : Nat) : Int) := by rw [IntKind.wrap_i64]; omega
          have HCa := Lib.hid (HS.out.catch_ hN60 P (by omega))
          clear HS
          go_wp2_with fail
          refine HCa.out.mono ?_
          clear HCa
          rintro e w7 ⟨q, rfl, hq, HX⟩
          have Hq := Lib.hid hq
          clear hq
          go_wp2_with fail
          refine HX.out.mono ?_
          clear HX
          rintro e w8 ⟨lA, lc, L, rfl, hLP, hL0, HM⟩
          have HL0 := Lib.hid hL0
          clear hL0
          have m2 : ¬ (P : Int) < (L : Int) := by omega
          have m2b : decide (P < L) = false := by rw [decide_eq_false]; omega
          have m2c : decide ((P : Int) < (L : Int)) = false := by rw [decide_eq_false]; omega
          obtain ⟨gko, hgk⟩ : ∃ z, z = gk := ⟨_, rfl⟩
          subst hgk
          go_wp2
          go_loopg [17] L (fun gk a wr => ∃ j : Nat, a = .int .i64 (j : Int) ∧ j + gk = L ∧ Hid (CaM wb val i g1 g2 q lA L j wr))
          case atStart => exact ⟨0, rfl, by omega, HM⟩
          case round =>
            obtain ⟨j, rfl, hjg, HMj⟩ := hrel
            by_cases hj : j < L
            · obtain ⟨R, s, rfl, q0, q1, HLe0⟩ := HMj.out.learn hN60 hj (fun x hx => by rw [HVal.out x]; exact HVl.out x (by omega))
              have m1 : (j : Int) < (L : Int) := by omega
              have m0 : ¬ (j : Int) < 0 := by omega
              have e6 : IntKind.i64.wrap ((j : Int) + 1) = ((j + 1 : Nat) : Int) := by rw [IntKind.wrap_i64]; omega
              obtain ⟨T, hT⟩ : ∃ T, T = q + j := ⟨_, rfl⟩
              rw [← hT] at q0 HLe0
              obtain ⟨sA, sN, sC⟩ := s
              unfold s3W at q1
              dsimp only at q1
              have HLe : Hid (∀ w', Below wr.heap.size wr w' → Calls Try.prog 24 #[.pointer (some ⟨g2, 0, none⟩), .int .u64 (T : Int), .slice sA sN sC] w' fun e w' => e = .returned (.int .i64 0) ∧ Hid (CaM wb val i g1 g2 q (some ⟨R, 0, none⟩) L (j + 1) w')) := Lib.hid fun w' hb => (HLe0.out w' hb).2.2
              clear HLe0 hT HMj
              go_wp2_with fail
              go_region_law (go_simp; go_at_call 24; (refine (HLe.out _ (by (repeat' (first | assumption | exact Below.refl _ _ | apply Below.drew | exact bel_drewN (Below.refl _ _) _)))).mono ?_); rintro e w9 ⟨rfl, HM9⟩)
              all_goals
                go_wp2
                go_roundg (gk - 1)
                case measure => omega
                case rel => exact ⟨j + 1, by go_num, by omega, HM9⟩
            · obtain rfl : j = L := by omega
              have m1 : ¬ (j : Int) < (j : Int) := by omega
              have HSk : Hid (CaL wb val i g1 g2 (k + 1) wr) := Lib.hid (HMj.out.done Hq.out fun a => HL0.out a hP9.2)
              clear HMj HM hj
              go_wp2
              go_roundg (gko - 1)
              case measure => omega
              case rel => exact ⟨k + 1, by go_num, by omega, HSk⟩
        · obtain rfl : k = i + 1 := by omega
          have m1 : ¬ ((i + 1 : Nat) : Int) ≤ (i : Int) := by omega
          have HD := Lib.hid (HS.out.less.done hN60)
          clear HS hk
          obtain ⟨T9, hT9⟩ : ∃ T9, T9 = i + 1 := ⟨_, rfl⟩
          rw [← hT9] at HD m1 ⊢
          have e7 : IntKind.i64.wrap ((i : Int) + 1) = (T9 : Int) := by rw [IntKind.wrap_i64]; omega
          have e8 : IntKind.u64.wrap (T9 : Int) = (T9 : Int) := by rw [IntKind.wrap_u64]; omega
          clear hT9
          go_wp2_with fail
          refine HD.out.mono ?_
          clear HD
          rintro e w7 ⟨xA, xc, rfl, H7⟩
          go_wp2_with fail
          refine H7.out.mono ?_
          clear H7
          rintro e w8 ⟨rfl, H8⟩
          go_wp2_with fail
          refine H8.out.mono ?_
          clear H8
          rintro e w9 ⟨hA, hc, rfl, HB9, HX⟩
          have HB6 := Lib.hid (below_then HB0.out HB9.out)
          go_wp2
          go_loopg [19] i (fun gk a wr => ∃ j : Nat, a = .int .i64 (j : Int) ∧ j + gk = i ∧ Hid (Below w9.heap.size w9 wr))
          case atStart => exact ⟨0, rfl, by omega, Lib.hid (Below.refl _ _)⟩
          case round =>
            obtain ⟨j, rfl, hjg, HW2⟩ := hrel
            by_cases hj : j < i
            · obtain ⟨hT1, R, s, rfl, q0, q1, hr⟩ := (HX.out.up HW2.out) j hj
              rw [Nat.zero_add] at hr
              obtain ⟨b, o, rfl, a0, hr2⟩ := HAc.out wr (below_then HB6.out HW2.out) j (by omega)
              rw [← HVal.out j] at hr2
              have HSm : Hid (∀ q, Calls Try.prog 27 #[.slice s.1 s.2.1 s.2.2, .slice (f0 j).1 (f0 j).2.1 (f0 j).2.2.1] (wr.drewN q) fun e w' => e = .returned (.bool true) ∧ w' = wr.drewN q) := Lib.hid fun q => by
                refine (same_any s.1 (f0 j).1 s.2.1 (f0 j).2.1 s.2.2 (f0 j).2.2.1 _ _ (val j) (val j) (wr.drewN q) (hr.drewN q) (hr2.drewN q)).mono ?_
                rintro e w' ⟨rfl, rfl⟩
                exact ⟨by simp, rfl⟩
              have m1 : (j : Int) < (i : Int) := by omega
              have m0 : ¬ (j : Int) < 0 := by omega
              have m3 : (j : Int) < (n0 : Int) := by omega
              have e5 : IntKind.i64.wrap ((j : Int) + 1) = ((j + 1 : Nat) : Int) := by rw [IntKind.wrap_i64]; omega
              obtain ⟨sA, sN, sC⟩ := s
              unfold s3W at q1
              dsimp only at q1 HSm
              clear hr hr2 q0 hT1
              generalize (f0 j).1 = vA at *
              generalize (f0 j).2.1 = vn at *
              generalize (f0 j).2.2.1 = vc at *
              go_wp2_with fail
              go_quiet ((go_at_call 27; exact Calls.quiet_of_same (HSm.out _)))
              go_wp2
              go_roundg (gk - 1)
              case measure => omega
              case rel => exact ⟨j + 1, by go_num, by omega, Lib.hid (bel_drewN HW2.out _)⟩
            · obtain rfl : j = i := by omega
              have m1 : ¬ (j : Int) < (j : Int) := by omega
              have HB7 := Lib.hid (below_then HB6.out HW2.out)
              clear hj
              go_wp2_with fail
              refine (HKn.out _).mono ?_
              rintro e wd ⟨rfl, hb4⟩
              have HB4 := Lib.hid (below_then HB7.out hb4)
              clear hb4
              go_wp2
              go_ret
              exact ⟨rfl, HB4.out⟩
namespace rlogCatches
set_option maxRecDepth 100000 in
theorem lifted (os : Os) (started : os.Started) (H : Type) (enc : TypeId × Value → H) :
    ReturnsInHanded {} Try.checked os 6 .any (Rows.rlogCatchesSpec.pre6 enc Try.prog Try.f6 Rows.rlogCatchesRow.domain false) (Rows.rlogCatchesSpec.post enc Try.prog Try.f6 false true false false) := by
  refine law_lift started (by kernel_rfl) Try.func6
    (ChangeSpec.witness6 (enc := enc) (C := Try.checked) false ⟨#[], #[.slice none 0 0, .slice none 0 0, .int .i64 0], []⟩ 8 (by kernel_rfl) (by kernel_rfl) (by kernel_rfl) (by kernel_rfl))
    rfl ?_ (by kernel_rfl) (by kernel_rfl) ?_
  · intro ds h
    match ds, h with
    | [_, _, _], _ => rfl
  intro W base args ds p g
  have hA := g.trod
  have hval := g.val
  rw [Try.params6] at hA hval
  obtain ⟨v0, vs0, d0, ds0, p0, q0, hargs, rfl, rfl, h0, r0⟩ := trodAll_cons hA
  obtain ⟨v1, vs1, d1, ds1, p1, q1, rfl, rfl, rfl, h1, r1⟩ := trodAll_cons r0
  obtain ⟨v2, vs2, d2, ds2, p2, q2, rfl, rfl, rfl, h2, r2⟩ := trodAll_cons r1
  obtain ⟨rfl, rfl, rfl⟩ := trodAll_nil r2
  obtain rfl : args = #[v0, v1, v2] := by cases args; simp_all
  obtain ⟨A0, n0, c0, f0, rfl, hc0, hm0, hr0⟩ := given_lsr (hval 0 50 v0 rfl rfl) h0
  obtain ⟨A1, n1, c1, f1, rfl, hc1, hm1, hr1⟩ := given_nsr (hval 1 39 v1 rfl rfl) h1
  obtain ⟨a2, rfl, _, _, w2⟩ := open_int Try.underlying3 (hval 2 3 v2 rfl rfl) h2
  have b2 := bounds_i64 w2
  exact rlogCatches_walk A0 n0 c0 f0 A1 n1 c1 f1 a2 W hc0 hm0 hr0 hc1 hm1 hr1 b2.1 b2.2

theorem over : Rows.rlogCatchesRow.holds Try.pinned (OpenSpec.ofChange Rows.rlogCatchesSpec) :=
  OpenClaim.holds_of_wide 6 Try.f6 rfl rfl rfl rfl rfl rfl rfl ⟨rfl, rfl, rfl, rfl, rfl⟩ rfl rfl rfl rfl rfl (by kernel_rfl) Try.func6 (by kernel_rfl)
    (of_decide_eq_true (by kernel_rfl)) (by unfold Func.isWrapper; first | (rw [if_pos (by decide +kernel)]; kernel_rfl) | (rw [if_neg (by decide +kernel)]; exact ⟨rfl, rfl⟩))
    (fun os started H enc _ => lifted os started H enc)
end rlogCatches

theorem RlogCatches_proved : Rows.RlogCatchesSaid := rlogCatches.over
#print axioms RlogCatches_proved
end Go.Proofs.Ytpgjilpalhclcaa
