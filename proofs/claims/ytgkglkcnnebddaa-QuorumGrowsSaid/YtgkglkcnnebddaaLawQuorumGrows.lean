/- QuorumGrows. -/
import Derived.Test.YtgkglkcnnebddaaQuG
import Derived.Test.YtgkglkcnnebddaaRows
namespace Go.Proofs.Ytgkglkcnnebddaa
open Go.ChangeShapes Go.WideShapes Go.ChangeAt Go.RowKit Go.Deep

theorem all_ones (i : Nat) (hi : i < 32) : (4294967295 : Nat).testBit i = true := by
  rw [show (4294967295 : Nat) = 2 ^ 32 - 1 from rfl, Nat.testBit_two_pow_sub_one]
  exact decide_eq_true hi

set_option maxRecDepth 100000 in
set_option maxHeartbeats 8000000 in
theorem quorumGrows_walk (q : Qm) (A : Option Addr) (n c : Nat) (s m : Nat) (w : World) (hq : Qi w q A n c) (hs : s < 4294967296) (hm : m < 4294967296) :
    Calls Try.prog 6 #[qV q (.slice A n c), .int .u32 (s : Int), .int .u32 (m : Int)] w fun e w' => e = .returned (.bool true) ∧ Below w.heap.size w w' := by
  obtain ⟨w1, HW1, HB1, HK1⟩ := boxed q.kind q.nodes q.one q.two A n c w
  have HM := Lib.hid (qmany_any q.kind q.nodes q.one q.two A n c w1)
  have HCells : Hid (∀ W2, Below w1.heap.size w1 W2 → _) := Lib.hid fun W2 hb => QB.cells q.kind q.nodes q.one q.two A n c (HK1.out.below hb HK1.out.lt)
  have HR := Lib.hid (fun W (hb : Below w1.heap.size w1 W) => right_any q A n c W (hq.up (below_then HB1.out hb)))
  have hor := u32_or_nat s m hs hm
  have ht : s ||| m < 4294967296 := Nat.or_lt_two_pow (n := 32) hs hm
  have hf := fun x (hx : x < 4294967296) W (hb : Below w1.heap.size w1 W) => first_any q x hx A n c W (hq.up (below_then HB1.out hb))
  have hse := fun x (hx : x < 4294967296) W (hb : Below w1.heap.size w1 W) => second_any q x hx A n c W (hq.up (below_then HB1.out hb))
  have HF1 := Lib.hid (hf s hs)
  have HF2 := Lib.hid (hf (s ||| m) ht)
  have HF3 := Lib.hid (hf 4294967295 (by decide))
  have HF4 := Lib.hid (hf 0 (by decide))
  have HS1 := Lib.hid (hse s hs)
  have HS2 := Lib.hid (hse (s ||| m) ht)
  have HS3 := Lib.hid (hse 4294967295 (by decide))
  have HS4 := Lib.hid (hse 0 (by decide))
  obtain ⟨k0, k1, k2, k3, k4⟩ := HK1.out.cells
  rw [HW1.out] at k0 k1 k2 k3 k4
  have hmo : ∀ p, q.isQ p s = true → q.isQ p (s ||| m) = true := fun p h => by
    have hr : q.right = 0 := Classical.byContradiction fun e => by rw [q.isQ_bad e] at h; cases h
    exact q.isQ_mono hr p (fun i _ e => by rw [Nat.testBit_or, e, Bool.true_or]) h
  have HM0 := Lib.hid (hmo false)
  have HM1 := Lib.hid (hmo true)
  by_cases hmy : 40 < n
  · rw [decide_eq_true hmy] at HM
    unfold qV at *
    clear hmy
    go_enter Try.func6, Try.ntmps6
    go_wp2_with fail
    rw [← HW1.out]
    refine HM.out.mono ?_
    rintro e w2 ⟨rfl, hb2⟩
    have HB12 := Lib.hid hb2
    clear k0 k1 k2 k3 k4
    obtain ⟨j0, j1, j2, j3, j4⟩ := HCells.out w2 hb2
    clear hb2
    go_wp2_with fail
    refine (known_any _).mono ?_
    rintro e w9 ⟨rfl, hb9⟩
    have HB9 := Lib.hid (below_then HB1.out (below_then HB12.out hb9))
    clear hb9
    go_wp2
    go_ret
    exact ⟨rfl, HB9.out⟩
  rw [decide_eq_false hmy] at HM
  by_cases hr : q.right = 0
  · have hfull : ∀ p, q.isQ p 4294967295 = true := fun p => q.isQ_full hr p fun i hi => all_ones i (by have := (q.n_cast hr).2.1; omega)
    have hnone : ∀ p, q.isQ p 0 = false := fun p => q.isQ_none hr p fun i _ => Nat.zero_testBit i
    have hcut : ∀ p, q.isQ p (s % 2 ^ q.n) = q.isQ p s := fun p => q.isQ_same hr p fun i hi => by rw [Nat.testBit_mod_two_pow, decide_eq_true hi, Bool.true_and]
    obtain ⟨hnc, hn12, hn1⟩ := q.n_cast hr
    have hlt : s % 2 ^ q.n < 4294967296 := Nat.lt_of_le_of_lt (Nat.mod_le _ _) hs
    have HF5 := Lib.hid (hf _ hlt)
    have HS5 := Lib.hid (hse _ hlt)
    rw [hfull] at HF3 HS3
    rw [hnone] at HF4 HS4
    rw [hcut] at HF5 HS5
    rw [hr] at HR
    have htm : ((s : Int).tmod (((2 : Int) ^ q.n) % 4294967296)) = ((s % 2 ^ q.n : Nat) : Int) := by
      have h2 : 2 ^ q.n ≤ 2 ^ 12 := Nat.pow_le_pow_right (by decide) hn12
      have e : (2 : Int) ^ q.n = ((2 ^ q.n : Nat) : Int) := by simp
      rw [e]
      generalize 2 ^ q.n = x at *
      rw [show ((x : Int) % 4294967296) = (x : Int) by omega]
      exact (Int.ofNat_tmod s x).symm
    have hne0 : ¬ (((2 : Int) ^ q.n) % 4294967296 = 0) := by
      have h2 : 2 ^ q.n ≤ 2 ^ 12 := Nat.pow_le_pow_right (by decide) hn12
      have h3 : 1 ≤ 2 ^ q.n := Nat.one_le_two_pow
      have e : (2 : Int) ^ q.n = ((2 ^ q.n : Nat) : Int) := by simp
      rw [e]
      generalize 2 ^ q.n = x at *
      omega
    clear hf hse hmo hfull hnone hcut hr hmy hq HK1
    unfold qV at *
    generalize q.isQ false s = a0 at *
    generalize q.isQ false (s ||| m) = b0 at *
    generalize q.isQ true s = a1 at *
    generalize q.isQ true (s ||| m) = b1 at *
    generalize s ||| m = t at *
    generalize s % 2 ^ q.n = u at *
    generalize q.n = N at *
    obtain ⟨kd, nd, on, tw, l⟩ := q
    dsimp only at *
    subst hnc
    go_enter Try.func6, Try.ntmps6
    go_wp2_with fail
    rw [← HW1.out]
    refine HM.out.mono ?_
    rintro e w2 ⟨rfl, hb2⟩
    have HB12 := Lib.hid hb2
    clear k0 k1 k2 k3 k4
    obtain ⟨j0, j1, j2, j3, j4⟩ := HCells.out w2 hb2
    clear hb2
    go_wp2_with fail
    refine (HR.out _ HB12.out).mono ?_
    rintro e w3 ⟨rfl, hb3⟩
    have HB13 := Lib.hid (below_then HB12.out hb3)
    clear j0 j1 j2 j3 j4
    obtain ⟨j0, j1, j2, j3, j4⟩ := HCells.out w3 HB13.out
    clear hb3
    go_wp2_with fail
    go_loopg [8] 2 (fun g i wr => ∃ k : Nat, i = .int .i64 (k : Int) ∧ k + g = 2 ∧ Hid (Below w1.heap.size w1 wr))
    case atStart => exact ⟨0, rfl, by omega, HB13⟩
    case round =>
      obtain ⟨k, rfl, hkg, HB20⟩ := hrel
      obtain ⟨j0, j1, j2, j3, j4⟩ := HCells.out _ HB20.out
      by_cases hk0 : k = 0
      · subst hk0
        cases a0 with
        | false =>
          cases b0 with
          | false =>
            go_wp2_with fail
            refine (HF1.out _ HB20.out).mono ?_
            rintro e W21 ⟨rfl, hbx⟩
            have HB21 := Lib.hid (below_then HB20.out hbx)
            clear j0 j1 j2 j3 j4
            obtain ⟨j0, j1, j2, j3, j4⟩ := HCells.out _ HB21.out
            clear hbx
            go_wp2_with fail
            refine (HF2.out _ HB21.out).mono ?_
            rintro e W22 ⟨rfl, hbx⟩
            have HB22 := Lib.hid (below_then HB21.out hbx)
            clear j0 j1 j2 j3 j4
            obtain ⟨j0, j1, j2, j3, j4⟩ := HCells.out _ HB22.out
            clear hbx
            go_wp2_with fail
            refine (HF3.out _ HB22.out).mono ?_
            rintro e W23 ⟨rfl, hbx⟩
            have HB23 := Lib.hid (below_then HB22.out hbx)
            clear j0 j1 j2 j3 j4
            obtain ⟨j0, j1, j2, j3, j4⟩ := HCells.out _ HB23.out
            clear hbx
            go_wp2_with fail
            refine (HF4.out _ HB23.out).mono ?_
            rintro e W24 ⟨rfl, hbx⟩
            have HB24 := Lib.hid (below_then HB23.out hbx)
            clear j0 j1 j2 j3 j4
            obtain ⟨j0, j1, j2, j3, j4⟩ := HCells.out _ HB24.out
            clear hbx
            go_wp2
            go_roundg (gk - 1)
            case measure => omega
            case rel => exact ⟨1, by go_num, by omega, HB24⟩
          | true =>
            go_wp2_with fail
            refine (HF1.out _ HB20.out).mono ?_
            rintro e W21 ⟨rfl, hbx⟩
            have HB21 := Lib.hid (below_then HB20.out hbx)
            clear j0 j1 j2 j3 j4
            obtain ⟨j0, j1, j2, j3, j4⟩ := HCells.out _ HB21.out
            clear hbx
            go_wp2_with fail
            refine (HF2.out _ HB21.out).mono ?_
            rintro e W22 ⟨rfl, hbx⟩
            have HB22 := Lib.hid (below_then HB21.out hbx)
            clear j0 j1 j2 j3 j4
            obtain ⟨j0, j1, j2, j3, j4⟩ := HCells.out _ HB22.out
            clear hbx
            go_wp2_with fail
            refine (HF3.out _ HB22.out).mono ?_
            rintro e W23 ⟨rfl, hbx⟩
            have HB23 := Lib.hid (below_then HB22.out hbx)
            clear j0 j1 j2 j3 j4
            obtain ⟨j0, j1, j2, j3, j4⟩ := HCells.out _ HB23.out
            clear hbx
            go_wp2_with fail
            refine (HF4.out _ HB23.out).mono ?_
            rintro e W24 ⟨rfl, hbx⟩
            have HB24 := Lib.hid (below_then HB23.out hbx)
            clear j0 j1 j2 j3 j4
            obtain ⟨j0, j1, j2, j3, j4⟩ := HCells.out _ HB24.out
            clear hbx
            go_wp2
            go_roundg (gk - 1)
            case measure => omega
            case rel => exact ⟨1, by go_num, by omega, HB24⟩
        | true =>
          obtain rfl : b0 = true := HM0.out rfl
          go_wp2_with fail
          refine (HF1.out _ HB20.out).mono ?_
          rintro e W21 ⟨rfl, hbx⟩
          have HB21 := Lib.hid (below_then HB20.out hbx)
          clear j0 j1 j2 j3 j4
          obtain ⟨j0, j1, j2, j3, j4⟩ := HCells.out _ HB21.out
          clear hbx
          go_wp2_with fail
          refine (HF2.out _ HB21.out).mono ?_
          rintro e W22 ⟨rfl, hbx⟩
          have HB22 := Lib.hid (below_then HB21.out hbx)
          clear j0 j1 j2 j3 j4
          obtain ⟨j0, j1, j2, j3, j4⟩ := HCells.out _ HB22.out
          clear hbx
          go_wp2_with fail
          refine (HF3.out _ HB22.out).mono ?_
          rintro e W23 ⟨rfl, hbx⟩
          have HB23 := Lib.hid (below_then HB22.out hbx)
          clear j0 j1 j2 j3 j4
          obtain ⟨j0, j1, j2, j3, j4⟩ := HCells.out _ HB23.out
          clear hbx
          go_wp2_with fail
          refine (HF4.out _ HB23.out).mono ?_
          rintro e W24 ⟨rfl, hbx⟩
          have HB24 := Lib.hid (below_then HB23.out hbx)
          clear j0 j1 j2 j3 j4
          obtain ⟨j0, j1, j2, j3, j4⟩ := HCells.out _ HB24.out
          clear hbx
          go_wp2
          go_roundg (gk - 1)
          case measure => omega
          case rel => exact ⟨1, by go_num, by omega, HB24⟩
      by_cases hk1 : k = 1
      · subst hk1
        cases a1 with
        | false =>
          cases b1 with
          | false =>
            go_wp2_with fail
            refine (HF1.out _ HB20.out).mono ?_
            rintro e W21 ⟨rfl, hbx⟩
            have HB21 := Lib.hid (below_then HB20.out hbx)
            clear j0 j1 j2 j3 j4
            obtain ⟨j0, j1, j2, j3, j4⟩ := HCells.out _ HB21.out
            clear hbx
            go_wp2_with fail
            refine (HF2.out _ HB21.out).mono ?_
            rintro e W22 ⟨rfl, hbx⟩
            have HB22 := Lib.hid (below_then HB21.out hbx)
            clear j0 j1 j2 j3 j4
            obtain ⟨j0, j1, j2, j3, j4⟩ := HCells.out _ HB22.out
            clear hbx
            go_wp2_with fail
            refine (HF3.out _ HB22.out).mono ?_
            rintro e W23 ⟨rfl, hbx⟩
            have HB23 := Lib.hid (below_then HB22.out hbx)
            clear j0 j1 j2 j3 j4
            obtain ⟨j0, j1, j2, j3, j4⟩ := HCells.out _ HB23.out
            clear hbx
            go_wp2_with fail
            refine (HF4.out _ HB23.out).mono ?_
            rintro e W24 ⟨rfl, hbx⟩
            have HB24 := Lib.hid (below_then HB23.out hbx)
            clear j0 j1 j2 j3 j4
            obtain ⟨j0, j1, j2, j3, j4⟩ := HCells.out _ HB24.out
            clear hbx
            go_wp2_with fail
            refine (HS1.out _ HB24.out).mono ?_
            rintro e W25 ⟨rfl, hbx⟩
            have HB25 := Lib.hid (below_then HB24.out hbx)
            clear j0 j1 j2 j3 j4
            obtain ⟨j0, j1, j2, j3, j4⟩ := HCells.out _ HB25.out
            clear hbx
            go_wp2_with fail
            refine (HS2.out _ HB25.out).mono ?_
            rintro e W26 ⟨rfl, hbx⟩
            have HB26 := Lib.hid (below_then HB25.out hbx)
            clear j0 j1 j2 j3 j4
            obtain ⟨j0, j1, j2, j3, j4⟩ := HCells.out _ HB26.out
            clear hbx
            go_wp2_with fail
            refine (HS3.out _ HB26.out).mono ?_
            rintro e W27 ⟨rfl, hbx⟩
            have HB27 := Lib.hid (below_then HB26.out hbx)
            clear j0 j1 j2 j3 j4
            obtain ⟨j0, j1, j2, j3, j4⟩ := HCells.out _ HB27.out
            clear hbx
            go_wp2_with fail
            refine (HS4.out _ HB27.out).mono ?_
            rintro e W28 ⟨rfl, hbx⟩
            have HB28 := Lib.hid (below_then HB27.out hbx)
            clear j0 j1 j2 j3 j4
            obtain ⟨j0, j1, j2, j3, j4⟩ := HCells.out _ HB28.out
            clear hbx
            go_wp2
            go_roundg (gk - 1)
            case measure => omega
            case rel => exact ⟨2, by go_num, by omega, HB28⟩
          | true =>
            go_wp2_with fail
            refine (HF1.out _ HB20.out).mono ?_
            rintro e W21 ⟨rfl, hbx⟩
            have HB21 := Lib.hid (below_then HB20.out hbx)
            clear j0 j1 j2 j3 j4
            obtain ⟨j0, j1, j2, j3, j4⟩ := HCells.out _ HB21.out
            clear hbx
            go_wp2_with fail
            refine (HF2.out _ HB21.out).mono ?_
            rintro e W22 ⟨rfl, hbx⟩
            have HB22 := Lib.hid (below_then HB21.out hbx)
            clear j0 j1 j2 j3 j4
            obtain ⟨j0, j1, j2, j3, j4⟩ := HCells.out _ HB22.out
            clear hbx
            go_wp2_with fail
            refine (HF3.out _ HB22.out).mono ?_
            rintro e W23 ⟨rfl, hbx⟩
            have HB23 := Lib.hid (below_then HB22.out hbx)
            clear j0 j1 j2 j3 j4
            obtain ⟨j0, j1, j2, j3, j4⟩ := HCells.out _ HB23.out
            clear hbx
            go_wp2_with fail
            refine (HF4.out _ HB23.out).mono ?_
            rintro e W24 ⟨rfl, hbx⟩
            have HB24 := Lib.hid (below_then HB23.out hbx)
            clear j0 j1 j2 j3 j4
            obtain ⟨j0, j1, j2, j3, j4⟩ := HCells.out _ HB24.out
            clear hbx
            go_wp2_with fail
            refine (HS1.out _ HB24.out).mono ?_
            rintro e W25 ⟨rfl, hbx⟩
            have HB25 := Lib.hid (below_then HB24.out hbx)
            clear j0 j1 j2 j3 j4
            obtain ⟨j0, j1, j2, j3, j4⟩ := HCells.out _ HB25.out
            clear hbx
            go_wp2_with fail
            refine (HS2.out _ HB25.out).mono ?_
            rintro e W26 ⟨rfl, hbx⟩
            have HB26 := Lib.hid (below_then HB25.out hbx)
            clear j0 j1 j2 j3 j4
            obtain ⟨j0, j1, j2, j3, j4⟩ := HCells.out _ HB26.out
            clear hbx
            go_wp2_with fail
            refine (HS3.out _ HB26.out).mono ?_
            rintro e W27 ⟨rfl, hbx⟩
            have HB27 := Lib.hid (below_then HB26.out hbx)
            clear j0 j1 j2 j3 j4
            obtain ⟨j0, j1, j2, j3, j4⟩ := HCells.out _ HB27.out
            clear hbx
            go_wp2_with fail
            refine (HS4.out _ HB27.out).mono ?_
            rintro e W28 ⟨rfl, hbx⟩
            have HB28 := Lib.hid (below_then HB27.out hbx)
            clear j0 j1 j2 j3 j4
            obtain ⟨j0, j1, j2, j3, j4⟩ := HCells.out _ HB28.out
            clear hbx
            go_wp2
            go_roundg (gk - 1)
            case measure => omega
            case rel => exact ⟨2, by go_num, by omega, HB28⟩
        | true =>
          obtain rfl : b1 = true := HM1.out rfl
          go_wp2_with fail
          refine (HF1.out _ HB20.out).mono ?_
          rintro e W21 ⟨rfl, hbx⟩
          have HB21 := Lib.hid (below_then HB20.out hbx)
          clear j0 j1 j2 j3 j4
          obtain ⟨j0, j1, j2, j3, j4⟩ := HCells.out _ HB21.out
          clear hbx
          go_wp2_with fail
          refine (HF2.out _ HB21.out).mono ?_
          rintro e W22 ⟨rfl, hbx⟩
          have HB22 := Lib.hid (below_then HB21.out hbx)
          clear j0 j1 j2 j3 j4
          obtain ⟨j0, j1, j2, j3, j4⟩ := HCells.out _ HB22.out
          clear hbx
          go_wp2_with fail
          refine (HF3.out _ HB22.out).mono ?_
          rintro e W23 ⟨rfl, hbx⟩
          have HB23 := Lib.hid (below_then HB22.out hbx)
          clear j0 j1 j2 j3 j4
          obtain ⟨j0, j1, j2, j3, j4⟩ := HCells.out _ HB23.out
          clear hbx
          go_wp2_with fail
          refine (HF4.out _ HB23.out).mono ?_
          rintro e W24 ⟨rfl, hbx⟩
          have HB24 := Lib.hid (below_then HB23.out hbx)
          clear j0 j1 j2 j3 j4
          obtain ⟨j0, j1, j2, j3, j4⟩ := HCells.out _ HB24.out
          clear hbx
          go_wp2_with fail
          refine (HS1.out _ HB24.out).mono ?_
          rintro e W25 ⟨rfl, hbx⟩
          have HB25 := Lib.hid (below_then HB24.out hbx)
          clear j0 j1 j2 j3 j4
          obtain ⟨j0, j1, j2, j3, j4⟩ := HCells.out _ HB25.out
          clear hbx
          go_wp2_with fail
          refine (HS2.out _ HB25.out).mono ?_
          rintro e W26 ⟨rfl, hbx⟩
          have HB26 := Lib.hid (below_then HB25.out hbx)
          clear j0 j1 j2 j3 j4
          obtain ⟨j0, j1, j2, j3, j4⟩ := HCells.out _ HB26.out
          clear hbx
          go_wp2_with fail
          refine (HS3.out _ HB26.out).mono ?_
          rintro e W27 ⟨rfl, hbx⟩
          have HB27 := Lib.hid (below_then HB26.out hbx)
          clear j0 j1 j2 j3 j4
          obtain ⟨j0, j1, j2, j3, j4⟩ := HCells.out _ HB27.out
          clear hbx
          go_wp2_with fail
          refine (HS4.out _ HB27.out).mono ?_
          rintro e W28 ⟨rfl, hbx⟩
          have HB28 := Lib.hid (below_then HB27.out hbx)
          clear j0 j1 j2 j3 j4
          obtain ⟨j0, j1, j2, j3, j4⟩ := HCells.out _ HB28.out
          clear hbx
          go_wp2
          go_roundg (gk - 1)
          case measure => omega
          case rel => exact ⟨2, by go_num, by omega, HB28⟩
      · obtain rfl : k = 2 := by omega
        have HC : Hid (∀ W, Below wr.heap.size wr W → (W.cell? ⟨w.heap.size, 0, none⟩ = some (.int .i64 kd) ∧ W.cell? ⟨w.heap.size, 1, none⟩ = some (.int .i64 (N : Int)) ∧ W.cell? ⟨w.heap.size, 2, none⟩ = some (.int .i64 on) ∧ W.cell? ⟨w.heap.size, 3, none⟩ = some (.int .i64 tw) ∧ W.cell? ⟨w.heap.size, 4, none⟩ = some (.slice A n c)) ∧ Below wr.heap.size wr W) := Lib.hid fun W hb => ⟨HCells.out W (below_then HB20.out hb), hb⟩
        go_wp2_with fail
        go_region_held3 (fun W => (W.cell? ⟨w.heap.size, 0, none⟩ = some (.int .i64 kd) ∧ W.cell? ⟨w.heap.size, 1, none⟩ = some (.int .i64 (N : Int)) ∧ W.cell? ⟨w.heap.size, 2, none⟩ = some (.int .i64 on) ∧ W.cell? ⟨w.heap.size, 3, none⟩ = some (.int .i64 tw) ∧ W.cell? ⟨w.heap.size, 4, none⟩ = some (.slice A n c)) ∧ Below wr.heap.size wr W) (first | (refine HC.out _ ?_; (repeat' (first | assumption | exact Below.refl _ _ | exact Nat.le_refl _ | apply Below.drew)); done) | go_keep)
          (first
            | (go_at_call 15; (with_reducible refine (HF1.out _ (below_then HB20.out (by (repeat' (first | assumption | exact Below.refl _ _ | apply Below.drew))))).mono ?_); rintro e V1 ⟨rfl, hv1⟩; have hd1 : Below wr.heap.size wr V1 := below_then (by (repeat' (first | assumption | exact Below.refl _ _ | apply Below.drew))) hv1; have hk1 := HC.out V1 hd1)
            | (go_at_call 15; (with_reducible refine (HF5.out _ (below_then HB20.out (by (repeat' (first | assumption | exact Below.refl _ _ | apply Below.drew))))).mono ?_); rintro e V2 ⟨rfl, hv2⟩; have hd2 : Below wr.heap.size wr V2 := below_then (by (repeat' (first | assumption | exact Below.refl _ _ | apply Below.drew))) hv2; have hk2 := HC.out V2 hd2)
            | (go_at_call 16; (with_reducible refine (HS1.out _ (below_then HB20.out (by (repeat' (first | assumption | exact Below.refl _ _ | apply Below.drew))))).mono ?_); rintro e V3 ⟨rfl, hv3⟩; have hd3 : Below wr.heap.size wr V3 := below_then (by (repeat' (first | assumption | exact Below.refl _ _ | apply Below.drew))) hv3; have hk3 := HC.out V3 hd3)
            | (go_at_call 16; (with_reducible refine (HS5.out _ (below_then HB20.out (by (repeat' (first | assumption | exact Below.refl _ _ | apply Below.drew))))).mono ?_); rintro e V4 ⟨rfl, hv4⟩; have hd4 : Below wr.heap.size wr V4 := below_then (by (repeat' (first | assumption | exact Below.refl _ _ | apply Below.drew))) hv4; have hk4 := HC.out V4 hd4)
            | (go_at_call 10; (refine (known_any _).mono ?_); rintro e V5 ⟨rfl, hv5⟩; have hd5 : Below wr.heap.size wr V5 := below_then (by (repeat' (first | assumption | exact Below.refl _ _ | apply Below.drew))) hv5; have hk5 := HC.out V5 hd5))
        all_goals
          rename_i hH
          obtain ⟨_, hbW⟩ := hH
          have HF := Lib.hid (below_then HB1.out (below_then HB20.out hbW))
          clear hbW HC HCells
          go_wp2
          go_ret
          exact ⟨rfl, HF.out⟩
  · have hno : ∀ p x, q.isQ p x = false := fun p x => q.isQ_bad hr p x
    rw [hno] at HF1 HF2 HF3 HF4 HS1 HS2 HS3 HS4
    clear HM0 HM1
    clear hf hse hmo hno hmy hq HK1
    unfold qV at *
    generalize s ||| m = t at *
    generalize q.right = r at *
    go_enter Try.func6, Try.ntmps6
    go_wp2_with fail
    rw [← HW1.out]
    refine HM.out.mono ?_
    rintro e w2 ⟨rfl, hb2⟩
    have HB12 := Lib.hid hb2
    clear k0 k1 k2 k3 k4
    obtain ⟨j0, j1, j2, j3, j4⟩ := HCells.out w2 hb2
    clear hb2
    go_wp2_with fail
    refine (HR.out _ HB12.out).mono ?_
    rintro e w3 ⟨rfl, hb3⟩
    have HB13 := Lib.hid (below_then HB12.out hb3)
    clear j0 j1 j2 j3 j4
    obtain ⟨j0, j1, j2, j3, j4⟩ := HCells.out w3 HB13.out
    clear hb3
    go_wp2_with fail
    go_loopg [8] 2 (fun g i wr => ∃ k : Nat, i = .int .i64 (k : Int) ∧ k + g = 2 ∧ Hid (Below w1.heap.size w1 wr))
    case atStart => exact ⟨0, rfl, by omega, HB13⟩
    case round =>
      obtain ⟨k, rfl, hkg, HB20⟩ := hrel
      obtain ⟨j0, j1, j2, j3, j4⟩ := HCells.out _ HB20.out
      by_cases hk0 : k = 0
      · subst hk0
        go_wp2_with fail
        refine (HF1.out _ HB20.out).mono ?_
        rintro e W21 ⟨rfl, hbx⟩
        have HB21 := Lib.hid (below_then HB20.out hbx)
        clear j0 j1 j2 j3 j4
        obtain ⟨j0, j1, j2, j3, j4⟩ := HCells.out _ HB21.out
        clear hbx
        go_wp2_with fail
        refine (HF2.out _ HB21.out).mono ?_
        rintro e W22 ⟨rfl, hbx⟩
        have HB22 := Lib.hid (below_then HB21.out hbx)
        clear j0 j1 j2 j3 j4
        obtain ⟨j0, j1, j2, j3, j4⟩ := HCells.out _ HB22.out
        clear hbx
        go_wp2_with fail
        refine (HF3.out _ HB22.out).mono ?_
        rintro e W23 ⟨rfl, hbx⟩
        have HB23 := Lib.hid (below_then HB22.out hbx)
        clear j0 j1 j2 j3 j4
        obtain ⟨j0, j1, j2, j3, j4⟩ := HCells.out _ HB23.out
        clear hbx
        go_wp2_with fail
        refine (HF4.out _ HB23.out).mono ?_
        rintro e W24 ⟨rfl, hbx⟩
        have HB24 := Lib.hid (below_then HB23.out hbx)
        clear j0 j1 j2 j3 j4
        obtain ⟨j0, j1, j2, j3, j4⟩ := HCells.out _ HB24.out
        clear hbx
        go_wp2
        go_roundg (gk - 1)
        case measure => omega
        case rel => exact ⟨1, by go_num, by omega, HB24⟩
      by_cases hk1 : k = 1
      · subst hk1
        go_wp2_with fail
        refine (HF1.out _ HB20.out).mono ?_
        rintro e W21 ⟨rfl, hbx⟩
        have HB21 := Lib.hid (below_then HB20.out hbx)
        clear j0 j1 j2 j3 j4
        obtain ⟨j0, j1, j2, j3, j4⟩ := HCells.out _ HB21.out
        clear hbx
        go_wp2_with fail
        refine (HF2.out _ HB21.out).mono ?_
        rintro e W22 ⟨rfl, hbx⟩
        have HB22 := Lib.hid (below_then HB21.out hbx)
        clear j0 j1 j2 j3 j4
        obtain ⟨j0, j1, j2, j3, j4⟩ := HCells.out _ HB22.out
        clear hbx
        go_wp2_with fail
        refine (HF3.out _ HB22.out).mono ?_
        rintro e W23 ⟨rfl, hbx⟩
        have HB23 := Lib.hid (below_then HB22.out hbx)
        clear j0 j1 j2 j3 j4
        obtain ⟨j0, j1, j2, j3, j4⟩ := HCells.out _ HB23.out
        clear hbx
        go_wp2_with fail
        refine (HF4.out _ HB23.out).mono ?_
        rintro e W24 ⟨rfl, hbx⟩
        have HB24 := Lib.hid (below_then HB23.out hbx)
        clear j0 j1 j2 j3 j4
        obtain ⟨j0, j1, j2, j3, j4⟩ := HCells.out _ HB24.out
        clear hbx
        go_wp2_with fail
        refine (HS1.out _ HB24.out).mono ?_
        rintro e W25 ⟨rfl, hbx⟩
        have HB25 := Lib.hid (below_then HB24.out hbx)
        clear j0 j1 j2 j3 j4
        obtain ⟨j0, j1, j2, j3, j4⟩ := HCells.out _ HB25.out
        clear hbx
        go_wp2_with fail
        refine (HS2.out _ HB25.out).mono ?_
        rintro e W26 ⟨rfl, hbx⟩
        have HB26 := Lib.hid (below_then HB25.out hbx)
        clear j0 j1 j2 j3 j4
        obtain ⟨j0, j1, j2, j3, j4⟩ := HCells.out _ HB26.out
        clear hbx
        go_wp2_with fail
        refine (HS3.out _ HB26.out).mono ?_
        rintro e W27 ⟨rfl, hbx⟩
        have HB27 := Lib.hid (below_then HB26.out hbx)
        clear j0 j1 j2 j3 j4
        obtain ⟨j0, j1, j2, j3, j4⟩ := HCells.out _ HB27.out
        clear hbx
        go_wp2_with fail
        refine (HS4.out _ HB27.out).mono ?_
        rintro e W28 ⟨rfl, hbx⟩
        have HB28 := Lib.hid (below_then HB27.out hbx)
        clear j0 j1 j2 j3 j4
        obtain ⟨j0, j1, j2, j3, j4⟩ := HCells.out _ HB28.out
        clear hbx
        go_wp2
        go_roundg (gk - 1)
        case measure => omega
        case rel => exact ⟨2, by go_num, by omega, HB28⟩
      · obtain rfl : k = 2 := by omega
        go_wp2_with fail
        refine (known_any _).mono ?_
        rintro e w9 ⟨rfl, hb9⟩
        have HB9 := Lib.hid (below_then HB1.out (below_then HB20.out hb9))
        clear hb9
        go_wp2
        go_ret
        exact ⟨rfl, HB9.out⟩

namespace quorumGrows
set_option maxRecDepth 100000 in
theorem lifted (os : Os) (started : os.Started) (H : Type) (enc : TypeId × Value → H) :
    ReturnsInHanded {} Try.checked os 6 .any (Rows.quorumGrowsSpec.pre6 enc Try.prog Try.f6 Rows.quorumGrowsRow.domain false) (Rows.quorumGrowsSpec.post enc Try.prog Try.f6 false true false false) := by
  refine law_lift started (by kernel_rfl) Try.func6
    (ChangeSpec.witness6 (enc := enc) (C := Try.checked) false ⟨#[], #[.agg #[.int .i64 0, .int .i64 0, .int .i64 0, .int .i64 0, .slice none 0 0], .int .u32 0, .int .u32 0], []⟩ 8 (by kernel_rfl) (by kernel_rfl) (by kernel_rfl) (by kernel_rfl))
    rfl ?_ (by kernel_rfl) (by kernel_rfl) ?_
  · intro ds h
    match ds, h with
    | [_, _, _], _ => rfl
  intro W base args ds p g
  have hA := g.trod
  have hval := g.val
  rw [Try.params6] at hA hval
  obtain ⟨v0, vs0, d0, ds0, p0, q0, hargs, rfl, rfl, h0, r0⟩ := trodAll_cons hA
  obtain ⟨v1, vs1, d1, ds1, p1, q1, rfl, rfl, rfl, h1, r1⟩ := trodAll_cons r0
  obtain ⟨v2, vs2, d2, ds2, p2, q2, rfl, rfl, rfl, h2, r2⟩ := trodAll_cons r1
  obtain ⟨rfl, rfl, rfl⟩ := trodAll_nil r2
  obtain rfl : args = #[v0, v1, v2] := by cases args; simp_all
  obtain ⟨x0, hx0, rfl⟩ := given_q (hval 0 24 v0 rfl rfl) h0
  obtain ⟨a1, rfl, _, _, w1⟩ := open_int Try.underlying29 (hval 1 29 v1 rfl rfl) h1
  have b1 := bounds_u32 w1
  obtain ⟨m1, rfl⟩ := Int.eq_ofNat_of_zero_le b1.1
  obtain ⟨a2, rfl, _, _, w2⟩ := open_int Try.underlying29 (hval 2 29 v2 rfl rfl) h2
  have b2 := bounds_u32 w2
  obtain ⟨m2, rfl⟩ := Int.eq_ofNat_of_zero_le b2.1
  exact quorumGrows_walk x0.q x0.A x0.n x0.c m1 m2 W hx0 (by omega) (by omega)

theorem over : Rows.quorumGrowsRow.holds Try.pinned (OpenSpec.ofChange Rows.quorumGrowsSpec) :=
  OpenClaim.holds_of_wide 6 Try.f6 rfl rfl rfl rfl rfl rfl rfl ⟨rfl, rfl, rfl, rfl, rfl⟩ rfl rfl rfl rfl rfl (by kernel_rfl) Try.func6 (by kernel_rfl)
    (of_decide_eq_true (by kernel_rfl)) (by unfold Func.isWrapper; first | (rw [if_pos (by decide +kernel)]; kernel_rfl) | (rw [if_neg (by decide +kernel)]; exact ⟨rfl, rfl⟩))
    (fun os started H enc _ => lifted os started H enc)
end quorumGrows

theorem QuorumGrows_proved : Rows.QuorumGrowsSaid := quorumGrows.over
#print axioms QuorumGrows_proved
end Go.Proofs.Ytgkglkcnnebddaa
