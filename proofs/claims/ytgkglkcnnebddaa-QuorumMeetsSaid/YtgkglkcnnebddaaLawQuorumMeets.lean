/- QuorumMeets. -/
import Derived.Test.YtgkglkcnnebddaaQuG
import Derived.Test.YtgkglkcnnebddaaRows
namespace Go.Proofs.Ytgkglkcnnebddaa
open Go.ChangeShapes Go.WideShapes Go.ChangeAt Go.RowKit Go.Deep

set_option maxRecDepth 100000 in
set_option maxHeartbeats 4000000 in
theorem quorumMeets_walk (q : Qm) (A : Option Addr) (n c : Nat) (a b : Nat) (w : World) (hq : Qi w q A n c) (ha : a < 4294967296) (hb : b < 4294967296) :
    Calls Try.prog 5 #[qV q (.slice A n c), .int .u32 (a : Int), .int .u32 (b : Int)] w fun e w' => e = .returned (.bool true) ∧ Below w.heap.size w w' := by
  obtain ⟨w1, HW1, HB1, HK1⟩ := boxed q.kind q.nodes q.one q.two A n c w
  have HM := Lib.hid (qmany_any q.kind q.nodes q.one q.two A n c w1)
  have HF := Lib.hid (fun W (hb : Below w1.heap.size w1 W) => first_any q a ha A n c W (hq.up (below_then HB1.out hb)))
  have HS := Lib.hid (fun W (hb2 : Below w1.heap.size w1 W) => second_any q b hb A n c W (hq.up (below_then HB1.out hb2)))
  have HCells : Hid (∀ W2, Below w1.heap.size w1 W2 → _) := Lib.hid fun W2 hb => QB.cells q.kind q.nodes q.one q.two A n c (HK1.out.below hb HK1.out.lt)
  have HQ := Lib.hid hq
  unfold qV at *
  clear hq
  obtain ⟨k0, k1, k2, k3, k4⟩ := HK1.out.cells
  rw [HW1.out] at k0 k1 k2 k3 k4
  have hmd : ∀ z : Bool, decide (40 < n) = z → True := fun _ _ => trivial
  clear hmd
  cases hm : decide (40 < n) with
  | true =>
    rw [hm] at HM
    clear hm
    go_enter Try.func5, Try.ntmps5
    go_wp2_with fail
    rw [← HW1.out]
    refine HM.out.mono ?_
    rintro e w2 ⟨rfl, hb2⟩
    have HB12 := Lib.hid hb2
    obtain ⟨j0, j1, j2, j3, j4⟩ := HCells.out w2 hb2
    clear hb2 k0 k1 k2 k3 k4
    go_wp2_with fail
    refine (known_any _).mono ?_
    rintro e w9 ⟨rfl, hb9⟩
    have HB9 := Lib.hid (below_then HB1.out (below_then HB12.out hb9))
    clear hb9
    go_wp2
    go_ret
    exact ⟨rfl, HB9.out⟩
  | false =>
    rw [hm] at HM
    clear hm
    cases hf : q.isQ false a with
    | false =>
      rw [hf] at HF
      clear hf
      go_enter Try.func5, Try.ntmps5
      go_wp2_with fail
      rw [← HW1.out]
      refine HM.out.mono ?_
      rintro e w2 ⟨rfl, hb2⟩
      have HB12 := Lib.hid hb2
      obtain ⟨j0, j1, j2, j3, j4⟩ := HCells.out w2 hb2
      clear hb2 k0 k1 k2 k3 k4
      go_wp2_with fail
      refine (HF.out _ HB12.out).mono ?_
      rintro e w3 ⟨rfl, hb3⟩
      have HB13 := Lib.hid (below_then HB12.out hb3)
      clear j0 j1 j2 j3 j4
      obtain ⟨j0, j1, j2, j3, j4⟩ := HCells.out w3 HB13.out
      clear hb3
      go_wp2_with fail
      refine (known_any _).mono ?_
      rintro e w9 ⟨rfl, hb9⟩
      have HB9 := Lib.hid (below_then HB1.out (below_then HB13.out hb9))
      clear hb9
      go_wp2
      go_ret
      exact ⟨rfl, HB9.out⟩
    | true =>
      rw [hf] at HF
      cases hs : q.isQ true b with
      | false =>
        rw [hs] at HS
        clear hf hs
        go_enter Try.func5, Try.ntmps5
        go_wp2_with fail
        rw [← HW1.out]
        refine HM.out.mono ?_
        rintro e w2 ⟨rfl, hb2⟩
        have HB12 := Lib.hid hb2
        obtain ⟨j0, j1, j2, j3, j4⟩ := HCells.out w2 hb2
        clear hb2 k0 k1 k2 k3 k4
        go_wp2_with fail
        refine (HF.out _ HB12.out).mono ?_
        rintro e w3 ⟨rfl, hb3⟩
        have HB13 := Lib.hid (below_then HB12.out hb3)
        clear j0 j1 j2 j3 j4
        obtain ⟨j0, j1, j2, j3, j4⟩ := HCells.out w3 HB13.out
        clear hb3
        go_wp2_with fail
        refine (HS.out _ HB13.out).mono ?_
        rintro e w4 ⟨rfl, hb4⟩
        have HB14 := Lib.hid (below_then HB13.out hb4)
        clear j0 j1 j2 j3 j4
        obtain ⟨j0, j1, j2, j3, j4⟩ := HCells.out w4 HB14.out
        clear hb4
        go_wp2_with fail
        refine (known_any _).mono ?_
        rintro e w9 ⟨rfl, hb9⟩
        have HB9 := Lib.hid (below_then HB1.out (below_then HB14.out hb9))
        clear hb9
        go_wp2
        go_ret
        exact ⟨rfl, HB9.out⟩
      | true =>
        rw [hs] at HS
        have hr : q.right = 0 := Classical.byContradiction fun e => by rw [q.isQ_bad e] at hf; cases hf
        obtain ⟨i, hi, hai, hbi⟩ := q.meets hr hf hs
        obtain ⟨hnc, hn12, hn1⟩ := q.n_cast hr
        have hal := q.all_lt hn12
        have h1 := u32_and_nat a b ha hb
        have h2 := u32_and_nat (a &&& b) q.all (Nat.and_lt_two_pow (n := 32) _ hb) (by omega)
        have hne : (a &&& b) &&& q.all ≠ 0 := fun h0 => by
          have h3 := congrArg (fun x => x.testBit i) h0
          rw [Nat.testBit_and, Nat.testBit_and, hai, hbi, Nat.zero_testBit] at h3
          unfold Qm.all at h3
          rw [all_bit, decide_eq_true hi] at h3
          cases h3
        have han := all_num q.n hn12
        rw [show min q.n 32 = q.n by omega] at han
        have hall : 2 ^ q.n - 1 = q.all := rfl
        rw [hall] at han
        have hp : bits .and .u32 ((a &&& b : Nat) : Int) (((2 : Int) ^ q.n - 1) % 4294967296) = ((a &&& b &&& q.all : Nat) : Int) := by rw [han]; exact h2
        generalize q.all = al at *
        generalize a &&& b &&& al = y at *
        have hy : ¬ (y : Int) = 0 := by omega
        clear h2 han
        generalize q.n = N at *
        clear hf hs hr hi hai hbi hall HQ HK1
        obtain ⟨kd, nd, on, tw, l⟩ := q
        dsimp only at *
        subst hnc
        go_enter Try.func5, Try.ntmps5
        go_wp2_with fail
        rw [← HW1.out]
        refine HM.out.mono ?_
        rintro e w2 ⟨rfl, hb2⟩
        have HB12 := Lib.hid hb2
        obtain ⟨j0, j1, j2, j3, j4⟩ := HCells.out w2 hb2
        clear hb2 k0 k1 k2 k3 k4
        go_wp2_with fail
        refine (HF.out _ HB12.out).mono ?_
        rintro e w3 ⟨rfl, hb3⟩
        have HB13 := Lib.hid (below_then HB12.out hb3)
        clear j0 j1 j2 j3 j4
        obtain ⟨j0, j1, j2, j3, j4⟩ := HCells.out w3 HB13.out
        clear hb3
        go_wp2_with fail
        refine (HS.out _ HB13.out).mono ?_
        rintro e w4 ⟨rfl, hb4⟩
        have HB14 := Lib.hid (below_then HB13.out hb4)
        clear j0 j1 j2 j3 j4
        obtain ⟨j0, j1, j2, j3, j4⟩ := HCells.out w4 HB14.out
        clear hb4
        go_wp2_with fail
        refine (known_any _).mono ?_
        rintro e w9 ⟨rfl, hb9⟩
        have HB9 := Lib.hid (below_then HB1.out (below_then HB14.out hb9))
        clear hb9
        go_wp2
        go_ret
        exact ⟨ret_bool (by simpa using hy), HB9.out⟩

namespace quorumMeets
set_option maxRecDepth 100000 in
theorem lifted (os : Os) (started : os.Started) (H : Type) (enc : TypeId × Value → H) :
    ReturnsInHanded {} Try.checked os 5 .any (Rows.quorumMeetsSpec.pre6 enc Try.prog Try.f5 Rows.quorumMeetsRow.domain false) (Rows.quorumMeetsSpec.post enc Try.prog Try.f5 false true false false) := by
  refine law_lift started (by kernel_rfl) Try.func5
    (ChangeSpec.witness6 (enc := enc) (C := Try.checked) false ⟨#[], #[.agg #[.int .i64 0, .int .i64 0, .int .i64 0, .int .i64 0, .slice none 0 0], .int .u32 0, .int .u32 0], []⟩ 8 (by kernel_rfl) (by kernel_rfl) (by kernel_rfl) (by kernel_rfl))
    rfl ?_ (by kernel_rfl) (by kernel_rfl) ?_
  · intro ds h
    match ds, h with
    | [_, _, _], _ => rfl
  intro W base args ds p g
  have hA := g.trod
  have hval := g.val
  rw [Try.params5] at hA hval
  obtain ⟨v0, vs0, d0, ds0, p0, q0, hargs, rfl, rfl, h0, r0⟩ := trodAll_cons hA
  obtain ⟨v1, vs1, d1, ds1, p1, q1, rfl, rfl, rfl, h1, r1⟩ := trodAll_cons r0
  obtain ⟨v2, vs2, d2, ds2, p2, q2, rfl, rfl, rfl, h2, r2⟩ := trodAll_cons r1
  obtain ⟨rfl, rfl, rfl⟩ := trodAll_nil r2
  obtain rfl : args = #[v0, v1, v2] := by cases args; simp_all
  obtain ⟨x0, hx0, rfl⟩ := given_q (hval 0 24 v0 rfl rfl) h0
  obtain ⟨a1, rfl, _, _, w1⟩ := open_int Try.underlying29 (hval 1 29 v1 rfl rfl) h1
  have b1 := bounds_u32 w1
  obtain ⟨m1, rfl⟩ := Int.eq_ofNat_of_zero_le b1.1
  obtain ⟨a2, rfl, _, _, w2⟩ := open_int Try.underlying29 (hval 2 29 v2 rfl rfl) h2
  have b2 := bounds_u32 w2
  obtain ⟨m2, rfl⟩ := Int.eq_ofNat_of_zero_le b2.1
  exact quorumMeets_walk x0.q x0.A x0.n x0.c m1 m2 W hx0 (by omega) (by omega)

theorem over : Rows.quorumMeetsRow.holds Try.pinned (OpenSpec.ofChange Rows.quorumMeetsSpec) :=
  OpenClaim.holds_of_wide 5 Try.f5 rfl rfl rfl rfl rfl rfl rfl ⟨rfl, rfl, rfl, rfl, rfl⟩ rfl rfl rfl rfl rfl (by kernel_rfl) Try.func5 (by kernel_rfl)
    (of_decide_eq_true (by kernel_rfl)) (by unfold Func.isWrapper; first | (rw [if_pos (by decide +kernel)]; kernel_rfl) | (rw [if_neg (by decide +kernel)]; exact ⟨rfl, rfl⟩))
    (fun os started H enc _ => lifted os started H enc)
end quorumMeets

theorem QuorumMeets_proved : Rows.QuorumMeetsSaid := quorumMeets.over
#print axioms QuorumMeets_proved
end Go.Proofs.Ytgkglkcnnebddaa
