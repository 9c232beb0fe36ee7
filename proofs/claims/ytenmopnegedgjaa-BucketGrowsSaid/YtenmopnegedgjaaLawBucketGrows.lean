/- BucketGrows: for every input law15.BucketGrows answers true: one waits at least half, and at most all, of what the tries come to; more tries never halve it further; never longer than the most, or the base. Conditions: none. -/
import Derived.Test.YtenmopnegedgjaaBuO
import Derived.Test.YtenmopnegedgjaaLaw
namespace Go.Proofs.Ytenmopnegedgjaa
open Go.RowKit Go.ChangeShapes Go.WideShapes Go.ChangeAt

/-- What the tries come to, of numbers cut down. -/
theorem grows_fact (p q r own : Nat) (hp : p < 1000000) (hq : q < 1000000000) : ∃ x1 x2 x3 x4 T : Nat,
    backB ((1 + p : Nat) : Int) (q : Int) ((1 + r : Nat) : Int) own = (x1 : Int) ∧ backB ((1 + p : Nat) : Int) (q : Int) ((1 + r + 1 : Nat) : Int) own = (x2 : Int) ∧
    backB ((1 + p : Nat) : Int) (q : Int) ((1 + r : Nat) : Int) 0 = (x3 : Int) ∧ backB ((1 + p : Nat) : Int) (q : Int) 1 0 = (x4 : Int) ∧
    (T : Int) = max ((1 + p : Nat) : Int) (q : Int) ∧ 1 ≤ x1 ∧ x1 ≤ T ∧ x3 ≤ x1 ∧ x1 ≤ 2 * x3 ∧ x3 ≤ x2 ∧ x4 = (1 + p + 1) / 2 ∧ T ≤ 1000000000 := by
  unfold backB
  rw [if_neg (by omega), if_neg (by omega), if_neg (by omega), if_neg (by omega)]
  have hW1 := triesB_le ((1 + p : Nat) : Int) (q : Int) ((1 + r : Nat) : Int)
  have hW2 := triesB_ge ((1 + p : Nat) : Int) (q : Int) ((1 + r : Nat) : Int)
  have hm : triesB ((1 + p : Nat) : Int) (q : Int) ((1 + r : Nat) : Int) ≤ triesB ((1 + p : Nat) : Int) (q : Int) ((1 + r + 1 : Nat) : Int) := by
    unfold triesB
    have e1 : (((1 + r : Nat) : Int) - 1).toNat = r := by omega
    have e2 : (((1 + r + 1 : Nat) : Int) - 1).toNat = r + 1 := by omega
    rw [e1, e2]
    exact growB_mono _ _ (baseB_le _ _) r
  have ht : ((topB ((1 + p : Nat) : Int) (q : Int) : Nat) : Int) = max ((1 + p : Nat) : Int) (q : Int) := by unfold topB; omega
  have hb : baseB ((1 + p : Nat) : Int) = 1 + p := by unfold baseB; omega
  have h4 : triesB ((1 + p : Nat) : Int) (q : Int) 1 = 1 + p := by
    unfold triesB
    show baseB _ = _
    exact hb
  rw [hb] at hW2
  have g1 := halfB_le (triesB ((1 + p : Nat) : Int) (q : Int) ((1 + r : Nat) : Int)) own
  have g2 := halfB_ge (triesB ((1 + p : Nat) : Int) (q : Int) ((1 + r : Nat) : Int)) own
  have g3 := halfB_ge (triesB ((1 + p : Nat) : Int) (q : Int) ((1 + r + 1 : Nat) : Int)) own
  have g4 : halfB (triesB ((1 + p : Nat) : Int) (q : Int) ((1 + r : Nat) : Int)) 0 = triesB ((1 + p : Nat) : Int) (q : Int) ((1 + r : Nat) : Int) - triesB ((1 + p : Nat) : Int) (q : Int) ((1 + r : Nat) : Int) / 2 := by
    unfold halfB
    rw [Nat.zero_mod, Nat.add_zero]
  have g5 : halfB (triesB ((1 + p : Nat) : Int) (q : Int) 1) 0 = (1 + p + 1) / 2 := by
    rw [h4]
    unfold halfB
    rw [Nat.zero_mod, Nat.add_zero]
    omega
  refine ⟨_, _, _, _, topB ((1 + p : Nat) : Int) (q : Int), rfl, rfl, rfl, rfl, ht, ?_, ?_, ?_, ?_, ?_, g5, by omega⟩
  all_goals
    rw [g4] at *
    generalize triesB ((1 + p : Nat) : Int) (q : Int) ((1 + r : Nat) : Int) = W at *
    generalize triesB ((1 + p : Nat) : Int) (q : Int) ((1 + r + 1 : Nat) : Int) = W2 at *
    generalize topB ((1 + p : Nat) : Int) (q : Int) = T at *
    omega
set_option maxRecDepth 100000 in
set_option maxHeartbeats 2000000 in
theorem bucketGrows_walk (base most tries : Int) (own : Nat) (w : World) (_ : -9223372036854775808 ≤ base) (_ : base ≤ 9223372036854775807) (_ : -9223372036854775808 ≤ most) (_ : most ≤ 9223372036854775807)
    (_ : -9223372036854775808 ≤ tries) (_ : tries ≤ 9223372036854775807) (h5 : own < 18446744073709551616) :
    Calls Try.prog 8 #[.int .i64 base, .int .i64 most, .int .i64 tries, .int .u64 (own : Int)] w fun e w' => e = .returned (.bool true) ∧ Below w.heap.size w w' := by
  obtain ⟨p, hp1, hp2, hp3, hp4⟩ := mod_fact base 1000000 (by omega) (by omega)
  obtain ⟨q, hq1, hq2, hq3, hq4⟩ := mod_fact most 1000000000 (by omega) (by omega)
  obtain ⟨r, hr1, hr2, hr3, hr4⟩ := mod_fact tries 70 (by omega) (by omega)
  have hp2' : (IntKind.u64.wrap base).tmod 1000000 = (p : Int) := hp2
  have hq2' : (IntKind.u64.wrap most).tmod 1000000000 = (q : Int) := hq2
  have hr2' : (IntKind.u64.wrap tries).tmod 70 = (r : Int) := hr2
  obtain ⟨x1, x2, x3, x4, T, f1, f2, f3, f4, f5, g1, g2, g3, g4, g5, g6, g7⟩ := grows_fact p q r own hp1 hq1
  have HB1 := Lib.hid fun W => back_any ((1 + p : Nat) : Int) (q : Int) ((1 + r : Nat) : Int) own (by omega) (by omega) (by omega) (by omega) h5 W
  have HB2 := Lib.hid fun W => back_any ((1 + p : Nat) : Int) (q : Int) ((1 + r + 1 : Nat) : Int) own (by omega) (by omega) (by omega) (by omega) h5 W
  have HB3 := Lib.hid fun W => back_any ((1 + p : Nat) : Int) (q : Int) ((1 + r : Nat) : Int) 0 (by omega) (by omega) (by omega) (by omega) (by omega) W
  have HB4 := Lib.hid fun W => back_any ((1 + p : Nat) : Int) (q : Int) 1 0 (by omega) (by omega) (by omega) (by omega) (by omega) W
  rw [f1] at HB1
  rw [f2] at HB2
  rw [f3] at HB3
  rw [f4] at HB4
  have HB5 := Lib.hid fun W => back_zero 0 (q : Int) ((1 + r : Nat) : Int) own (by omega) W
  have HB6 := Lib.hid fun W => back_zero ((1 + p : Nat) : Int) (q : Int) 0 own (by omega) W
  have HN1 := Lib.hid (tick_nil 1)
  have HN2 := Lib.hid (take_nil 1)
  have HN3 := Lib.hid level_nil
  have HN4 := Lib.hid (wait_nil 1)
  have HK := Lib.hid (known15_any w)
  obtain ⟨P, hP⟩ : ∃ P, P = 1 + p := ⟨_, rfl⟩
  obtain ⟨R, hR⟩ : ∃ R, R = 1 + r := ⟨_, rfl⟩
  obtain ⟨R2, hR2⟩ : ∃ R2, R2 = 1 + r + 1 := ⟨_, rfl⟩
  rw [← hP] at HB1 HB2 HB3 HB4 HB6 f5 g6
  rw [← hR] at HB1 HB3 HB5
  rw [← hR2] at HB2
  have e1 : IntKind.i64.wrap (1 + (p : Int)) = (P : Int) := by rw [IntKind.wrap_i64]; omega
  have e2 : IntKind.i64.wrap (1 + (r : Int)) = (R : Int) := by rw [IntKind.wrap_i64]; omega
  have e3 : IntKind.i64.wrap ((R : Int) + 1) = (R2 : Int) := by rw [IntKind.wrap_i64]; omega
  have e4 : IntKind.i64.wrap (2 * (x3 : Int)) = ((2 * x3 : Nat) : Int) := by rw [IntKind.wrap_i64]; omega
  obtain ⟨y3, hy3⟩ : ∃ y3, y3 = 2 * x3 := ⟨_, rfl⟩
  rw [← hy3] at e4 g4
  have e5 : IntKind.i64.wrap ((P : Int) + 1) = ((P + 1 : Nat) : Int) := by rw [IntKind.wrap_i64]; omega
  obtain ⟨P1, hP1⟩ : ∃ P1, P1 = P + 1 := ⟨_, rfl⟩
  rw [← hP1] at e5 g6
  have e6 : IntKind.i64.wrap ((P1 : Int) / 2) = (x4 : Int) := by rw [IntKind.wrap_i64]; omega
  have e7 : ((x4 : Int) != (x4 : Int)) = false := by simp
  have k1 : ¬ x1 < 1 := by omega
  have k2 : ¬ T < x1 := by omega
  have k3 : ¬ x1 < x3 := by omega
  have k4 : ¬ y3 < x1 := by omega
  have k5 : ¬ x2 < x3 := by omega
  have f6 : max (P : Int) (q : Int) = (T : Int) := f5.symm
  clear f1 f2 f3 f4 f5 g1 g2 g3 g4 g5 g6 g7 hP hR hR2 hP1 hy3 hp2 hq2 hr2 hp1 hq1 hr1 h5
  go_enter Try.func8, Try.ntmps8
  go_wp2_with fail
  refine (HB1.out _).mono ?_
  rintro e w1 ⟨rfl, hw⟩
  rw [hw]
  clear hw HB1
  go_wp2_with fail
  refine (HB2.out _).mono ?_
  rintro e w1 ⟨rfl, hw⟩
  rw [hw]
  clear hw HB2
  go_upto_region 6 with (fail)
  go_cut [11] (fun v wx => v = .int .i64 (T : Int) ∧ wx = w)
  case first =>
    have F6 := Lib.hid f6
    by_cases hh : (P : Int) < (q : Int)
    · have hT : (T : Int) = (q : Int) := by omega
      clear f6
      go_wp2_with fail
      go_meet
      exact ⟨by rw [hT], rfl⟩
    · have hT : (T : Int) = (P : Int) := by omega
      clear f6
      go_wp2_with fail
      go_meet
      exact ⟨by rw [hT], rfl⟩
  case rest =>
    obtain ⟨rfl, rfl⟩ := hcut
    clear f6
    go_wp2_with fail
    refine (HB3.out _).mono ?_
    rintro e w1 ⟨rfl, hw⟩
    rw [hw]
    clear hw HB3
    go_wp2_with fail
    refine (HB4.out _).mono ?_
    rintro e w1 ⟨rfl, hw⟩
    rw [hw]
    clear hw HB4
    go_wp2_with fail
    refine (HN1.out _).mono ?_
    rintro e w1 ⟨rfl, hw⟩
    rw [hw]
    clear hw HN1
    go_wp2_with fail
    refine (HN2.out _).mono ?_
    rintro e w1 ⟨rfl, hw⟩
    rw [hw]
    clear hw HN2
    go_wp2_with fail
    refine (HN3.out _).mono ?_
    rintro e w1 ⟨rfl, hw⟩
    rw [hw]
    clear hw HN3
    go_wp2_with fail
    refine (HN4.out _).mono ?_
    rintro e w1 ⟨rfl, hw⟩
    rw [hw]
    clear hw HN4
    go_wp2_with fail
    refine (HB5.out _).mono ?_
    rintro e w1 ⟨rfl, hw⟩
    rw [hw]
    clear hw HB5
    go_wp2_with fail
    refine (HB6.out _).mono ?_
    rintro e w1 ⟨rfl, hw⟩
    rw [hw]
    clear hw HB6
    go_wp2_with fail
    refine HK.out.mono ?_
    rintro e w12 ⟨rfl, hb⟩
    have HB := Lib.hid hb
    clear hb
    go_wp2
    go_ret
    exact ⟨rfl, HB.out⟩

namespace bucketGrows
set_option maxRecDepth 100000 in
theorem lifted (os : Os) (started : os.Started) (H : Type) (enc : TypeId × Value → H) :
    ReturnsInHanded {} Try.checked os 8 .any (Rows.bucketGrowsSpec.pre6 enc Try.prog Try.f8 Rows.bucketGrowsRow.domain false) (Rows.bucketGrowsSpec.post enc Try.prog Try.f8 false true false false) := by
  refine law_lift started (by kernel_rfl) Try.func8
    (ChangeSpec.witness6 (enc := enc) (C := Try.checked) false ⟨#[], #[.int .i64 0, .int .i64 0, .int .i64 0, .int .u64 0], []⟩ 8 (by kernel_rfl) (by kernel_rfl) (by kernel_rfl) (by kernel_rfl))
    rfl ?_ (by kernel_rfl) (by kernel_rfl) ?_
  · intro ds h
    match ds, h with
    | [_, _, _, _], _ => rfl
  intro W base args ds p g
  have hA := g.trod
  have hval := g.val
  rw [Try.params8] at hA hval
  obtain ⟨v0, vs0, d0, ds0, p0, q0, hargs, rfl, rfl, h0, r0⟩ := trodAll_cons hA
  obtain ⟨v1, vs1, d1, ds1, p1, q1, rfl, rfl, rfl, h1, r1⟩ := trodAll_cons r0
  obtain ⟨v2, vs2, d2, ds2, p2, q2, rfl, rfl, rfl, h2, r2⟩ := trodAll_cons r1
  obtain ⟨v3, vs3, d3, ds3, p3, q3, rfl, rfl, rfl, h3, r3⟩ := trodAll_cons r2
  obtain ⟨rfl, rfl, rfl⟩ := trodAll_nil r3
  obtain rfl : args = #[v0, v1, v2, v3] := by cases args; simp_all
  obtain ⟨a0, rfl, _, _, w0⟩ := open_int Try.underlying3 (hval 0 3 v0 rfl rfl) h0
  have b0 := bounds_i64 w0
  obtain ⟨a1, rfl, _, _, w1⟩ := open_int Try.underlying3 (hval 1 3 v1 rfl rfl) h1
  have b1 := bounds_i64 w1
  obtain ⟨a2, rfl, _, _, w2⟩ := open_int Try.underlying3 (hval 2 3 v2 rfl rfl) h2
  have b2 := bounds_i64 w2
  obtain ⟨a3, rfl, _, _, w3⟩ := open_int Try.underlying38 (hval 3 38 v3 rfl rfl) h3
  have b3 := bounds_u64 w3
  obtain ⟨m3, rfl⟩ := Int.eq_ofNat_of_zero_le b3.1
  exact bucketGrows_walk a0 a1 a2 m3 W b0.1 b0.2 b1.1 b1.2 b2.1 b2.2 (by omega)

theorem over : Rows.bucketGrowsRow.holds Try.pinned (OpenSpec.ofChange Rows.bucketGrowsSpec) :=
  OpenClaim.holds_of_wide 8 Try.f8 rfl rfl rfl rfl rfl rfl rfl ⟨rfl, rfl, rfl, rfl, rfl⟩ rfl rfl rfl rfl rfl (by kernel_rfl) Try.func8 (by kernel_rfl)
    (of_decide_eq_true (by kernel_rfl)) (by unfold Func.isWrapper; first | (rw [if_pos (by decide +kernel)]; kernel_rfl) | (rw [if_neg (by decide +kernel)]; exact ⟨rfl, rfl⟩))
    (fun os started H enc _ => lifted os started H enc)
end bucketGrows

theorem BucketGrows_proved : Rows.BucketGrowsSaid := bucketGrows.over
#print axioms BucketGrows_proved
end Go.Proofs.Ytenmopnegedgjaa
