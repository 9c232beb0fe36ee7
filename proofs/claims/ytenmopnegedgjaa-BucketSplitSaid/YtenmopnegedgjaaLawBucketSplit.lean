/- BucketSplit: for every input law15.BucketSplit answers true: ticks that go by at once are ticks that go by one by one, in whatever pieces. Conditions: none. -/
import Derived.Test.YtenmopnegedgjaaBuO
import Derived.Test.YtenmopnegedgjaaLaw
namespace Go.Proofs.Ytenmopnegedgjaa
open Go.RowKit Go.ChangeShapes Go.WideShapes Go.ChangeAt

set_option maxRecDepth 100000 in
set_option maxHeartbeats 1000000 in
theorem bucketSplit_walk (rate burst take a c : Int) (w : World) (_ : -9223372036854775808 ≤ rate) (_ : rate ≤ 9223372036854775807) (_ : -9223372036854775808 ≤ burst) (_ : burst ≤ 9223372036854775807)
    (_ : -9223372036854775808 ≤ take) (_ : take ≤ 9223372036854775807) (_ : -9223372036854775808 ≤ a) (_ : a ≤ 9223372036854775807) (_ : -9223372036854775808 ≤ c) (_ : c ≤ 9223372036854775807) :
    Calls Try.prog 7 #[.int .i64 rate, .int .i64 burst, .int .i64 take, .int .i64 a, .int .i64 c] w fun e w' => e = .returned (.bool true) ∧ Below w.heap.size w w' := by
  by_cases hr : rightB rate burst
  · have HN := Lib.hid fun W => new_any rate burst hr W
    obtain ⟨p, hp1, hp2, hp3, hp4⟩ := mod_fact a 1000000 (by omega) (by omega)
    obtain ⟨q, hq1, hq2, hq3, hq4⟩ := mod_fact c 1000000 (by omega) (by omega)
    have e1 : IntKind.i64.wrap ((p : Int) + (q : Int)) = ((p + q : Nat) : Int) := by rw [IntKind.wrap_i64]; omega
    have HP := Lib.hid hp1
    have HQ := Lib.hid hq1
    obtain ⟨u0, hu⟩ : ∃ u0, u0 = mkB rate burst := ⟨_, rfl⟩
    have HO : Hid u0.Ok := Lib.hid (by rw [hu]; exact mkB_ok hr)
    have hp2' : (IntKind.u64.wrap a).tmod 1000000 = (p : Int) := hp2
    have hq2' : (IntKind.u64.wrap c).tmod 1000000 = (q : Int) := hq2
    rw [← hu] at HN
    clear hr hp1 hq1 hu hp2 hq2
    obtain ⟨s, hs⟩ : ∃ s, s = p + q := ⟨_, rfl⟩
    rw [← hs] at e1
    have HS := Lib.hid hs
    clear hs
    go_enter Try.func7, Try.ntmps7
    go_wp2_with fail
    refine (HN.out _).mono ?_
    rintro e w1 ⟨rfl, H1⟩
    obtain ⟨g, hg⟩ : ∃ g, g = w.heap.size := ⟨_, rfl⟩
    have HS1 : Hid (OBu 46 w w1 g u0) := Lib.hid (by rw [hg]; exact OBu.of_new H1.out)
    rw [← hg]
    clear H1 hg
    go_wp2_with fail
    refine (HN.out _).mono ?_
    rintro e w2 ⟨rfl, H2⟩
    obtain ⟨g2, hg2⟩ : ∃ g2, g2 = w1.heap.size := ⟨_, rfl⟩
    have HT : Hid (TwoU w w2 g u0 g2 u0) := Lib.hid (by
      have h1 := HS1.out
      have h2 := H2.out
      have h3 := h1.pu.hd.lt
      rw [hg2]
      exact ⟨h1.below h2.2, OBu.of_new2 h1.bel h2, by omega⟩)
    rw [← hg2]
    clear H2 hg2 HS1 HN
    have HC := Lib.hid (HT.out.one.take take)
    go_wp2_with fail
    refine HC.out.mono ?_
    rintro e w3 ⟨rfl, H3⟩
    have HO2 : Hid ((u0.take take).Ok) := Lib.hid (HO.out.take _)
    have HT3 := Lib.hid (HT.out.act1 H3.out)
    clear HC H3 HT
    have HC := Lib.hid (HT3.out.two.take take)
    generalize u0.has take = b0 at HC ⊢
    go_wp2_with fail
    refine HC.out.mono ?_
    rintro e w4 ⟨rfl, H4⟩
    have HT4 := Lib.hid (HT3.out.act2 H4.out)
    clear HC H4 HT3
    generalize u0.take take = u at HT4 HO2
    have HC := Lib.hid (HT4.out.one.tick p (by have := HP.out; omega))
    go_wp2_with fail
    refine HC.out.mono ?_
    rintro e w5 ⟨rfl, H5⟩
    have HT5 := Lib.hid (HT4.out.act1 H5.out)
    clear HC H5 HT4
    have HC := Lib.hid (HT5.out.one.tick q (by have := HQ.out; omega))
    go_wp2_with fail
    refine HC.out.mono ?_
    rintro e w6 ⟨rfl, H6⟩
    have HT6 := Lib.hid (HT5.out.act1 H6.out)
    clear HC H6 HT5
    have HC := Lib.hid (HT6.out.two.tick s (by have := HS.out; have := HP.out; have := HQ.out; omega))
    go_wp2_with fail
    refine HC.out.mono ?_
    rintro e w7 ⟨rfl, H7⟩
    have HT7 := Lib.hid (HT6.out.act2 H7.out)
    clear HC H7 HT6
    have HC := Lib.hid (HT7.out.two.tick 0 (by omega))
    go_wp2_with fail
    refine HC.out.mono ?_
    rintro e w8 ⟨rfl, H8⟩
    have HT8 := Lib.hid (HT7.out.act2 H8.out)
    clear HC H8 HT7
    have HC := Lib.hid (HT8.out.two.tick (-5) (by omega))
    go_wp2_with fail
    refine HC.out.mono ?_
    rintro e w9 ⟨rfl, H9⟩
    have HT9 := Lib.hid (HT8.out.act2 H9.out)
    clear HC H9 HT8
    rw [Bu.tick_nought _ (show (-5 : Int) < 1 by omega), Bu.tick_nought _ (show (0 : Int) < 1 by omega), Bu.tick_tick HO2.out, HS.out] at HT9
    have HC : Hid (∃ L : Nat, L = (u.tick ((p + q : Nat) : Int)).level) := Lib.hid ⟨_, rfl⟩
    obtain ⟨L, hL⟩ := HC.out
    have HL1 := Lib.hid HT9.out.one.level
    have HL2 := Lib.hid HT9.out.two.level
    rw [← hL] at HL1 HL2
    have HK := Lib.hid (known15_any w9)
    have e9 : ((L : Int) == (L : Int)) = true := by simp
    clear hL HC
    go_wp2_with fail
    refine HL1.out.mono ?_
    rintro e w10 ⟨rfl, rfl⟩
    go_wp2_with fail
    refine HL2.out.mono ?_
    rintro e w11 ⟨rfl, rfl⟩
    go_wp2_with fail
    refine HK.out.mono ?_
    rintro e w12 ⟨rfl, hb⟩
    have HB : Hid (Below w.heap.size w w12) := Lib.hid (below_then HT9.out.one.bel hb)
    clear hb
    go_wp2
    go_ret
    exact ⟨rfl, HB.out⟩
  · have HN := Lib.hid fun W => new_bad rate burst hr W
    have HK := Lib.hid (known15_any w)
    clear hr
    go_enter Try.func7, Try.ntmps7
    go_wp2_with fail
    refine (HN.out _).mono ?_
    rintro e w1 ⟨rfl, hw⟩
    rw [hw]
    clear hw
    go_wp2_with fail
    refine (HN.out _).mono ?_
    rintro e w2 ⟨rfl, hw⟩
    rw [hw]
    clear hw
    go_wp2_with fail
    refine HK.out.mono ?_
    rintro e w12 ⟨rfl, hb⟩
    have HB := Lib.hid hb
    clear hb
    go_wp2
    go_ret
    exact ⟨rfl, HB.out⟩

namespace bucketSplit
set_option maxRecDepth 100000 in
theorem lifted (os : Os) (started : os.Started) (H : Type) (enc : TypeId × Value → H) :
    ReturnsInHanded {} Try.checked os 7 .any (Rows.bucketSplitSpec.pre6 enc Try.prog Try.f7 Rows.bucketSplitRow.domain false) (Rows.bucketSplitSpec.post enc Try.prog Try.f7 false true false false) := by
  refine law_lift started (by kernel_rfl) Try.func7
    (ChangeSpec.witness6 (enc := enc) (C := Try.checked) false ⟨#[], #[.int .i64 0, .int .i64 0, .int .i64 0, .int .i64 0, .int .i64 0], []⟩ 8 (by kernel_rfl) (by kernel_rfl) (by kernel_rfl) (by kernel_rfl))
    rfl ?_ (by kernel_rfl) (by kernel_rfl) ?_
  · intro ds h
    match ds, h with
    | [_, _, _, _, _], _ => rfl
  intro W base args ds p g
  have hA := g.trod
  have hval := g.val
  rw [Try.params7] at hA hval
  obtain ⟨v0, vs0, d0, ds0, p0, q0, hargs, rfl, rfl, h0, r0⟩ := trodAll_cons hA
  obtain ⟨v1, vs1, d1, ds1, p1, q1, rfl, rfl, rfl, h1, r1⟩ := trodAll_cons r0
  obtain ⟨v2, vs2, d2, ds2, p2, q2, rfl, rfl, rfl, h2, r2⟩ := trodAll_cons r1
  obtain ⟨v3, vs3, d3, ds3, p3, q3, rfl, rfl, rfl, h3, r3⟩ := trodAll_cons r2
  obtain ⟨v4, vs4, d4, ds4, p4, q4, rfl, rfl, rfl, h4, r4⟩ := trodAll_cons r3
  obtain ⟨rfl, rfl, rfl⟩ := trodAll_nil r4
  obtain rfl : args = #[v0, v1, v2, v3, v4] := by cases args; simp_all
  obtain ⟨a0, rfl, _, _, w0⟩ := open_int Try.underlying3 (hval 0 3 v0 rfl rfl) h0
  have b0 := bounds_i64 w0
  obtain ⟨a1, rfl, _, _, w1⟩ := open_int Try.underlying3 (hval 1 3 v1 rfl rfl) h1
  have b1 := bounds_i64 w1
  obtain ⟨a2, rfl, _, _, w2⟩ := open_int Try.underlying3 (hval 2 3 v2 rfl rfl) h2
  have b2 := bounds_i64 w2
  obtain ⟨a3, rfl, _, _, w3⟩ := open_int Try.underlying3 (hval 3 3 v3 rfl rfl) h3
  have b3 := bounds_i64 w3
  obtain ⟨a4, rfl, _, _, w4⟩ := open_int Try.underlying3 (hval 4 3 v4 rfl rfl) h4
  have b4 := bounds_i64 w4
  exact bucketSplit_walk a0 a1 a2 a3 a4 W b0.1 b0.2 b1.1 b1.2 b2.1 b2.2 b3.1 b3.2 b4.1 b4.2

theorem over : Rows.bucketSplitRow.holds Try.pinned (OpenSpec.ofChange Rows.bucketSplitSpec) :=
  OpenClaim.holds_of_wide 7 Try.f7 rfl rfl rfl rfl rfl rfl rfl ⟨rfl, rfl, rfl, rfl, rfl⟩ rfl rfl rfl rfl rfl (by kernel_rfl) Try.func7 (by kernel_rfl)
    (of_decide_eq_true (by kernel_rfl)) (by unfold Func.isWrapper; first | (rw [if_pos (by decide +kernel)]; kernel_rfl) | (rw [if_neg (by decide +kernel)]; exact ⟨rfl, rfl⟩))
    (fun os started H enc _ => lifted os started H enc)
end bucketSplit

theorem BucketSplit_proved : Rows.BucketSplitSaid := bucketSplit.over
#print axioms BucketSplit_proved
end Go.Proofs.Ytenmopnegedgjaa
