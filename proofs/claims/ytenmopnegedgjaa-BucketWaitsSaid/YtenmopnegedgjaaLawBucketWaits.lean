/- BucketWaits: for every input law15.BucketWaits answers true: behind as many ticks as told one may take so much, behind fewer one may not; it is never said that one may never, but where that is so. Conditions: none. -/
import Derived.Test.YtenmopnegedgjaaBuO
import Derived.Test.YtenmopnegedgjaaLaw
namespace Go.Proofs.Ytenmopnegedgjaa
open Go.RowKit Go.ChangeShapes Go.WideShapes Go.ChangeAt

/-- What Wait says comes true. -/
theorem Bu.wait_spec {u : Bu} (h : u.Ok) (n : Int) : (u.wait n = -1 ∧ (n < 1 ∨ (u.burst : Int) < n ∨ u.rate = 0) ∧ ∀ t, (u.tick t).has n = false) ∨
    (u.wait n = 0 ∧ u.has n = true) ∨ ∃ k : Nat, u.wait n = ((k + 1 : Nat) : Int) ∧ k ≤ 1000000 ∧ (u.tick (k : Int)).has n = false ∧ (u.tick ((k + 1 : Nat) : Int)).has n = true := by
  have hl := h.l
  unfold Bu.wait
  split
  · rename_i h1
    refine Or.inl ⟨rfl, by omega, fun t => ?_⟩
    have h2 := (h.tick t).l
    have h3 := (Bu.tick_rate u t).2
    unfold Bu.has
    simp
    omega
  · rename_i h1
    split
    · rename_i h2
      refine Or.inr (Or.inl ⟨rfl, ?_⟩)
      unfold Bu.has
      simp
      omega
    · rename_i h2
      split
      · rename_i h3
        refine Or.inl ⟨rfl, Or.inr (Or.inr h3), fun t => ?_⟩
        have h4 : u.tick t = u := by
          unfold Bu.tick
          split
          · rfl
          · rw [h3, Nat.mul_zero, Nat.add_zero, Nat.min_eq_right hl]
            rfl
        rw [h4]
        unfold Bu.has
        simp
        omega
      · rename_i h3
        obtain ⟨N, rfl⟩ := Int.eq_ofNat_of_zero_le (show 0 ≤ n by omega)
        obtain ⟨k, hk, h4, h5⟩ := ceil_spec (N - u.level) u.rate (by omega) (by omega)
        rw [Int.toNat_natCast, hk]
        have h6 : k * 1 ≤ k * u.rate := Nat.mul_le_mul (Nat.le_refl _) (by omega)
        have hb := h.b
        refine Or.inr (Or.inr ⟨k, rfl, by omega, ?_, ?_⟩)
        · rw [Bu.tick_nat h]
          show (decide (1 ≤ (N : Int)) && decide ((N : Int) ≤ ((min u.burst (u.level + k * u.rate) : Nat) : Int))) = false
          simp
          omega
        · rw [Bu.tick_nat h]
          show (decide (1 ≤ (N : Int)) && decide ((N : Int) ≤ ((min u.burst (u.level + (k + 1) * u.rate) : Nat) : Int))) = true
          simp
          omega
set_option maxRecDepth 100000 in
set_option maxHeartbeats 2000000 in
theorem bucketWaits_walk (rate burst first n : Int) (w : World) (_ : -9223372036854775808 ≤ rate) (_ : rate ≤ 9223372036854775807) (_ : -9223372036854775808 ≤ burst) (_ : burst ≤ 9223372036854775807)
    (_ : -9223372036854775808 ≤ first) (_ : first ≤ 9223372036854775807) (_ : -9223372036854775808 ≤ n) (_ : n ≤ 9223372036854775807) :
    Calls Try.prog 6 #[.int .i64 rate, .int .i64 burst, .int .i64 first, .int .i64 n] w fun e w' => e = .returned (.bool true) ∧ Below w.heap.size w w' := by
  obtain ⟨p, hp1, hp2, hp3, hp4⟩ := mod_fact rate 200 (by omega) (by omega)
  obtain ⟨q, hq1, hq2, hq3, hq4⟩ := mod_fact burst 2000 (by omega) (by omega)
  have hp2' : (IntKind.u64.wrap rate).tmod 200 = (p : Int) := hp2
  have hq2' : (IntKind.u64.wrap burst).tmod 2000 = (q : Int) := hq2
  obtain ⟨Q, hQ⟩ : ∃ Q, Q = 1 + q := ⟨_, rfl⟩
  have e1 : IntKind.i64.wrap (1 + (q : Int)) = (Q : Int) := by rw [IntKind.wrap_i64]; omega
  have hr : rightB (p : Int) (Q : Int) := ⟨by omega, by omega, by omega, by omega⟩
  have HN := Lib.hid fun W => new_any (p : Int) (Q : Int) hr W
  obtain ⟨u0, hu⟩ : ∃ u0, u0 = mkB (p : Int) (Q : Int) := ⟨_, rfl⟩
  have HO : Hid (u0.Ok ∧ u0.rate = p ∧ u0.burst = Q) := Lib.hid (by rw [hu]; exact ⟨mkB_ok hr, by show ((p : Int)).toNat = p; omega, by show ((Q : Int)).toNat = Q; omega⟩)
  rw [← hu] at HN
  clear hr hp1 hq1 hu hp2 hq2 hQ
  go_enter Try.func6, Try.ntmps6
  go_wp2_with fail
  refine (HN.out _).mono ?_
  rintro e w1 ⟨rfl, H1⟩
  obtain ⟨g, hg⟩ : ∃ g, g = w.heap.size := ⟨_, rfl⟩
  have HS1 : Hid (OBu 46 w w1 g u0) := Lib.hid (by rw [hg]; exact OBu.of_new H1.out)
  rw [← hg]
  clear H1 hg
  go_wp2_with fail
  refine (HN.out _).mono ?_
  rintro e w2 ⟨rfl, H2⟩
  obtain ⟨g2, hg2⟩ : ∃ g2, g2 = w1.heap.size := ⟨_, rfl⟩
  have HT : Hid (TwoU w w2 g u0 g2 u0) := Lib.hid (by
    have h1 := HS1.out
    have h2 := H2.out
    have h3 := h1.pu.hd.lt
    rw [hg2]
    exact ⟨h1.below h2.2, OBu.of_new2 h1.bel h2, by omega⟩)
  rw [← hg2]
  clear H2 hg2 HS1 HN
  have HC := Lib.hid (HT.out.one.take first)
  go_wp2_with fail
  refine HC.out.mono ?_
  rintro e w3 ⟨rfl, H3⟩
  have HO2 : Hid ((u0.take first).Ok ∧ (u0.take first).rate = p ∧ (u0.take first).burst = Q) := Lib.hid ⟨HO.out.1.take _, by rw [(Bu.take_rate u0 first).1]; exact HO.out.2.1, by rw [(Bu.take_rate u0 first).2]; exact HO.out.2.2⟩
  have HT3 := Lib.hid (HT.out.act1 H3.out)
  clear HC H3 HT
  have HC := Lib.hid (HT3.out.two.take first)
  generalize u0.has first = b0 at HC ⊢
  go_wp2_with fail
  refine HC.out.mono ?_
  rintro e w4 ⟨rfl, H4⟩
  have HT4 := Lib.hid (HT3.out.act2 H4.out)
  clear HC H4 HT3
  generalize u0.take first = u at HT4 HO2
  have HC := Lib.hid (HT4.out.one.wait n)
  have HW := Lib.hid (Bu.wait_spec HO2.out.1 n)
  obtain ⟨z, hz⟩ : ∃ z, z = u.wait n := ⟨_, rfl⟩
  rw [← hz] at HC HW
  clear hz
  rcases HW.out with ⟨hw1, hw2, hw3⟩ | ⟨hw1, hw2⟩ | ⟨k, hw1, hw2, hw3, hw4⟩
  · rw [hw1] at HC
    rw [HO2.out.2.1, HO2.out.2.2] at hw2
    have H3 := Lib.hid hw3
    clear HW hw1 hw3
    go_wp2_with fail
    refine HC.out.mono ?_
    rintro e w5 ⟨rfl, q5, rfl⟩
    have HT5 := Lib.hid (HT4.out.drewN q5)
    clear HC HT4
    generalize w4.drewN q5 = w5 at HT5 ⊢
    have HC := Lib.hid (HT5.out.one.tick 100000 (by omega))
    go_wp2_with fail
    refine HC.out.mono ?_
    rintro e w6 ⟨rfl, H6⟩
    have HT6 := Lib.hid (HT5.out.act1 H6.out)
    clear HC H6 HT5
    have HC := HT6.out.one.take n
    rw [H3.out] at HC
    have HC := Lib.hid HC
    have hcase : n < 1 ∨ (¬ n < 1 ∧ (Q : Int) < n) ∨ (¬ n < 1 ∧ ¬ (Q : Int) < n ∧ p = 0) := by omega
    clear hw2 H3
    rcases hcase with m1 | ⟨m1, m2⟩ | ⟨m1, m2, rfl⟩
    all_goals
      go_wp2_with fail
      refine HC.out.mono ?_
      rintro e w7 ⟨rfl, H7⟩
      have HT7 := Lib.hid (HT6.out.act1 H7.out)
      have HK := Lib.hid (known15_any w7)
      clear HC H7 HT6
      go_wp2_with fail
      refine HK.out.mono ?_
      rintro e w8 ⟨rfl, hb⟩
      have HB : Hid (Below w.heap.size w w8) := Lib.hid (below_then HT7.out.one.bel hb)
      clear hb
      go_wp2
      go_ret
      exact ⟨rfl, HB.out⟩
  · rw [hw1] at HC
    have H3 := Lib.hid hw2
    clear HW hw1 hw2
    go_wp2_with fail
    refine HC.out.mono ?_
    rintro e w5 ⟨rfl, q5, rfl⟩
    have HT5 := Lib.hid (HT4.out.drewN q5)
    clear HC HT4
    generalize w4.drewN q5 = w5 at HT5 ⊢
    have HC := HT5.out.one.tick 0 (by omega)
    rw [Bu.tick_nought _ (show (0 : Int) < 1 by omega)] at HC
    have HC := Lib.hid HC
    go_wp2_with fail
    refine HC.out.mono ?_
    rintro e w6 ⟨rfl, H6⟩
    have HT6 := Lib.hid (HT5.out.act1 H6.out)
    clear HC H6 HT5
    have HC := HT6.out.one.take n
    rw [H3.out] at HC
    have HC := Lib.hid HC
    go_wp2_with fail
    refine HC.out.mono ?_
    rintro e w7 ⟨rfl, H7⟩
    have HT7 := Lib.hid (HT6.out.act1 H7.out)
    have HK := Lib.hid (known15_any w7)
    clear HC H7 HT6
    go_wp2_with fail
    refine HK.out.mono ?_
    rintro e w8 ⟨rfl, hb⟩
    have HB : Hid (Below w.heap.size w w8) := Lib.hid (below_then HT7.out.one.bel hb)
    clear hb
    go_wp2
    go_ret
    exact ⟨rfl, HB.out⟩
  · rw [hw1] at HC
    obtain ⟨k1, hk1⟩ : ∃ k1, k1 = k + 1 := ⟨_, rfl⟩
    rw [← hk1] at HC hw4
    have e2 : IntKind.i64.wrap ((k1 : Int) - 1) = (k : Int) := by rw [IntKind.wrap_i64]; omega
    have m1 : 0 < (k1 : Int) := by omega
    have m2 : ¬ (k1 : Int) < 0 := by omega
    have HKK : Hid (k1 ≤ 1000001 ∧ k ≤ 1000000) := Lib.hid (by omega)
    have H3 := Lib.hid hw3
    have H4 := Lib.hid hw4
    clear HW hw1 hw2 hw3 hw4 hk1
    go_wp2_with fail
    refine HC.out.mono ?_
    rintro e w5 ⟨rfl, q5, rfl⟩
    have HT5 := Lib.hid (HT4.out.drewN q5)
    clear HC HT4
    generalize w4.drewN q5 = w5 at HT5 ⊢
    have HC := Lib.hid (HT5.out.two.tick k (by have := HKK.out; omega))
    go_wp2_with fail
    refine HC.out.mono ?_
    rintro e w6 ⟨rfl, H6⟩
    have HT6 := Lib.hid (HT5.out.act2 H6.out)
    clear HC H6 HT5
    have HC := HT6.out.two.take n
    rw [H3.out] at HC
    have HC := Lib.hid HC
    go_wp2_with fail
    refine HC.out.mono ?_
    rintro e w7 ⟨rfl, H7⟩
    have HT7 := Lib.hid (HT6.out.act2 H7.out)
    clear HC H7 HT6
    have HC := Lib.hid (HT7.out.one.tick k1 (by have := HKK.out; omega))
    go_wp2_with fail
    refine HC.out.mono ?_
    rintro e w8 ⟨rfl, H8⟩
    have HT8 := Lib.hid (HT7.out.act1 H8.out)
    clear HC H8 HT7
    have HC := HT8.out.one.take n
    rw [H4.out] at HC
    have HC := Lib.hid HC
    go_wp2_with fail
    refine HC.out.mono ?_
    rintro e w9 ⟨rfl, H9⟩
    have HT9 := Lib.hid (HT8.out.act1 H9.out)
    have HK := Lib.hid (known15_any w9)
    clear HC H9 HT8
    go_wp2_with fail
    refine HK.out.mono ?_
    rintro e w10 ⟨rfl, hb⟩
    have HB : Hid (Below w.heap.size w w10) := Lib.hid (below_then HT9.out.one.bel hb)
    clear hb
    go_wp2
    go_ret
    exact ⟨rfl, HB.out⟩

namespace bucketWaits
set_option maxRecDepth 100000 in
theorem lifted (os : Os) (started : os.Started) (H : Type) (enc : TypeId × Value → H) :
    ReturnsInHanded {} Try.checked os 6 .any (Rows.bucketWaitsSpec.pre6 enc Try.prog Try.f6 Rows.bucketWaitsRow.domain false) (Rows.bucketWaitsSpec.post enc Try.prog Try.f6 false true false false) := by
  refine law_lift started (by kernel_rfl) Try.func6
    (ChangeSpec.witness6 (enc := enc) (C := Try.checked) false ⟨#[], #[.int .i64 0, .int .i64 0, .int .i64 0, .int .i64 0], []⟩ 8 (by kernel_rfl) (by kernel_rfl) (by kernel_rfl) (by kernel_rfl))
    rfl ?_ (by kernel_rfl) (by kernel_rfl) ?_
  · intro ds h
    match ds, h with
    | [_, _, _, _], _ => rfl
  intro W base args ds p g
  have hA := g.trod
  have hval := g.val
  rw [Try.params6] at hA hval
  obtain ⟨v0, vs0, d0, ds0, p0, q0, hargs, rfl, rfl, h0, r0⟩ := trodAll_cons hA
  obtain ⟨v1, vs1, d1, ds1, p1, q1, rfl, rfl, rfl, h1, r1⟩ := trodAll_cons r0
  obtain ⟨v2, vs2, d2, ds2, p2, q2, rfl, rfl, rfl, h2, r2⟩ := trodAll_cons r1
  obtain ⟨v3, vs3, d3, ds3, p3, q3, rfl, rfl, rfl, h3, r3⟩ := trodAll_cons r2
  obtain ⟨rfl, rfl, rfl⟩ := trodAll_nil r3
  obtain rfl : args = #[v0, v1, v2, v3] := by cases args; simp_all
  obtain ⟨a0, rfl, _, _, w0⟩ := open_int Try.underlying3 (hval 0 3 v0 rfl rfl) h0
  have b0 := bounds_i64 w0
  obtain ⟨a1, rfl, _, _, w1⟩ := open_int Try.underlying3 (hval 1 3 v1 rfl rfl) h1
  have b1 := bounds_i64 w1
  obtain ⟨a2, rfl, _, _, w2⟩ := open_int Try.underlying3 (hval 2 3 v2 rfl rfl) h2
  have b2 := bounds_i64 w2
  obtain ⟨a3, rfl, _, _, w3⟩ := open_int Try.underlying3 (hval 3 3 v3 rfl rfl) h3
  have b3 := bounds_i64 w3
  exact bucketWaits_walk a0 a1 a2 a3 W b0.1 b0.2 b1.1 b1.2 b2.1 b2.2 b3.1 b3.2

theorem over : Rows.bucketWaitsRow.holds Try.pinned (OpenSpec.ofChange Rows.bucketWaitsSpec) :=
  OpenClaim.holds_of_wide 6 Try.f6 rfl rfl rfl rfl rfl rfl rfl ⟨rfl, rfl, rfl, rfl, rfl⟩ rfl rfl rfl rfl rfl (by kernel_rfl) Try.func6 (by kernel_rfl)
    (of_decide_eq_true (by kernel_rfl)) (by unfold Func.isWrapper; first | (rw [if_pos (by decide +kernel)]; kernel_rfl) | (rw [if_neg (by decide +kernel)]; exact ⟨rfl, rfl⟩))
    (fun os started H enc _ => lifted os started H enc)
end bucketWaits

theorem BucketWaits_proved : Rows.BucketWaitsSaid := bucketWaits.over
#print axioms BucketWaits_proved
end Go.Proofs.Ytenmopnegedgjaa
