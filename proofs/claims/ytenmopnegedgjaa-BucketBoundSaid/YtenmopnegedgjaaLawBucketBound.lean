/- BucketBound: for every input law15.BucketBound answers true: in any ticks no more is taken than there was at first, and what came; and never is there more than fits. Conditions: none. -/
import Derived.Test.YtenmopnegedgjaaBuO
import Derived.Test.YtenmopnegedgjaaLaw
import Derived.Test.YtenmopnegedgjaaDActs
namespace Go.Proofs.Ytenmopnegedgjaa
open Go.RowKit Go.ChangeShapes Go.WideShapes Go.ChangeAt

/-- Ahead of a round: what was taken, and what came. -/
structure BdS (W w : World) (g : Nat) (u : Bu) (R B tk ti : Nat) : Prop where
  ob : OBu 46 W w g u
  r : u.rate = R
  b : u.burst = B
  sum : u.level + tk ≤ B + R * ti
section
variable {W w w' : World} {g R B tk ti : Nat} {u : Bu}
theorem BdS.tick (h : BdS W w g u R B tk ti) (ha : ActB 46 w g (u.tick 1) w') : BdS W w' g (u.tick 1) R B tk (ti + 1) := by
  refine ⟨h.ob.act ha, by rw [(Bu.tick_rate u 1).1]; exact h.r, by rw [(Bu.tick_rate u 1).2]; exact h.b, ?_⟩
  have h1 := Bu.tick_nat h.ob.pu.ok 1
  have h2 : (u.tick ((1 : Nat) : Int)).level = min u.burst (u.level + 1 * u.rate) := by rw [h1]; rfl
  have h3 := h.sum
  have h4 : R * (ti + 1) = R * ti + R := Nat.mul_succ _ _
  have h5 := h.r
  show (u.tick ((1 : Nat) : Int)).level + tk ≤ _
  omega
theorem BdS.take (h : BdS W w g u R B tk ti) (m : Nat) (hm : 1 ≤ m ∧ m ≤ u.level) (ha : ActB 46 w g (u.take (m : Int)) w') : BdS W w' g (u.take (m : Int)) R B (tk + m) ti := by
  refine ⟨h.ob.act ha, by rw [(Bu.take_rate u _).1]; exact h.r, by rw [(Bu.take_rate u _).2]; exact h.b, ?_⟩
  have h2 : (u.take (m : Int)).level = u.level - m := by
    unfold Bu.take
    rw [if_pos (by omega), Int.toNat_natCast]
    rfl
  have h3 := h.sum
  omega
theorem BdS.same (h : BdS W w g u R B tk ti) (n : Int) (hn : ¬ (1 ≤ n ∧ n ≤ (u.level : Int))) (ha : ActB 46 w g (u.take n) w') : BdS W w' g u R B tk ti := by
  have h2 : u.take n = u := by unfold Bu.take; rw [if_neg hn]
  rw [h2] at ha
  exact ⟨h.ob.act ha, h.r, h.b, h.sum⟩
end
set_option maxRecDepth 100000 in
set_option maxHeartbeats 4000000 in
theorem bucketBound_walk (rate burst : Int) (A : Option Addr) (n c : Nat) (l : List Int) (w : World) (_ : -9223372036854775808 ≤ rate) (_ : rate ≤ 9223372036854775807) (_ : -9223372036854775808 ≤ burst) (_ : burst ≤ 9223372036854775807)
    (hc : n ≤ c) (hm : c ≤ 9223372036854775807) (hr : RdI w w.heap.size A n l) :
    Calls Try.prog 5 #[.int .i64 rate, .int .i64 burst, .slice A n c] w fun e w' => e = .returned (.bool true) ∧ Below w.heap.size w w' := by
  obtain ⟨p, hp1, hp2, hp3, hp4⟩ := mod_fact rate 1000 (by omega) (by omega)
  obtain ⟨q, hq1, hq2, hq3, hq4⟩ := mod_fact burst 1000 (by omega) (by omega)
  have hp2' : (IntKind.u64.wrap rate).tmod 1000 = (p : Int) := hp2
  have hq2' : (IntKind.u64.wrap burst).tmod 1000 = (q : Int) := hq2
  obtain ⟨Q, hQ⟩ : ∃ Q, Q = 1 + q := ⟨_, rfl⟩
  have e1 : IntKind.i64.wrap (1 + (q : Int)) = (Q : Int) := by rw [IntKind.wrap_i64]; omega
  have hrb : rightB (p : Int) (Q : Int) := ⟨by omega, by omega, by omega, by omega⟩
  have HN := Lib.hid (new_any (p : Int) (Q : Int) hrb w)
  obtain ⟨u0, hu⟩ : ∃ u0, u0 = mkB (p : Int) (Q : Int) := ⟨_, rfl⟩
  have HO : Hid (u0.rate = p ∧ u0.burst = Q ∧ u0.level = Q) := Lib.hid (by rw [hu]; exact ⟨by show ((p : Int)).toNat = p; omega, by show ((Q : Int)).toNat = Q; omega, by show ((Q : Int)).toNat = Q; omega⟩)
  rw [← hu] at HN
  have HR := Lib.hid hr
  have HL := Lib.hid hr.1
  have HP : Hid (p < 1000 ∧ 1 ≤ Q ∧ Q ≤ 1000) := Lib.hid (by omega)
  have hn : n ≤ 9223372036854775807 := by omega
  clear hrb hp1 hq1 hu hp2 hq2 hQ hr hc hm
  go_enter Try.func5, Try.ntmps5
  go_wp2_with fail
  refine HN.out.mono ?_
  rintro e w1 ⟨rfl, H1⟩
  obtain ⟨g, hg⟩ : ∃ g, g = w.heap.size := ⟨_, rfl⟩
  have HS1 : Hid (BdS w w1 g u0 p Q 0 0) := Lib.hid (by
    rw [hg]
    have := HO.out
    exact ⟨OBu.of_new H1.out, this.1, this.2.1, by omega⟩)
  rw [← hg]
  clear H1 hg HN HO
  go_wp2_with fail
  go_loopg [9, 10, 11] (min n 200) (fun gk a b d wr => ∃ i tk ti : Nat, a = .int .i64 (tk : Int) ∧ b = .int .i64 (ti : Int) ∧ d = .int .i64 (i : Int) ∧ i + gk = min n 200 ∧ ti ≤ i ∧ ∃ u, Hid (BdS w wr g u p Q tk ti))
  case atStart => exact ⟨0, 0, 0, rfl, rfl, rfl, by omega, by omega, u0, HS1⟩
  case round =>
    obtain ⟨i, tk, ti, rfl, rfl, rfl, hig, hti, u, HI⟩ := hrel
    by_cases hin : i < min n 200
    · have m1 : (i : Int) < (n : Int) := by omega
      have m2 : (i : Int) < 200 := by omega
      have m0 : ¬ (i : Int) < 0 := by omega
      have HIN : Hid (i < min n 200 ∧ ti ≤ i ∧ i + gk = min n 200) := Lib.hid ⟨hin, hti, hig⟩
      have e2 : IntKind.i64.wrap ((i : Int) + 1) = ((i + 1 : Nat) : Int) := by rw [IntKind.wrap_i64]; omega
      have e3 : IntKind.i64.wrap ((ti : Int) + 1) = ((ti + 1 : Nat) : Int) := by rw [IntKind.wrap_i64]; omega
      have hil : i < l.length := by rw [HL.out]; omega
      obtain ⟨b9, o9, rfl, hbl, hcl⟩ := (HR.out.below HI.out.ob.bel).2.2 (by omega)
      have q0 := hcl i hil
      obtain ⟨x, hx⟩ : ∃ x, x = l[i] := ⟨_, rfl⟩
      rw [← hx] at q0
      clear hcl hx hin hti hig hil hbl
      go_upto_if 50 with (fail)
      go_cut [9, 10, 12, 13, 14] from 46 to 77 (fun a b _c _d _e wx => ∃ tk2 ti2 : Nat, a = .int .i64 (tk2 : Int) ∧ b = .int .i64 (ti2 : Int) ∧ ti2 ≤ i + 1 ∧ ∃ u2, Hid (BdS w wx g u2 p Q tk2 ti2))
      case first =>
        by_cases hx0 : x < 0
        · have HC := Lib.hid (HI.out.ob.tick 1 (by omega))
          go_wp2_with fail
          refine HC.out.mono ?_
          rintro e w2 ⟨rfl, H2⟩
          have HI2 := Lib.hid (HI.out.tick H2.out)
          clear HC H2 HI
          go_wp2
          go_meet
          exact ⟨tk, ti + 1, rfl, by go_num, by have := HIN.out; omega, _, HI2⟩
        · obtain ⟨X, rfl⟩ := Int.eq_ofNat_of_zero_le (show 0 ≤ x by omega)
          obtain ⟨m, hm⟩ : ∃ m, m = X % 1200 := ⟨_, rfl⟩
          have hm2 : m < 1200 := by omega
          have e4 : (X : Int) % 1200 = (m : Int) := by omega
          have e5 : IntKind.i64.wrap (m : Int) = (m : Int) := by rw [IntKind.wrap_i64]; omega
          have HTK : Hid (tk ≤ 1000 + 1000 * 200) := Lib.hid (by
            have h1 := HI.out.sum
            have h2 := HP.out
            have h3 := HIN.out
            have h4 : p * ti ≤ 1000 * 200 := Nat.mul_le_mul (by omega) (by omega)
            omega)
          have e6 : IntKind.i64.wrap ((tk : Int) + (m : Int)) = ((tk + m : Nat) : Int) := by
            have := HTK.out
            rw [IntKind.wrap_i64]; omega
          have HC1 := Lib.hid HI.out.ob.level
          have HC2 := Lib.hid (HI.out.ob.take m)
          have hx1 : ¬ (X : Int) < 0 := by omega
          clear hm hx0
          by_cases hh : 1 ≤ m ∧ m ≤ u.level
          · have hb : u.has m = true := by unfold Bu.has; simp; omega
            rw [hb] at HC2
            have HHH := Lib.hid hh
            have k1 : 1 ≤ (m : Int) := by omega
            have k2 : m ≤ u.level := hh.2
            clear hb hh hm2
            go_wp2_with fail
            refine HC1.out.mono ?_
            rintro e w2 ⟨rfl, hw⟩
            rw [hw]
            clear hw HC1
            go_wp2_with fail
            refine HC2.out.mono ?_
            rintro e w3 ⟨rfl, H3⟩
            have HI3 := Lib.hid (HI.out.take m HHH.out H3.out)
            clear HC2 H3 HI
            go_wp2
            go_meet
            exact ⟨tk + m, ti, by go_num, rfl, by have := HIN.out; omega, _, HI3⟩
          · have hb : u.has m = false := by unfold Bu.has; simp; omega
            rw [hb] at HC2
            have HHH : Hid (¬ (1 ≤ (m : Int) ∧ (m : Int) ≤ (u.level : Int))) := Lib.hid (by omega)
            have hcase : (m : Int) < 1 ∨ (¬ (m : Int) < 1 ∧ u.level < m) := by omega
            clear hb hh hm2
            rcases hcase with k1 | ⟨k1, k2⟩
            all_goals
              go_wp2_with fail
              refine HC1.out.mono ?_
              rintro e w2 ⟨rfl, hw⟩
              rw [hw]
              clear hw HC1
              go_wp2_with fail
              refine HC2.out.mono ?_
              rintro e w3 ⟨rfl, H3⟩
              have HI3 := Lib.hid (HI.out.same m HHH.out H3.out)
              clear HC2 H3 HI
              go_wp2
              go_meet
              exact ⟨tk, ti, rfl, rfl, by have := HIN.out; omega, _, HI3⟩
      case rest =>
        obtain ⟨tk2, ti2, rfl, rfl, hti2, u2, HI2⟩ := hcut
        have HTI := Lib.hid hti2
        clear HI q0
        obtain ⟨L, hL⟩ : ∃ L, L = u2.level := ⟨_, rfl⟩
        have HC1 := Lib.hid HI2.out.ob.level
        rw [← hL] at HC1
        obtain ⟨Z, hZ⟩ : ∃ Z, Z = p * ti2 := ⟨_, rfl⟩
        have hZ2 : Z ≤ 1000 * 201 := by
          rw [hZ]
          have := HP.out
          have := HIN.out
          exact Nat.mul_le_mul (by omega) (by omega)
        have e7 : IntKind.i64.wrap ((p : Int) * (ti2 : Int)) = (Z : Int) := by rw [← Int.natCast_mul, ← hZ, IntKind.wrap_i64]; omega
        obtain ⟨Y, hY⟩ : ∃ Y, Y = Q + Z := ⟨_, rfl⟩
        have e8 : IntKind.i64.wrap ((Q : Int) + (Z : Int)) = (Y : Int) := by
          have := HP.out
          rw [IntKind.wrap_i64]; omega
        have k1 : ¬ Q < L := by
          have h1 := HI2.out.ob.pu.ok.l
          have h2 := HI2.out.b
          omega
        have k2 : ¬ Y < tk2 := by
          have h1 := HI2.out.sum
          omega
        have k3 : ¬ (L : Int) < 0 := by omega
        clear hL hZ hZ2 hY hti2
        go_wp2_with fail
        refine HC1.out.mono ?_
        rintro e w2 ⟨rfl, hw⟩
        rw [hw]
        clear hw
        go_wp2_with fail
        refine HC1.out.mono ?_
        rintro e w2 ⟨rfl, hw⟩
        rw [hw]
        clear hw HC1
        go_wp2
        go_roundg (gk - 1)
        case measure => have := HIN.out; omega
        case rel => exact ⟨i + 1, tk2, ti2, by go_num, by go_num, by go_num, by have := HIN.out; omega, HTI.out, u2, HI2⟩
    · have HK := Lib.hid (known15_any wr)
      have hcase : (¬ (i : Int) < (n : Int)) ∨ ((i : Int) < (n : Int) ∧ ¬ (i : Int) < 200) := by omega
      clear hin hig hti
      rcases hcase with m1 | ⟨m1, m4⟩
      all_goals
        go_wp2_with fail
        refine HK.out.mono ?_
        rintro e w5 ⟨rfl, hb⟩
        have HB : Hid (Below w.heap.size w w5) := Lib.hid (below_then HI.out.ob.bel hb)
        clear hb
        go_wp2
        go_ret
        exact ⟨rfl, HB.out⟩

namespace bucketBound
set_option maxRecDepth 100000 in
theorem lifted (os : Os) (started : os.Started) (H : Type) (enc : TypeId × Value → H) :
    ReturnsInHanded {} Try.checked os 5 .any (Rows.bucketBoundSpec.pre6 enc Try.prog Try.f5 Rows.bucketBoundRow.domain false) (Rows.bucketBoundSpec.post enc Try.prog Try.f5 false true false false) := by
  refine law_lift started (by kernel_rfl) Try.func5
    (ChangeSpec.witness6 (enc := enc) (C := Try.checked) false ⟨#[], #[.int .i64 0, .int .i64 0, .slice none 0 0], []⟩ 8 (by kernel_rfl) (by kernel_rfl) (by kernel_rfl) (by kernel_rfl))
    rfl ?_ (by kernel_rfl) (by kernel_rfl) ?_
  · intro ds h
    match ds, h with
    | [_, _, _], _ => rfl
  intro W base args ds p g
  have hA := g.trod
  have hval := g.val
  rw [Try.params5] at hA hval
  obtain ⟨v0, vs0, d0, ds0, p0, q0, hargs, rfl, rfl, h0, r0⟩ := trodAll_cons hA
  obtain ⟨v1, vs1, d1, ds1, p1, q1, rfl, rfl, rfl, h1, r1⟩ := trodAll_cons r0
  obtain ⟨v2, vs2, d2, ds2, p2, q2, rfl, rfl, rfl, h2, r2⟩ := trodAll_cons r1
  obtain ⟨rfl, rfl, rfl⟩ := trodAll_nil r2
  obtain rfl : args = #[v0, v1, v2] := by cases args; simp_all
  obtain ⟨a0, rfl, _, _, w0⟩ := open_int Try.underlying3 (hval 0 3 v0 rfl rfl) h0
  have b0 := bounds_i64 w0
  obtain ⟨a1, rfl, _, _, w1⟩ := open_int Try.underlying3 (hval 1 3 v1 rfl rfl) h1
  have b1 := bounds_i64 w1
  obtain ⟨A2, n2, c2, l2, rfl, hc2, hm2, hr2⟩ := given_ints (hval 2 22 v2 rfl rfl) h2
  exact bucketBound_walk a0 a1 A2 n2 c2 l2 W b0.1 b0.2 b1.1 b1.2 hc2 hm2 hr2

theorem over : Rows.bucketBoundRow.holds Try.pinned (OpenSpec.ofChange Rows.bucketBoundSpec) :=
  OpenClaim.holds_of_wide 5 Try.f5 rfl rfl rfl rfl rfl rfl rfl ⟨rfl, rfl, rfl, rfl, rfl⟩ rfl rfl rfl rfl rfl (by kernel_rfl) Try.func5 (by kernel_rfl)
    (of_decide_eq_true (by kernel_rfl)) (by unfold Func.isWrapper; first | (rw [if_pos (by decide +kernel)]; kernel_rfl) | (rw [if_neg (by decide +kernel)]; exact ⟨rfl, rfl⟩))
    (fun os started H enc _ => lifted os started H enc)
end bucketBound

theorem BucketBound_proved : Rows.BucketBoundSaid := bucketBound.over
#print axioms BucketBound_proved
end Go.Proofs.Ytenmopnegedgjaa
