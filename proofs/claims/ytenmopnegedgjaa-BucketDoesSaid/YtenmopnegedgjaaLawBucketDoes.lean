/- BucketDoes: for every input law15.BucketDoes answers true: whatever is taken, tick by tick: each answer, what there is, and how long to wait, are what the chapter says. Conditions: none. -/
import Derived.Test.YtenmopnegedgjaaBuO
import Derived.Test.YtenmopnegedgjaaBuE
import Derived.Test.YtenmopnegedgjaaLaw
import Derived.Test.YtenmopnegedgjaaDActs
namespace Go.Proofs.Ytenmopnegedgjaa
open Go.RowKit Go.ChangeShapes Go.WideShapes Go.ChangeAt

/-- The program's bucket and the document's: the same one. -/
structure TwoD (W w : World) (g g2 : Nat) (u : Bu) : Prop where
  one : OBu 46 W w g u
  two : OBu 35 W w g2 u
  ne : g ≠ g2
section
variable {W w w' w2 : World} {g g2 : Nat} {u u' : Bu}
theorem TwoD.drewN (h : TwoD W w g g2 u) (q : Nat) : TwoD W (w.drewN q) g g2 u := ⟨h.one.drewN q, h.two.drewN q, h.ne⟩
/-- Both have turned alike. -/
theorem TwoD.act (h : TwoD W w g g2 u) (ha : ActB 46 w g u' w') : OBu 46 W w' g u' ∧ OBu 35 W w' g2 u := ⟨h.one.act ha, h.two.other ha (fun e => h.ne e.symm) h.one.ge⟩
theorem TwoD.of (h1 : OBu 46 W w' g u') (h2 : OBu 35 W w' g2 u) (hne : g ≠ g2) (ha : ActB 35 w' g2 u' w2) : TwoD W w2 g g2 u' := ⟨h1.other ha hne h2.ge, h2.act ha, hne⟩
end
set_option maxRecDepth 100000 in
set_option maxHeartbeats 4000000 in
theorem bucketDoes_walk (rate burst : Int) (A : Option Addr) (n c : Nat) (l : List Int) (N : Int) (w : World) (_ : -9223372036854775808 ≤ rate) (_ : rate ≤ 9223372036854775807) (_ : -9223372036854775808 ≤ burst) (_ : burst ≤ 9223372036854775807)
    (hc : n ≤ c) (hm : c ≤ 9223372036854775807) (hr : RdI w w.heap.size A n l) (_ : -9223372036854775808 ≤ N) (_ : N ≤ 9223372036854775807) :
    Calls Try.prog 3 #[.int .i64 rate, .int .i64 burst, .slice A n c, .int .i64 N] w fun e w' => e = .returned (.bool true) ∧ Below w.heap.size w w' := by
  by_cases hrb : rightB rate burst
  · have HN := Lib.hid (new_any rate burst hrb w)
    have HN2 := Lib.hid fun W => rnew_any rate burst hrb W
    obtain ⟨u0, hu⟩ : ∃ u0, u0 = mkB rate burst := ⟨_, rfl⟩
    rw [← hu] at HN HN2
    have HR := Lib.hid hr
    have HL := Lib.hid hr.1
    have hn : n ≤ 9223372036854775807 := by omega
    clear hrb hu hr hc hm
    go_enter Try.func3, Try.ntmps3
    go_wp2_with fail
    refine HN.out.mono ?_
    rintro e w1 ⟨rfl, H1⟩
    obtain ⟨g, hg⟩ : ∃ g, g = w.heap.size := ⟨_, rfl⟩
    have HS1 : Hid (OBu 46 w w1 g u0) := Lib.hid (by rw [hg]; exact OBu.of_new H1.out)
    rw [← hg]
    clear H1 hg HN
    go_wp2_with fail
    refine (HN2.out _).mono ?_
    rintro e w2 ⟨rfl, H2⟩
    obtain ⟨g2, hg2⟩ : ∃ g2, g2 = w1.heap.size := ⟨_, rfl⟩
    have HT : Hid (TwoD w w2 g g2 u0) := Lib.hid (by
      have h1 := HS1.out
      have h2 := H2.out
      have h3 := h1.pu.hd.lt
      rw [hg2]
      exact ⟨h1.below h2.2, OBu.of_new2 h1.bel h2, by omega⟩)
    rw [← hg2]
    clear H2 hg2 HS1 HN2
    go_wp2_with fail
    go_loopg [13] (min n 100) (fun gk d wr => ∃ i : Nat, d = .int .i64 (i : Int) ∧ i + gk = min n 100 ∧ ∃ u, Hid (TwoD w wr g g2 u))
    case atStart => exact ⟨0, rfl, by omega, u0, HT⟩
    case round =>
      obtain ⟨i, rfl, hig, u, HI⟩ := hrel
      by_cases hin : i < min n 100
      · have m1 : (i : Int) < (n : Int) := by omega
        have m2 : (i : Int) < 100 := by omega
        have m0 : ¬ (i : Int) < 0 := by omega
        have HIN : Hid (i < min n 100 ∧ i + gk = min n 100) := Lib.hid ⟨hin, hig⟩
        have e2 : IntKind.i64.wrap ((i : Int) + 1) = ((i + 1 : Nat) : Int) := by rw [IntKind.wrap_i64]; omega
        have hil : i < l.length := by rw [HL.out]; omega
        have hbd := HR.out.2.1 l[i] (List.getElem_mem hil)
        obtain ⟨b9, o9, rfl, hbl, hcl⟩ := (HR.out.below HI.out.one.bel).2.2 (by omega)
        have q0 := hcl i hil
        obtain ⟨x, hx⟩ : ∃ x, x = l[i] := ⟨_, rfl⟩
        rw [← hx] at q0 hbd
        have HX := Lib.hid hbd
        have HHX : Hid (∃ h : i < l.length, x = l[i]) := Lib.hid ⟨hil, hx⟩
        clear hcl hbd hin hig hbl hx hil
        go_upto_if 61 with (fail)
        go_cut [14, 15, 16] from 57 to 88 (fun _c _d _e wx => ∃ u2, Hid (TwoD w wx g g2 u2))
        case first =>
          by_cases hx0 : x < 0
          · obtain ⟨t, ht⟩ : ∃ t, t = -(x + 1) := ⟨_, rfl⟩
            have e3 : IntKind.i64.wrap (x + 1) = x + 1 := by
              have := HX.out
              rw [IntKind.wrap_i64]; omega
            have e4 : IntKind.i64.wrap (-(x + 1)) = t := by
              have := HX.out
              rw [IntKind.wrap_i64]; omega
            have HC1 := Lib.hid (HI.out.one.tick t (by have := HX.out; omega))
            clear ht
            go_wp2_with fail
            refine HC1.out.mono ?_
            rintro e w3 ⟨rfl, H3⟩
            have HI3 := Lib.hid (HI.out.act H3.out)
            clear HC1 H3
            have HC2 := Lib.hid (rtick_any HI3.out.2.pu t)
            go_wp2_with fail
            refine HC2.out.mono ?_
            rintro e w4 ⟨rfl, H4⟩
            have HI4 := Lib.hid (TwoD.of HI3.out.1 HI3.out.2 HI.out.ne H4.out)
            clear HC2 H4 HI3
            go_wp2
            go_meet
            exact ⟨_, HI4⟩
          · have HC1 := Lib.hid (HI.out.one.take x)
            have q1 : ∀ W', Kp (fun k => k = g) wr W' → W'.cell? ⟨b9, o9 + i, none⟩ = some (.int .i64 x) := fun W' hk => cell_kp q0 hk (fun e => by
              have h1 := HI.out.one.ge
              have h2 := (HR.out.2.2 (by have := HIN.out; omega))
              obtain ⟨b8, o8, h3, h4, h5⟩ := h2
              injection h3 with h3
              injection h3 with h3
              simp only at e
              omega)
            have HQ1 := Lib.hid q1
            clear q1
            go_wp2_with fail
            refine HC1.out.mono ?_
            rintro e w3 ⟨rfl, H3⟩
            have HI3 := Lib.hid (HI.out.act H3.out)
            have q2 := HQ1.out w3 H3.out.2
            clear HC1 H3 HQ1
            have HC2 := Lib.hid (rtake_any HI3.out.2.pu x)
            generalize u.has x = b0 at HC2 ⊢
            have hbb : (b0 != b0) = false := by simp
            go_wp2_with fail
            refine HC2.out.mono ?_
            rintro e w4 ⟨rfl, H4⟩
            have HI4 := Lib.hid (TwoD.of HI3.out.1 HI3.out.2 HI.out.ne H4.out)
            clear HC2 H4 HI3
            go_wp2
            go_meet
            exact ⟨_, HI4⟩
        case rest =>
          obtain ⟨u2, HI2⟩ := hcut
          have c2 := HI2.out.two.pu.c2
          have HQ1 := Lib.hid fun q => (HI2.out.drewN q).one.level
          have HQ2 := Lib.hid fun q => (HI2.out.drewN q).one.wait x
          have HQ3 := Lib.hid fun q => rwait_any (HI2.out.drewN q).two.pu x
          have HQ4 := Lib.hid fun q => (HI2.out.drewN q).one.wait N
          have HQ5 := Lib.hid fun q => rwait_any (HI2.out.drewN q).two.pu N
          obtain ⟨b8, o8, h3, h4, h5⟩ := (HR.out.below HI2.out.one.bel).2.2 (by have := HIN.out; omega)
          obtain ⟨hil, hx⟩ := HHX.out
          have q3 := h5 i hil
          injection h3 with h3
          injection h3 with h3 h6
          subst h3
          subst h6
          rw [← hx] at q3
          generalize u2.level = L at c2 HQ1
          generalize u2.wait x = z at HQ2 HQ3
          generalize u2.wait N = y at HQ4 HQ5
          have k1 : ((L : Int) != (L : Int)) = false := by simp
          have k2 : (z != z) = false := by simp
          have k3 : (y != y) = false := by simp
          clear HI q0 h4 h5 hx hil
          by_cases i0 : i = 0
          · subst i0
            have q4 : wc.cell? ⟨b9, o9, none⟩ = some (.int .i64 x) := q3
            have m5 : 0 < n := by omega
            have m6 : (0 : Int) < (n : Int) := by omega
            have m7 : ¬ n = 0 := by omega
            go_wp2_with fail
            go_quiet ((first
              | (go_at_call 16; exact Calls.quiet_of_same (HQ1.out _))
              | (go_at_call 17; with_reducible exact Calls.quiet_of (HQ2.out _))
              | (go_at_call 18; with_reducible exact Calls.quiet_of (HQ3.out _))
              | (go_at_call 17; with_reducible exact Calls.quiet_of (HQ4.out _))
              | (go_at_call 18; with_reducible exact Calls.quiet_of (HQ5.out _))))
            have HI5 := Lib.hid (HI2.out.drewN nq)
            clear HQ1 HQ2 HQ3 HQ4 HQ5
            go_wp2
            go_roundg (gk - 1)
            case measure => have := HIN.out; omega
            case rel => exact ⟨0 + 1, by go_num, by have := HIN.out; omega, u2, HI5⟩
          · have k5 : ¬ (i : Int) = 0 := by omega
            go_wp2_with fail
            go_quiet ((first
              | (go_at_call 16; exact Calls.quiet_of_same (HQ1.out _))
              | (go_at_call 17; with_reducible exact Calls.quiet_of (HQ2.out _))
              | (go_at_call 18; with_reducible exact Calls.quiet_of (HQ3.out _))))
            have HI5 := Lib.hid (HI2.out.drewN nq)
            clear HQ1 HQ2 HQ3 HQ4 HQ5
            go_wp2
            go_roundg (gk - 1)
            case measure => have := HIN.out; omega
            case rel => exact ⟨i + 1, by go_num, by have := HIN.out; omega, u2, HI5⟩
      · have HK := Lib.hid (known15_any wr)
        have hcase : (¬ (i : Int) < (n : Int)) ∨ ((i : Int) < (n : Int) ∧ ¬ (i : Int) < 100) := by omega
        clear hin hig
        rcases hcase with m1 | ⟨m1, m4⟩
        all_goals
          go_wp2_with fail
          refine HK.out.mono ?_
          rintro e w5 ⟨rfl, hb⟩
          have HB : Hid (Below w.heap.size w w5) := Lib.hid (below_then HI.out.one.bel hb)
          clear hb
          go_wp2
          go_ret
          exact ⟨rfl, HB.out⟩
  · have HN := Lib.hid (new_bad rate burst hrb w)
    have HN2 := Lib.hid fun W => rnew_bad rate burst hrb W
    have HK := Lib.hid (known15_any w)
    clear hrb hr
    go_enter Try.func3, Try.ntmps3
    go_wp2_with fail
    refine HN.out.mono ?_
    rintro e w1 ⟨rfl, hw⟩
    rw [hw]
    clear hw
    go_wp2_with fail
    refine (HN2.out _).mono ?_
    rintro e w2 ⟨rfl, hw⟩
    rw [hw]
    clear hw
    go_wp2_with fail
    refine HK.out.mono ?_
    rintro e w12 ⟨rfl, hb⟩
    have HB := Lib.hid hb
    clear hb
    go_wp2
    go_ret
    exact ⟨rfl, HB.out⟩

namespace bucketDoes
set_option maxRecDepth 100000 in
theorem lifted (os : Os) (started : os.Started) (H : Type) (enc : TypeId × Value → H) :
    ReturnsInHanded {} Try.checked os 3 .any (Rows.bucketDoesSpec.pre6 enc Try.prog Try.f3 Rows.bucketDoesRow.domain false) (Rows.bucketDoesSpec.post enc Try.prog Try.f3 false true false false) := by
  refine law_lift started (by kernel_rfl) Try.func3
    (ChangeSpec.witness6 (enc := enc) (C := Try.checked) false ⟨#[], #[.int .i64 0, .int .i64 0, .slice none 0 0, .int .i64 0], []⟩ 8 (by kernel_rfl) (by kernel_rfl) (by kernel_rfl) (by kernel_rfl))
    rfl ?_ (by kernel_rfl) (by kernel_rfl) ?_
  · intro ds h
    match ds, h with
    | [_, _, _, _], _ => rfl
  intro W base args ds p g
  have hA := g.trod
  have hval := g.val
  rw [Try.params3] at hA hval
  obtain ⟨v0, vs0, d0, ds0, p0, q0, hargs, rfl, rfl, h0, r0⟩ := trodAll_cons hA
  obtain ⟨v1, vs1, d1, ds1, p1, q1, rfl, rfl, rfl, h1, r1⟩ := trodAll_cons r0
  obtain ⟨v2, vs2, d2, ds2, p2, q2, rfl, rfl, rfl, h2, r2⟩ := trodAll_cons r1
  obtain ⟨v3, vs3, d3, ds3, p3, q3, rfl, rfl, rfl, h3, r3⟩ := trodAll_cons r2
  obtain ⟨rfl, rfl, rfl⟩ := trodAll_nil r3
  obtain rfl : args = #[v0, v1, v2, v3] := by cases args; simp_all
  obtain ⟨a0, rfl, _, _, w0⟩ := open_int Try.underlying3 (hval 0 3 v0 rfl rfl) h0
  have b0 := bounds_i64 w0
  obtain ⟨a1, rfl, _, _, w1⟩ := open_int Try.underlying3 (hval 1 3 v1 rfl rfl) h1
  have b1 := bounds_i64 w1
  obtain ⟨A2, n2, c2, l2, rfl, hc2, hm2, hr2⟩ := given_ints (hval 2 22 v2 rfl rfl) h2
  obtain ⟨a3, rfl, _, _, w3⟩ := open_int Try.underlying3 (hval 3 3 v3 rfl rfl) h3
  have b3 := bounds_i64 w3
  exact bucketDoes_walk a0 a1 A2 n2 c2 l2 a3 W b0.1 b0.2 b1.1 b1.2 hc2 hm2 hr2 b3.1 b3.2

theorem over : Rows.bucketDoesRow.holds Try.pinned (OpenSpec.ofChange Rows.bucketDoesSpec) :=
  OpenClaim.holds_of_wide 3 Try.f3 rfl rfl rfl rfl rfl rfl rfl ⟨rfl, rfl, rfl, rfl, rfl⟩ rfl rfl rfl rfl rfl (by kernel_rfl) Try.func3 (by kernel_rfl)
    (of_decide_eq_true (by kernel_rfl)) (by unfold Func.isWrapper; first | (rw [if_pos (by decide +kernel)]; kernel_rfl) | (rw [if_neg (by decide +kernel)]; exact ⟨rfl, rfl⟩))
    (fun os started H enc _ => lifted os started H enc)
end bucketDoes

theorem BucketDoes_proved : Rows.BucketDoesSaid := bucketDoes.over
#print axioms BucketDoes_proved
end Go.Proofs.Ytenmopnegedgjaa
