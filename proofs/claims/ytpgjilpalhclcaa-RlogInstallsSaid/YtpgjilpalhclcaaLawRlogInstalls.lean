/- RlogInstalls: behind an Install what is applied goes on right behind it; an elder one changes nothing. -/
import Derived.Test.YtpgjilpalhclcaaRlIn
namespace Go.Proofs.Ytpgjilpalhclcaa
open Go.ChangeShapes Go.WideShapes Go.ChangeAt Go.RowKit

set_option maxRecDepth 100000 in
set_option maxHeartbeats 8000000 in
theorem rlogInstalls_walk (A : Option Addr) (n c : Nat) (f : Nat → Gl) (u : Nat) (B : Option Addr) (m d : Nat) (f2 : Nat → Gl) (W : World) (hc1 : n ≤ c) (hc2 : c ≤ 9223372036854775807) (hA : As12 W W.heap.size A n f) (_hu : u < 18446744073709551616) (hd1 : m ≤ d) (hd2 : d ≤ 9223372036854775807) (hB : As12 W W.heap.size B m f2) :
    Calls Try.prog 8 #[.slice A n c, .int .u64 (u : Int), .slice B m d] W fun e W' => e = .returned (.bool true) ∧ Below W.heap.size W W' := by
  have HL := Lib.hid (long12_any hA ⟨hc1, hc2⟩)
  have HL2 := Lib.hid (long12_any hB ⟨hd1, hd2⟩)
  have HKn := Lib.hid (fun w => known12_any w)
  have HN := Lib.hid (ol_new W)
  have HAc : Hid (∀ w, Below W.heap.size W w → ∀ k, k < n → ∃ b o, A = some ⟨b, o, none⟩ ∧ w.cell? ⟨b, o + k * 3, none⟩ = some (.int .i64 (f k).kind) ∧ w.cell? ⟨b, o + k * 3 + 1, none⟩ = some (.int .u64 ((f k).slot : Int)) ∧ w.cell? ⟨b, o + k * 3 + 2, none⟩ = some (.slice (f k).A (f k).n (f k).c) ∧ Rd w W.heap.size (f k).A (f k).n (f k).val) := Lib.hid fun w hb k hk => by
    obtain ⟨b, o, e, _, hi⟩ := (hA.below hb) (by omega)
    obtain ⟨q0, q1, q2, q3⟩ := hi k hk
    exact ⟨b, o, e, q1, q2, q3, q0.body⟩
  have HBc : Hid (∀ w, Below W.heap.size W w → ∀ k, k < m → ∃ b o, B = some ⟨b, o, none⟩ ∧ w.cell? ⟨b, o + k * 3 + 1, none⟩ = some (.int .u64 ((f2 k).slot : Int)) ∧ w.cell? ⟨b, o + k * 3 + 2, none⟩ = some (.slice (f2 k).A (f2 k).n (f2 k).c) ∧ Rd w W.heap.size (f2 k).A (f2 k).n (f2 k).val) := Lib.hid fun w hb k hk => by
    obtain ⟨b, o, e, _, hi⟩ := (hB.below hb) (by omega)
    obtain ⟨q0, q1, q2, q3⟩ := hi k hk
    exact ⟨b, o, e, q2, q3, q0.body⟩
  clear hA hB
  go_enter Try.func8, Try.ntmps8
  go_wp2_with fail
  refine HL.out.mono ?_
  rintro e w1 ⟨lb, rfl, rfl, hlong⟩
  cases lb with
  | true =>
    go_wp2_with fail
    refine (HKn.out _).mono ?_
    rintro e w4 ⟨rfl, hb4⟩
    go_wp2
    go_ret
    exact ⟨rfl, hb4⟩
  | false =>
  have Hlong := Lib.hid (hlong rfl)
  clear hlong
  go_wp2_with fail
  refine HL2.out.mono ?_
  rintro e w1 ⟨lb2, rfl, rfl, hlong2⟩
  cases lb2 with
  | true =>
    go_wp2_with fail
    refine (HKn.out _).mono ?_
    rintro e w4 ⟨rfl, hb4⟩
    go_wp2
    go_ret
    exact ⟨rfl, hb4⟩
  | false =>
  have Hlong2 := Lib.hid (hlong2 rfl)
  clear hlong2 HL HL2
  go_wp2_with fail
  refine HN.out.mono ?_
  rintro e w2 ⟨g, F, rfl, HO⟩
  have HS0 : Hid (HoL W g w2) := Lib.hid ⟨F, _, HO.out, Sm.new (by decide)⟩
  clear HO HN
  go_upto_block 0 with (fail)
  go_cut [8] from 27 (fun _u wx => Hid (HoL W g wx))
  case first =>
    go_wp2
    go_loopg [8] n (fun gk a wr => ∃ i : Nat, a = .int .i64 (i : Int) ∧ i + gk = n ∧ i ≤ 60 ∧ Hid (HoL W g wr))
    case atStart => exact ⟨0, rfl, by omega, by omega, HS0⟩
    case round =>
      obtain ⟨i, rfl, hig, hi100, HS⟩ := hrel
      by_cases hlt : i < n ∧ i < 60
      · obtain ⟨hin, hi1⟩ := hlt
        have m1 : (i : Int) < (n : Int) := by omega
        have m2 : (i : Int) < 60 := by omega
        have m0 : ¬ (i : Int) < 0 := by omega
        have e5 : IntKind.i64.wrap ((i : Int) + 1) = ((i + 1 : Nat) : Int) := by rw [IntKind.wrap_i64]; omega
        obtain ⟨b, o, rfl, a0, a1, a2, hrd⟩ := HAc.out wr HS.out.bel i hin
        have hvl : (f i).n ≤ 1000 := Hlong.out i hin (by omega)
        obtain ⟨kd, hkd⟩ : ∃ kd, kd = (f i).kind := ⟨_, rfl⟩
        obtain ⟨sl, hsl⟩ : ∃ sl, sl = (f i).slot := ⟨_, rfl⟩
        rw [← hkd] at a0
        rw [← hsl] at a1
        generalize (f i).A = vA at *
        generalize (f i).n = vn at *
        generalize (f i).c = vc at *
        generalize (f i).val = vl at *
        obtain ⟨S, hS⟩ : ∃ S, S = sl % 30 := ⟨_, rfl⟩
        have hS60 : S < 30 := by rw [hS]; exact Nat.mod_lt _ (by decide)
        obtain ⟨r1, r2, r3⟩ := rem_u64 sl 30 (by decide) (by decide)
        rw [← hS] at r1 r2 r3
        have r1 : (sl : Int).tmod 30 = (S : Int) := r1
        have r2 : (sl : Int) % 30 = (S : Int) := r2
        have HLe : Hid (∀ w', Below wr.heap.size wr w' → Calls Try.prog 24 #[.pointer (some ⟨g, 0, none⟩), .int .u64 (S : Int), .slice vA vn vc] w' fun e w' => (∃ r, e = .returned (.int .i64 r)) ∧ Hid (HoL W g w')) := Lib.hid fun w' hb => (HS.out.below hb).learn S (by omega) vc (hrd.below (hb.mono HS.out.bel.size)) hvl
        clear hrd hkd hsl hS hvl
        by_cases hk3 : kd ≤ 3
        · go_wp2_with fail
          go_upto_region 10 with (fail)
          go_region_law (go_simp; go_at_call 24; (refine (HLe.out _ (by (repeat' (first | assumption | exact Below.refl _ _ | apply Below.drew | exact bel_drewN (Below.refl _ _) _)))).mono ?_); rintro e w5 ⟨⟨r, rfl⟩, HS5⟩)
          all_goals
            go_wp2
            go_roundg (gk - 1)
            case measure => omega
            case rel => exact ⟨i + 1, by go_num, by omega, by omega, HS5⟩
        · have HAp := Lib.hid HS.out.apply
          go_wp2_with fail
          refine HAp.out.mono ?_
          rintro e w5 ⟨⟨x, bq, rfl⟩, HS5⟩
          go_wp2
          go_roundg (gk - 1)
          case measure => omega
          case rel => exact ⟨i + 1, by go_num, by omega, by omega, HS5⟩
      · have hlt' : ¬ i < n ∨ (i < n ∧ ¬ i < 60) := by omega
        clear hlt
        rcases hlt' with h | ⟨h, h'⟩
        · have m1 : ¬ (i : Int) < (n : Int) := by omega
          go_wp2_with fail
          go_meet
          exact HS
        · have m1 : (i : Int) < (n : Int) := by omega
          have m2 : ¬ (i : Int) < 60 := by omega
          go_wp2_with fail
          go_meet
          exact HS
  case rest =>
  obtain ⟨U, hUe⟩ : ∃ U, U = u % 40 := ⟨_, rfl⟩
  have hU : U < 40 := by rw [hUe]; exact Nat.mod_lt _ (by decide)
  obtain ⟨r1, r2, r3⟩ := rem_u64 u 40 (by decide) (by decide)
  rw [← hUe] at r1 r2 r3
  have r1 : (u : Int).tmod 40 = (U : Int) := r1
  have r2 : (u : Int) % 40 = (U : Int) := r2
  obtain ⟨was, AT, ok, hw60, hok, hat, HWas, HIn⟩ := HoL.inst hcut.out hU
  have HO0 := hcut
  clear hcut HS0 HAc Hlong hUe
  go_wp2_with fail
  refine HWas.out.mono ?_
  clear HWas
  rintro e w3 ⟨rfl, rfl⟩
  go_wp2_with fail
  refine HIn.out.mono ?_
  clear HIn
  rintro e w4 ⟨rfl, HIn2⟩
  have hokb : decide (was < U) = ok := by
    cases ok with
    | true => rw [decide_eq_true_iff]; exact hok.1 rfl
    | false => rw [decide_eq_false_iff_not]; intro h; have := hok.2 h; cases this
  have hokI : decide ((was : Int) < (U : Int)) = ok := by rw [← hokb]; simp
  have hm1 : AT < 60 := by omega
  have hmax : (if was < U then (U : Int) else (was : Int)) = (AT : Int) := by
    split <;> omega
  have Hokb := Lib.hid hokb
  have HU := Lib.hid (show AT = max was U from hat)
  have hbb : (ok != ok) = false := by cases ok <;> rfl
  clear hok hat
  go_wp2_with fail
  refine HIn2.out.mono ?_
  clear HIn2
  rintro e w5 ⟨rfl, HAt, HCa, HI⟩
  go_upto_region 18 with (fail)
  go_cut [91] (fun cv wx => cv = .bool false ∧ Hid (HoI W g AT U ok wx))
  case first =>
    go_wp2_with fail
    refine HAt.out.mono ?_
    rintro e w6 ⟨rfl, rfl⟩
    cases ok with
    | false =>
      go_wp2_with fail
      go_meet
      exact ⟨rfl, HI⟩
    | true =>
      have HC2 := Lib.hid (HCa.out rfl)
      clear HCa
      go_wp2_with fail
      refine HC2.out.mono ?_
      rintro e w6 ⟨A6, c6, rfl, HI6⟩
      go_wp2_with fail
      go_meet
      exact ⟨rfl, HI6⟩
  case rest =>
  obtain ⟨rfl, HI8⟩ := hcut
  clear HAt HCa HI hmax hokI hokb hbb
  go_upto_block 2 with (fail)
  go_cut [12] from 92 (fun _u wx => Hid (HoI W g AT U ok wx))
  case first =>
    go_wp2
    go_loopg [12] m (fun gk a wr => ∃ i : Nat, a = .int .i64 (i : Int) ∧ i + gk = m ∧ i ≤ 60 ∧ Hid (HoI W g AT U ok wr))
    case atStart => exact ⟨0, rfl, by omega, by omega, HI8⟩
    case round =>
      obtain ⟨i, rfl, hig, hi100, HS⟩ := hrel
      by_cases hlt : i < m ∧ i < 60
      · obtain ⟨hin, hi1⟩ := hlt
        have m1 : (i : Int) < (m : Int) := by omega
        have m2 : (i : Int) < 60 := by omega
        have m0 : ¬ (i : Int) < 0 := by omega
        have e5 : IntKind.i64.wrap ((i : Int) + 1) = ((i + 1 : Nat) : Int) := by rw [IntKind.wrap_i64]; omega
        obtain ⟨b, o, rfl, a1, a2, hrd⟩ := HBc.out wr HS.out.bel i hin
        have hvl : (f2 i).n ≤ 1000 := Hlong2.out i hin (by omega)
        have HV : Hid (∀ w', Below W.heap.size W w' → w'.cell? ⟨b, o + i * 3 + 2, none⟩ = some (.slice (f2 i).A (f2 i).n (f2 i).c)) := Lib.hid fun w' hb => by
          obtain ⟨b', o', eb, _, q2, _⟩ := HBc.out w' hb i hin
          injection eb with eb
          injection eb with eb1 eb2
          subst eb1 eb2
          exact q2
        obtain ⟨sl, hsl⟩ : ∃ sl, sl = (f2 i).slot := ⟨_, rfl⟩
        rw [← hsl] at a1
        generalize (f2 i).A = vA at *
        generalize (f2 i).n = vn at *
        generalize (f2 i).c = vc at *
        generalize (f2 i).val = vl at *
        obtain ⟨S, hS⟩ : ∃ S, S = sl % 60 := ⟨_, rfl⟩
        have hS60 : S < 60 := by rw [hS]; exact Nat.mod_lt _ (by decide)
        obtain ⟨t1, t2, t3⟩ := rem_u64 sl 60 (by decide) (by decide)
        rw [← hS] at t1 t2 t3
        have t1 : (sl : Int).tmod 60 = (S : Int) := t1
        have t2 : (sl : Int) % 60 = (S : Int) := t2
        have HLe := Lib.hid (HS.out.learn S hS60 vc hrd hvl)
        clear hrd hsl hS hvl HS
        go_wp2_with fail
        refine HLe.out.mono ?_
        rintro e w6 ⟨⟨r, rfl, hr⟩, HS6⟩
        have a2' := HV.out w6 HS6.out.bel
        clear a1 a2 HLe
        by_cases k1 : 0 < S
        · have x1 : (0 : Int) < (S : Int) := by omega
          by_cases k2 : S ≤ U
          · have x2 : (S : Int) ≤ (U : Int) := by omega
            cases ok with
            | false =>
              go_wp2
              go_roundg (gk - 1)
              case measure => omega
              case rel => exact ⟨i + 1, by go_num, by omega, by omega, HS6⟩
            | true =>
              by_cases k3 : vn ≤ 100
              · have x3 : (vn : Int) ≤ 100 := by omega
                have hr0 := hr k1 k2 rfl k3
                subst hr0
                clear hr
                go_wp2
                go_roundg (gk - 1)
                case measure => omega
                case rel => exact ⟨i + 1, by go_num, by omega, by omega, HS6⟩
              · have x3 : ¬ (vn : Int) ≤ 100 := by omega
                clear hr
                go_wp2
                go_roundg (gk - 1)
                case measure => omega
                case rel => exact ⟨i + 1, by go_num, by omega, by omega, HS6⟩
          · have x2 : ¬ (S : Int) ≤ (U : Int) := by omega
            clear hr
            go_wp2
            go_roundg (gk - 1)
            case measure => omega
            case rel => exact ⟨i + 1, by go_num, by omega, by omega, HS6⟩
        · have x1 : ¬ (0 : Int) < (S : Int) := by omega
          clear hr
          go_wp2
          go_roundg (gk - 1)
          case measure => omega
          case rel => exact ⟨i + 1, by go_num, by omega, by omega, HS6⟩
      · have hlt' : ¬ i < m ∨ (i < m ∧ ¬ i < 60) := by omega
        clear hlt
        rcases hlt' with h | ⟨h, h'⟩
        · have m1 : ¬ (i : Int) < (m : Int) := by omega
          go_wp2_with fail
          go_meet
          exact HS
        · have m1 : (i : Int) < (m : Int) := by omega
          have m2 : ¬ (i : Int) < 60 := by omega
          go_wp2_with fail
          go_meet
          exact HS
  case rest =>
  have HRs := Lib.hid hcut.out.rest
  clear hcut HI8 HBc Hlong2
  go_wp2_with fail
  refine HRs.out.mono ?_
  clear HRs
  rintro e w8 ⟨A8, i8, c8, rfl, hi8, hAT, HX, HB8⟩
  go_wp2
  go_loopg [16] i8 (fun gk a wr => ∃ i : Nat, a = .int .i64 (i : Int) ∧ i + gk = i8 ∧ Hid (wr = w8))
  case atStart => exact ⟨0, rfl, by omega, Lib.hid rfl⟩
  case round =>
    obtain ⟨i, rfl, hig, HW⟩ := hrel
    obtain rfl := HW.out
    by_cases hi : i < i8
    · obtain ⟨R, rfl, q0⟩ := HX.out i hi
      obtain ⟨T, hT⟩ : ∃ T, T = AT + i := ⟨_, rfl⟩
      rw [← hT] at q0
      have m1 : (i : Int) < (i8 : Int) := by omega
      have m0 : ¬ (i : Int) < 0 := by omega
      have e5 : IntKind.i64.wrap ((i : Int) + 1) = ((i + 1 : Nat) : Int) := by rw [IntKind.wrap_i64]; omega
      have e6 : IntKind.u64.wrap (i : Int) = (i : Int) := by rw [IntKind.wrap_u64]; omega
      have e7 : IntKind.u64.wrap ((AT : Int) + (i : Int)) = (T : Int) := by rw [IntKind.wrap_u64]; omega
      have e8 : IntKind.u64.wrap ((T : Int) + 1) = ((T + 1 : Nat) : Int) := by rw [IntKind.wrap_u64]; omega
      clear hT HX
      go_wp2
      go_roundg (gk - 1)
      case measure => omega
      case rel => exact ⟨i + 1, by go_num, by omega, Lib.hid rfl⟩
    · have m1 : ¬ (i : Int) < (i8 : Int) := by omega
      go_wp2_with fail
      refine (HKn.out _).mono ?_
      rintro e wc ⟨rfl, hb4⟩
      have HB4 := Lib.hid (below_then HB8.out hb4)
      clear hb4
      go_wp2
      go_ret
      exact ⟨rfl, HB4.out⟩
namespace rlogInstalls
set_option maxRecDepth 100000 in
theorem lifted (os : Os) (started : os.Started) (H : Type) (enc : TypeId × Value → H) :
    ReturnsInHanded {} Try.checked os 8 .any (Rows.rlogInstallsSpec.pre6 enc Try.prog Try.f8 Rows.rlogInstallsRow.domain false) (Rows.rlogInstallsSpec.post enc Try.prog Try.f8 false true false false) := by
  refine law_lift started (by kernel_rfl) Try.func8
    (ChangeSpec.witness6 (enc := enc) (C := Try.checked) false ⟨#[], #[.slice none 0 0, .int .u64 0, .slice none 0 0], []⟩ 8 (by kernel_rfl) (by kernel_rfl) (by kernel_rfl) (by kernel_rfl))
    rfl ?_ (by kernel_rfl) (by kernel_rfl) ?_
  · intro ds h
    match ds, h with
    | [_, _, _], _ => rfl
  intro W base args ds p g
  have hA := g.trod
  have hval := g.val
  rw [Try.params8] at hA hval
  obtain ⟨v0, vs0, d0, ds0, p0, q0, hargs, rfl, rfl, h0, r0⟩ := trodAll_cons hA
  obtain ⟨v1, vs1, d1, ds1, p1, q1, rfl, rfl, rfl, h1, r1⟩ := trodAll_cons r0
  obtain ⟨v2, vs2, d2, ds2, p2, q2, rfl, rfl, rfl, h2, r2⟩ := trodAll_cons r1
  obtain ⟨rfl, rfl, rfl⟩ := trodAll_nil r2
  obtain rfl : args = #[v0, v1, v2] := by cases args; simp_all
  obtain ⟨A0, n0, c0, f0, rfl, hc0, hm0, hr0⟩ := given_as12 (hval 0 22 v0 rfl rfl) h0
  obtain ⟨a1, rfl, _, _, w1⟩ := open_int Try.underlying23 (hval 1 23 v1 rfl rfl) h1
  have b1 := bounds_u64 w1
  obtain ⟨m1, rfl⟩ := Int.eq_ofNat_of_zero_le b1.1
  obtain ⟨A2, n2, c2, f2, rfl, hc2, hm2, hr2⟩ := given_as12 (hval 2 22 v2 rfl rfl) h2
  exact rlogInstalls_walk A0 n0 c0 f0 m1 A2 n2 c2 f2 W hc0 hm0 hr0 (by omega) hc2 hm2 hr2

theorem over : Rows.rlogInstallsRow.holds Try.pinned (OpenSpec.ofChange Rows.rlogInstallsSpec) :=
  OpenClaim.holds_of_wide 8 Try.f8 rfl rfl rfl rfl rfl rfl rfl ⟨rfl, rfl, rfl, rfl, rfl⟩ rfl rfl rfl rfl rfl (by kernel_rfl) Try.func8 (by kernel_rfl)
    (of_decide_eq_true (by kernel_rfl)) (by unfold Func.isWrapper; first | (rw [if_pos (by decide +kernel)]; kernel_rfl) | (rw [if_neg (by decide +kernel)]; exact ⟨rfl, rfl⟩))
    (fun os started H enc _ => lifted os started H enc)
end rlogInstalls

theorem RlogInstalls_proved : Rows.RlogInstallsSaid := rlogInstalls.over
#print axioms RlogInstalls_proved
end Go.Proofs.Ytpgjilpalhclcaa
