/- BeatCalm: for every input law14.BeatCalm answers true: as long as the same nodes are heard in each tick, nothing changes from the patience's end on, and it is so many ticks calmer; a node that comes anew ends the calm. Conditions: the library's table lies where the program's text lays it (the card ties it). -/
import Derived.Test.YtmdjdnibblebcaaDoorBtCa
import Derived.Test.YtmdjdnibblebcaaDoorLawT
import Derived.Test.YtmdjdnibblebcaaDoorDActs
namespace Go.Proofs.YtmdjdnibblebcaaDoor
open Go.RowKit Go.ChangeShapes Go.WideShapes Go.ChangeAt

structure CaS (W w : World) (g b c : Nat) (v0 : Vw) (H : Nat → Prop) (v : Vw) (r d : Nat) : Prop where
  ob : OB W w g b c v
  l : v0.Like v
  r : v.CaR H r d
structure CaJ (W w : World) (g b c : Nat) (v0 : Vw) (H : Nat → Prop) (l3 : List Int) (v : Vw) (r j d : Nat) : Prop where
  ob : OB W w g b c v
  l : v0.Like v
  r : v.CaI H l3 r j d
set_option maxRecDepth 100000 in
set_option maxHeartbeats 8000000 in
theorem beatCalm_walk (A : Option Addr) (n c : Nat) (l : List Int) (me pt : Int) (A3 : Option Addr) (n3 c3 : Nat) (l3 : List Int) (ticks : Int) (w : World) (hc : n ≤ c) (hm : c ≤ 9223372036854775807) (hr : RdI w w.heap.size A n l)
    (_ : -9223372036854775808 ≤ me) (_ : me ≤ 9223372036854775807) (_ : -9223372036854775808 ≤ pt) (_ : pt ≤ 9223372036854775807)
    (hc3 : n3 ≤ c3) (hm3 : c3 ≤ 9223372036854775807) (hr3 : RdI w w.heap.size A3 n3 l3) (_ : -9223372036854775808 ≤ ticks) (_ : ticks ≤ 9223372036854775807) (hT : Tz w) :
    Calls Tryd.prog 7 #[.slice A n c, .int .i64 me, .int .i64 pt, .slice A3 n3 c3, .int .i64 ticks] w fun e w' => e = .returned (.bool true) ∧ Below w.heap.size w w' := by
  have HT := Lib.hid hT
  have HR3 := Lib.hid hr3
  have HL3 := Lib.hid hr3.1
  have HV := Lib.hid (view_any A n c l me pt w (by omega) hr)
  obtain ⟨P, hP⟩ : ∃ P, P = (1 + pt % 18446744073709551616 % 9).toNat := ⟨_, rfl⟩
  have p1 : (pt % 18446744073709551616).tmod 9 = pt % 18446744073709551616 % 9 := Int.tmod_eq_emod_of_nonneg (Int.emod_nonneg _ (by omega))
  have p2 : IntKind.u64.wrap pt = pt % 18446744073709551616 := IntKind.wrap_u64 pt
  have p4 : IntKind.i64.wrap (pt % 18446744073709551616 % 9) = pt % 18446744073709551616 % 9 := by rw [IntKind.wrap_i64]; omega
  have p5 : IntKind.i64.wrap (1 + pt % 18446744073709551616 % 9) = (P : Int) := by rw [IntKind.wrap_i64]; omega
  have p6 : 1 + pt % 18446744073709551616 % 9 = (P : Int) := by omega
  obtain ⟨K, hK⟩ : ∃ K, K = (ticks % 18446744073709551616 % 30).toNat := ⟨_, rfl⟩
  have t1 : (ticks % 18446744073709551616).tmod 30 = ticks % 18446744073709551616 % 30 := Int.tmod_eq_emod_of_nonneg (Int.emod_nonneg _ (by omega))
  have t2 : IntKind.u64.wrap ticks = ticks % 18446744073709551616 := IntKind.wrap_u64 ticks
  have t4 : IntKind.i64.wrap (ticks % 18446744073709551616 % 30) = (K : Int) := by rw [IntKind.wrap_i64]; omega
  have t5 : ticks % 18446744073709551616 % 30 = (K : Int) := by omega
  have hPK : 1 ≤ P ∧ P ≤ 9 ∧ K < 30 := by omega
  have hv0p : (viewV l me pt).pat = P := by rw [hP]; rfl
  have hv0c : (viewV l me pt).calm = 0 := rfl
  have hv0s : ∀ k, k ≠ (viewV l me pt).me → (viewV l me pt).since k = (viewV l me pt).pat := fun k hk => by
    show (if k = (viewV l me pt).me then 0 else (viewV l me pt).pat) = (viewV l me pt).pat
    rw [if_neg hk]
  obtain ⟨v0, hv0⟩ : ∃ v0, v0 = viewV l me pt := ⟨_, rfl⟩
  rw [← hv0] at HV hv0p hv0c hv0s
  have HV0 := Lib.hid (And.intro hv0p (And.intro hv0c hv0s))
  have HPK := Lib.hid hPK
  clear hT hr hr3 hP hK hv0 hv0p hv0c hv0s
  go_enter Tryd.func7, Tryd.ntmps7
  go_wp2_with fail
  refine HV.out.mono ?_
  rintro e w1 ⟨g, b, cv, rfl, H1⟩
  have HO : Hid (OB w w1 g b cv v0) := Lib.hid ⟨H1.out.1, H1.out.2⟩
  clear HV H1
  by_cases hP2 : P < 2
  · have m1 : (P : Int) < 2 := by omega
    have HK := Lib.hid (known14_any w1 (HT.out.below HO.out.bel HT.out.lt))
    go_wp2_with fail
    refine HK.out.mono ?_
    rintro e w7 ⟨rfl, hb7⟩
    have HB7 : Hid (Below w.heap.size w w7) := Lib.hid (HO.out.bel.trans (hb7.mono HO.out.bel.size))
    clear hb7
    go_wp2
    go_ret
    exact ⟨rfl, HB7.out⟩
  have m1 : ¬ (P : Int) < 2 := by omega
  have HP2 := Lib.hid hP2
  obtain ⟨H, hH⟩ : ∃ H : Nat → Prop, H = fun (k : Nat) => k = v0.me ∨ ∃ j, ∃ hj : j < l3.length, j < 30 ∧ (k : Int) = l3[j] := ⟨_, rfl⟩
  have HH : Hid (H v0.me ∧ (∀ j (hj : j < l3.length), j < 30 → ∀ k : Nat, (k : Int) = l3[j] → H k) ∧ ∀ k, H k → k = v0.me ∨ ∃ j, ∃ hj : j < l3.length, j < 30 ∧ (k : Int) = l3[j]) :=
    Lib.hid (by rw [hH]; exact ⟨.inl rfl, fun j hj h30 k e => .inr ⟨j, hj, h30, e⟩, fun k h => h⟩)
  have HS : Hid (CaS w w1 g b cv v0 H v0 0 0) := Lib.hid ⟨HO.out, Vw.Like.refl _, by omega, fun _ => ⟨fun k _ hk => HV0.out.2.2 k hk, HV0.out.2.1⟩, fun e => by omega⟩
  have s1 : IntKind.i64.wrap ((P : Int) + (K : Int)) = (P : Int) + (K : Int) := by rw [IntKind.wrap_i64]; omega
  have s2 : IntKind.i64.wrap ((P : Int) + (K : Int) + 1) = (P : Int) + (K : Int) + 1 := by rw [IntKind.wrap_i64]; omega
  have s3 : decide ((P : Int) < 2) = false := decide_eq_false (by omega)
  have s4 : decide (P < 2) = false := decide_eq_false (by omega)
  clear hH HO hP2
  go_wp2
  go_loopg [14, 15, 16, 17] (P + K + 1) (fun gk a0 b0 d0 e0 wr => ∃ (i U Ld Cm : Nat), a0 = .int .u32 (U : Int) ∧ b0 = .int .i64 (Ld : Int) ∧ d0 = .int .i64 (Cm : Int) ∧ e0 = .int .i64 (i : Int) ∧ i + gk = P + K + 1 ∧ Cm ≤ 10 ∧
    ∃ v d, Hid (CaS w wr g b cv v0 H v i d) ∧ Hid (P < i → U = v.up ∧ Ld = v.lead 0 ∧ Cm = d + P))
  case atStart => exact ⟨0, 0, 0, 0, rfl, rfl, rfl, rfl, by omega, by omega, v0, 0, HS, Lib.hid fun h => by omega⟩
  case round =>
    clear HS
    obtain ⟨i, U, Ld, Cm, rfl, rfl, rfl, rfl, hig, hCm, v, d, HI, HQ⟩ := hrel
    by_cases hin : i < P + K + 1
    · have m1 : (i : Int) < (P : Int) + (K : Int) + 1 := by omega
      have e1 : IntKind.i64.wrap ((i : Int) + 1) = ((i + 1 : Nat) : Int) := by rw [IntKind.wrap_i64]; omega
      have HC1 := Lib.hid HI.out.ob.tick
      go_wp2_with fail
      refine HC1.out.mono ?_
      rintro e wa ⟨rfl, H5⟩
      have HJ0 : Hid (CaJ w wa g b cv v0 H l3 v.tick i 0 d) := Lib.hid ⟨H5.out.1, HI.out.l.trans (Vw.Like.tick v), HI.out.r.tick l3 HI.out.ob.ok (by rw [HI.out.l.pat, HV0.out.1]; have := HP2.out; omega) (by rw [HI.out.l.me]; exact HH.out.1) (by omega)⟩
      clear HC1 H5
      obtain ⟨gko, hgko⟩ : ∃ z, z = gk := ⟨_, rfl⟩
      subst hgko
      go_upto_block 2 with (fail)
      go_cut [18] from 50 to 65 (fun _a wx => ∃ v2 d2, Hid (CaS w wx g b cv v0 H v2 (i + 1) d2 ∧ (1 ≤ i → d2 = d) ∧ v.Like v2))
      case first =>
        go_wp2_with fail
        go_loopg [18] (min n3 30) (fun gk a wr => ∃ j : Nat, a = .int .i64 (j : Int) ∧ j + gk = min n3 30 ∧ ∃ v2, Hid (CaJ w wr g b cv v0 H l3 v2 i j d ∧ v.Like v2))
        case atStart => exact ⟨0, rfl, by omega, v.tick, Lib.hid ⟨HJ0.out, Vw.Like.tick v⟩⟩
        case round =>
          clear HJ0
          obtain ⟨j, rfl, hjg, v2, HJ⟩ := hrel
          by_cases hjn : j < min n3 30
          · have m1 : (j : Int) < (n3 : Int) := by omega
            have m2 : (j : Int) < 30 := by omega
            have m0 : ¬ (j : Int) < 0 := by omega
            have e1 : IntKind.i64.wrap ((j : Int) + 1) = ((j + 1 : Nat) : Int) := by rw [IntKind.wrap_i64]; omega
            have hil : j < l3.length := by rw [HL3.out]; omega
            obtain ⟨b9, o9, rfl, _, hcl⟩ := (HR3.out.below HJ.out.1.ob.bel).2.2 (by omega)
            have q0 := hcl j hil
            obtain ⟨x, hx⟩ : ∃ x, x = l3[j] := ⟨_, rfl⟩
            rw [← hx] at q0
            have HX := Lib.hid hx
            have HC2 := Lib.hid (HJ.out.1.ob.hear x)
            clear hx hcl
            go_wp2_with fail
            refine HC2.out.mono ?_
            rintro e wf ⟨rfl, H5⟩
            have HN : Hid (CaJ w wf g b cv v0 H l3 (v2.hearI x) i (j + 1) d ∧ v.Like (v2.hearI x)) := Lib.hid ⟨⟨H5.out.1, HJ.out.1.l.trans (Vw.Like.hearI v2 x), HJ.out.1.r.hear (by rw [HJ.out.1.l.pat, HV0.out.1]; have := HP2.out; omega) hil HX.out (fun k e => HH.out.2.1 j hil (by omega) k (by rw [← HX.out]; exact e))⟩, HJ.out.2.trans (Vw.Like.hearI v2 x)⟩
            generalize (if 0 ≤ x ∧ x < (v2.n : Int) then (0 : Int) else 2) = y3
            clear HC2 H5 q0
            go_wp2
            go_roundg (gk - 1)
            case measure => omega
            case rel => exact ⟨j + 1, by go_num, by omega, _, HN⟩
          · have HN : Hid (∃ d2, CaS w wr g b cv v0 H v2 (i + 1) d2 ∧ (1 ≤ i → d2 = d) ∧ v.Like v2) := Lib.hid (by
              obtain ⟨d2, h1, h2⟩ := HJ.out.1.r.done (fun k hk => by
                rcases HH.out.2.2 k hk with e | ⟨t, ht, h30, e⟩
                · exact .inl (by rw [HJ.out.1.l.me]; exact e)
                · exact .inr ⟨t, ht, by have := HL3.out; omega, e⟩)
              exact ⟨d2, ⟨HJ.out.1.ob, HJ.out.1.l, h1⟩, h2, HJ.out.2⟩)
            have hcase : (¬ (j : Int) < (n3 : Int)) ∨ ((j : Int) < (n3 : Int) ∧ ¬ (j : Int) < 30) := by omega
            clear hjn hjg
            rcases hcase with m1 | ⟨m1, m4⟩
            all_goals
              go_wp2_with fail
              go_meet
              obtain ⟨d2, h⟩ := HN.out
              exact ⟨v2, d2, Lib.hid h⟩
      case rest =>
        obtain ⟨v2, d2, HN⟩ := hcut
        clear HJ0
        have HO := Lib.hid HN.out.1.ob
        have HSAME : Hid (1 ≤ i → v2.up = v.up ∧ v2.lead 0 = v.lead 0 ∧ v2.calm = d + i) := Lib.hid fun h1 => by
          have hu := HI.out.r.same HN.out.1.r h1 (by omega) HN.out.2.2
          have hz := (HN.out.1.r.z1 (by omega)).2.2
          have hd := HN.out.2.1 h1
          exact ⟨hu, Vw.lead_same HN.out.2.2 hu 0, by omega⟩
        have hcases : i < P ∨ i = P ∨ P < i := by omega
        rcases hcases with hi | hi | hi
        · have c1 : ((i : Int) == (P : Int)) = false := by simp; omega
          have c2 : ¬ (P : Int) < (i : Int) := by omega
          go_wp2
          go_roundg (gko - 1)
          case measure => omega
          case rel => exact ⟨i + 1, U, Ld, Cm, rfl, rfl, rfl, by go_num, by omega, by omega, v2, d2, Lib.hid HN.out.1, Lib.hid fun h => by omega⟩
        · have c1 : ((i : Int) == (P : Int)) = true := by simp; omega
          have c2 : ¬ (P : Int) < (i : Int) := by omega
          have HC1 := Lib.hid HO.out.upC
          go_wp2_with fail
          refine HC1.out.mono ?_
          rintro e wa ⟨rfl, H5⟩
          have HA := Lib.hid H5.out.1
          clear HC1 H5
          have HC1 := Lib.hid (HA.out.lead HT.out 0)
          go_wp2_with fail
          refine HC1.out.mono ?_
          rintro e wb ⟨rfl, H5⟩
          have HB := Lib.hid H5.out.1
          clear HC1 H5
          have HC1 := Lib.hid HB.out.calm
          go_wp2_with fail
          refine HC1.out.mono ?_
          rintro e wd ⟨rfl, rfl⟩
          have hcz := (HN.out.1.r.z1 (by omega)).2.2
          have hc1 := HN.out.1.r.c1
          have HCZ := Lib.hid (And.intro hcz hc1)
          obtain ⟨y, hy⟩ : ∃ y, y = v2.calm := ⟨_, rfl⟩
          obtain ⟨z, hz⟩ : ∃ z, z = v2.lead 0 := ⟨_, rfl⟩
          obtain ⟨x, hx⟩ : ∃ x, x = v2.up := ⟨_, rfl⟩
          rw [← hy, ← hz, ← hx]
          have HXYZ := Lib.hid (And.intro hx (And.intro hz hy))
          clear hcz hc1 hx hy hz HC1
          go_wp2
          go_roundg (gko - 1)
          case measure => omega
          case rel => exact ⟨i + 1, x, z, y, rfl, rfl, rfl, by go_num, by omega, by have := HXYZ.out.2.2; have := HCZ.out; omega, v2, d2, Lib.hid ⟨HB.out, HN.out.1.l, HN.out.1.r⟩, Lib.hid fun h => ⟨HXYZ.out.1, HXYZ.out.2.1, by have := HXYZ.out.2.2; have := HCZ.out; omega⟩⟩
        · have c1 : ((i : Int) == (P : Int)) = false := by simp; omega
          have c2 : (P : Int) < (i : Int) := by omega
          have HQ2 := Lib.hid (HQ.out hi)
          have HS2 := Lib.hid (HSAME.out (by omega))
          have HC1 := Lib.hid HO.out.upC
          rw [HS2.out.1, ← HQ2.out.1] at HC1
          go_wp2_with fail
          refine HC1.out.mono ?_
          rintro e wa ⟨rfl, H5⟩
          have HA := Lib.hid H5.out.1
          clear HC1 H5
          have HC1 := Lib.hid (HA.out.lead HT.out 0)
          rw [HS2.out.2.1, ← HQ2.out.2.1] at HC1
          go_wp2_with fail
          refine HC1.out.mono ?_
          rintro e wb ⟨rfl, H5⟩
          have HB := Lib.hid H5.out.1
          clear HC1 H5
          have HC1 := Lib.hid HB.out.calm
          have HQN : Hid (P < i + 1 → U = v2.up ∧ Ld = v2.lead 0 ∧ Cm = d2 + P) := Lib.hid fun _ => ⟨by rw [HS2.out.1]; exact HQ2.out.1, by rw [HS2.out.2.1]; exact HQ2.out.2.1, by rw [HN.out.2.1 (by omega)]; exact HQ2.out.2.2⟩
          have r1 : IntKind.i64.wrap ((Cm : Int) + (i : Int)) = (Cm : Int) + (i : Int) := by rw [IntKind.wrap_i64]; omega
          have r4 : (v2.calm : Int) = (Cm : Int) + (i : Int) - (P : Int) := by
            have h1 := HQ2.out.2.2
            have h2 := HS2.out.2.2
            omega
          obtain ⟨y, hy⟩ : ∃ y, y = v2.calm := ⟨_, rfl⟩
          rw [← hy] at HC1 r4
          have r2 : IntKind.i64.wrap ((Cm : Int) + (i : Int) - (P : Int)) = (y : Int) := by rw [IntKind.wrap_i64]; omega
          have r3 : (Cm : Int) + (i : Int) - (P : Int) = (y : Int) := by omega
          clear r4 hy
          go_wp2_with fail
          refine HC1.out.mono ?_
          rintro e wd ⟨rfl, rfl⟩
          clear HC1
          go_wp2
          go_roundg (gko - 1)
          case measure => omega
          case rel => exact ⟨i + 1, U, Ld, Cm, rfl, rfl, rfl, by go_num, by omega, by omega, v2, d2, Lib.hid ⟨HB.out, HN.out.1.l, HN.out.1.r⟩, HQN⟩
    · obtain rfl : i = P + K + 1 := by omega
      have m1 : ¬ (((P + K + 1 : Nat) : Int) < (P : Int) + (K : Int) + 1) := by omega
      have HCM : Hid ((Cm : Int) ≤ (v.calm : Int)) := Lib.hid (by
        have h1 := (HQ.out (by omega)).2.2
        have h2 := (HI.out.r.z1 (by omega)).2.2
        omega)
      have HS0 := Lib.hid HI.out.ob
      clear HI HQ hin
      go_wp2_with fail
      go_loopg [19] 12 (fun gk a wr => ∃ j : Nat, a = .int .i64 (j : Int) ∧ j + gk = 12 ∧ ∃ v, Hid (OB w wr g b cv v ∧ (j = 0 → (Cm : Int) ≤ (v.calm : Int))))
      case atStart => exact ⟨0, rfl, rfl, v, Lib.hid ⟨HS0.out, fun _ => HCM.out⟩⟩
      case round =>
        clear HS0 HCM
        obtain ⟨j, rfl, hjg, v, HJ⟩ := hrel
        by_cases hj12 : j < 12
        · have m1 : (j : Int) < 12 := by omega
          have e1 : IntKind.i64.wrap ((j : Int) + 1) = ((j + 1 : Nat) : Int) := by rw [IntKind.wrap_i64]; omega
          have HC1 := Lib.hid HJ.out.1.upC
          go_wp2_with fail
          refine HC1.out.mono ?_
          rintro e wa ⟨rfl, H5⟩
          have HA := Lib.hid H5.out.1
          clear HC1 H5
          have HVN : Hid (1 ≤ v.n) := Lib.hid HA.out.ok.n1
          have HHJ := Lib.hid HJ.out.2
          obtain ⟨x, hx⟩ : ∃ x, x = v.up := ⟨_, rfl⟩
          rw [← hx]
          have HXX := Lib.hid hx
          clear hx HJ
          by_cases hjn : j < v.n
          · have HC1 := HA.out.hear j
            rw [if_pos (by omega)] at HC1
            replace HC1 := Lib.hid HC1
            clear hjn
            go_wp2_with fail
            refine HC1.out.mono ?_
            rintro e wb ⟨rfl, H5⟩
            have HB := Lib.hid H5.out.1
            clear HC1 H5
            by_cases hu : (v.hearI j).up = x
            · have hxx : ((x : Int) == (x : Int)) = true := by simp
              have HU := Lib.hid hu
              clear hu
              have HC1 := Lib.hid HB.out.upC
              rw [HU.out] at HC1
              go_wp2_with fail
              refine HC1.out.mono ?_
              rintro e wd ⟨rfl, H5⟩
              have HB := Lib.hid H5.out.1
              clear HC1 H5
              by_cases hj0 : j = 0
              · have j0 : ((j : Int) == 0) = true := by simp; omega
                have j1 : (j : Int) = 0 := by omega
                have HC1 := Lib.hid HB.out.upC
                rw [HU.out] at HC1
                go_wp2_with fail
                refine HC1.out.mono ?_
                rintro e we ⟨rfl, H5⟩
                have HB := Lib.hid H5.out.1
                clear HC1 H5
                have hcal : ¬ (((v.hearI j).calm : Int) < (Cm : Int)) := by
                  rw [Vw.hearI_calm, if_pos (by rw [HU.out, HXX.out])]
                  have := HHJ.out hj0
                  omega
                obtain ⟨y, hy⟩ : ∃ y, y = (v.hearI j).calm := ⟨_, rfl⟩
                rw [← hy] at hcal
                have HY := Lib.hid hy
                clear hj0 hy
                have HC1 := Lib.hid HB.out.calm
                rw [← HY.out] at HC1
                go_wp2_with fail
                refine HC1.out.mono ?_
                rintro e wf ⟨rfl, rfl⟩
                clear HC1
                go_wp2
                go_roundg (gk - 1)
                case measure => omega
                case rel => exact ⟨j + 1, by go_num, by omega, _, Lib.hid ⟨HB.out, fun e => by omega⟩⟩
              · have j0 : ((j : Int) == 0) = false := by simp; omega
                have j1 : ¬ (j : Int) = 0 := by omega
                have HC1 := Lib.hid HB.out.upC
                rw [HU.out] at HC1
                go_wp2_with fail
                refine HC1.out.mono ?_
                rintro e we ⟨rfl, H5⟩
                have HB := Lib.hid H5.out.1
                clear HC1 H5
                go_wp2
                go_roundg (gk - 1)
                case measure => omega
                case rel => exact ⟨j + 1, by go_num, by omega, _, Lib.hid ⟨HB.out, fun e => by omega⟩⟩
            · obtain ⟨y, hy⟩ : ∃ y, y = (v.hearI j).up := ⟨_, rfl⟩
              have hne : ((y : Int) == (x : Int)) = false := by simp; omega
              have hne2 : ¬ (y : Int) = (x : Int) := by omega
              have HY := Lib.hid hy
              have HCZ : Hid ((v.hearI j).calm = 0) := Lib.hid (by rw [Vw.hearI_calm, if_neg (by rw [← HXX.out]; exact hu)])
              clear hu hy
              have HC1 := Lib.hid HB.out.upC
              rw [← HY.out] at HC1
              go_wp2_with fail
              refine HC1.out.mono ?_
              rintro e wd ⟨rfl, H5⟩
              have HB := Lib.hid H5.out.1
              clear HC1 H5
              have HC1 := Lib.hid HB.out.calm
              rw [HCZ.out] at HC1
              go_wp2_with fail
              refine HC1.out.mono ?_
              rintro e wf ⟨rfl, rfl⟩
              clear HC1
              have HC1 := Lib.hid HB.out.upC
              rw [← HY.out] at HC1
              go_wp2_with fail
              refine HC1.out.mono ?_
              rintro e we ⟨rfl, H5⟩
              have HB := Lib.hid H5.out.1
              clear HC1 H5
              go_wp2
              go_roundg (gk - 1)
              case measure => omega
              case rel => exact ⟨j + 1, by go_num, by omega, _, Lib.hid ⟨HB.out, fun e => by omega⟩⟩
          · have HC1 := HA.out.hear j
            rw [if_neg (by omega)] at HC1
            replace HC1 := Lib.hid HC1
            have hvv : v.hearI j = v := by unfold Vw.hearI; rw [if_neg (by omega)]
            have j0 : ((j : Int) == 0) = false := by have := HVN.out; simp; omega
            have j1 : ¬ (j : Int) = 0 := by have := HVN.out; omega
            have hxx : ((x : Int) == (x : Int)) = true := by simp
            rw [hvv] at HC1
            clear hjn hvv
            go_wp2_with fail
            refine HC1.out.mono ?_
            rintro e wb ⟨rfl, H5⟩
            have HB := Lib.hid H5.out.1
            clear HC1 H5
            have HC1 := Lib.hid HB.out.upC
            rw [← HXX.out] at HC1
            go_wp2_with fail
            refine HC1.out.mono ?_
            rintro e wd ⟨rfl, H5⟩
            have HB := Lib.hid H5.out.1
            clear HC1 H5
            go_wp2
            go_roundg (gk - 1)
            case measure => omega
            case rel => exact ⟨j + 1, by go_num, by omega, _, Lib.hid ⟨HB.out, fun e => by omega⟩⟩
        · obtain rfl : j = 12 := by omega
          have HK := Lib.hid (known14_any wr (HT.out.below HJ.out.1.bel HT.out.lt))
          go_wp2_with fail
          refine HK.out.mono ?_
          rintro e w7 ⟨rfl, hb7⟩
          have HB7 : Hid (Below w.heap.size w w7) := Lib.hid (HJ.out.1.bel.trans (hb7.mono HJ.out.1.bel.size))
          clear hb7
          go_wp2
          go_ret
          exact ⟨rfl, HB7.out⟩

namespace beatCalm
set_option maxRecDepth 100000 in
theorem lifted (os : Os) (started : os.Started) (H : Type) (enc : TypeId × Value → H) (F : Stop.Interp) :
    ReturnsInHanded {} Tryd.checked os 7 .any ((OpenSpec.ofChange Rows.beatCalmSpec).preRow enc Tryd.prog Tryd.f7 Rows.beatCalmRow.domain false Rows.beatCalmRow.laid) (((OpenSpec.ofChange Rows.beatCalmSpec).at F).post enc Tryd.prog Tryd.f7 false true false false) := by
  have hs : (DataW.whole enc Tryd.prog ((laidWorld os).forCall (fun _ _ => 0) ⟨#[], #[.slice none 0 0, .int .i64 0, .int .i64 0, .slice none 0 0, .int .i64 0], []⟩).memory Tryd.f7.params.toList Rows.beatCalmSpec.vars false (#[.slice none 0 0, .int .i64 0, .int .i64 0, .slice none 0 0, .int .i64 0] : Array Value).toList 8).isSome = true := by kernel_rfl
  obtain ⟨x, hx⟩ := Option.isSome_iff_exists.1 hs
  have hmet : laidMet Tryd.prog tabL ((laidWorld os).forCall (fun _ _ => 0) ⟨#[], #[.slice none 0 0, .int .i64 0, .int .i64 0, .slice none 0 0, .int .i64 0], []⟩).memory := laidMet_of_run' 8 (by kernel_rfl) (by kernel_rfl)
  refine law_lift_tab started (by kernel_rfl) Tryd.func7
    (witness_row_at (enc := enc) (C := Tryd.checked) false (laidWorld os) #[.slice none 0 0, .int .i64 0, .int .i64 0, .slice none 0 0, .int .i64 0] rfl (by kernel_rfl) (by kernel_rfl) (by kernel_rfl)
      (OpenSpec.preRow_of_cond 8 hx (by kernel_rfl) (fun k hk => by cases hk) (by kernel_rfl) hmet))
    rfl ?_ (by kernel_rfl) (by kernel_rfl) ?_
  · intro ds h
    match ds, h with
    | [_, _, _, _, _], _ => rfl
  intro W base args ds p g hTz
  have hA := g.trod
  have hval := g.val
  rw [Tryd.params7] at hA hval
  obtain ⟨v0, vs0, d0, ds0, p0, q0, hargs, rfl, rfl, h0, r0⟩ := trodAll_cons hA
  obtain ⟨v1, vs1, d1, ds1, p1, q1, rfl, rfl, rfl, h1, r1⟩ := trodAll_cons r0
  obtain ⟨v2, vs2, d2, ds2, p2, q2, rfl, rfl, rfl, h2, r2⟩ := trodAll_cons r1
  obtain ⟨v3, vs3, d3, ds3, p3, q3, rfl, rfl, rfl, h3, r3⟩ := trodAll_cons r2
  obtain ⟨v4, vs4, d4, ds4, p4, q4, rfl, rfl, rfl, h4, r4⟩ := trodAll_cons r3
  obtain ⟨rfl, rfl, rfl⟩ := trodAll_nil r4
  obtain rfl : args = #[v0, v1, v2, v3, v4] := by cases args; simp_all
  obtain ⟨A0, n0, c0, l0, rfl, hc0, hm0, hr0⟩ := given_ints (hval 0 22 v0 rfl rfl) h0
  obtain ⟨a1, rfl, _, _, w1⟩ := open_int Tryd.underlying3 (hval 1 3 v1 rfl rfl) h1
  have b1 := bounds_i64 w1
  obtain ⟨a2, rfl, _, _, w2⟩ := open_int Tryd.underlying3 (hval 2 3 v2 rfl rfl) h2
  have b2 := bounds_i64 w2
  obtain ⟨A3, n3, c3, l3, rfl, hc3, hm3, hr3⟩ := given_ints (hval 3 22 v3 rfl rfl) h3
  obtain ⟨a4, rfl, _, _, w4⟩ := open_int Tryd.underlying3 (hval 4 3 v4 rfl rfl) h4
  have b4 := bounds_i64 w4
  exact beatCalm_walk A0 n0 c0 l0 a1 a2 A3 n3 c3 l3 a4 W hc0 hm0 hr0 b1.1 b1.2 b2.1 b2.2 hc3 hm3 hr3 b4.1 b4.2 hTz

theorem said : Rows.BeatCalmSaid :=
  OpenClaim.holds_of_cond 7 Tryd.f7 rfl rfl rfl rfl rfl rfl rfl ⟨rfl, rfl, rfl, rfl, rfl⟩ rfl rfl rfl rfl rfl (by kernel_rfl) Tryd.func7 (by kernel_rfl)
    (of_decide_eq_true (by kernel_rfl)) (by unfold Func.isWrapper; first | (rw [if_pos (by decide +kernel)]; kernel_rfl) | (rw [if_neg (by decide +kernel)]; exact ⟨rfl, rfl⟩))
    (fun os started H enc _ F => by rw [OpenClaim.pre_eq_preRow]; exact lifted os started H enc F)
/-- No parameter wants a stand-in; the program's own looks are off. -/
theorem plain (f : FuncId) (fn : Func) (hf : Tryd.pinned.checked.prog.funcNamed "seawall/seawalllaw14.BeatCalm" = some f) (hfn : Tryd.pinned.checked.prog.funcs[f]? = some fn) :
    false = Tryd.pinned.checked.prog.looks [] ∧ ∀ (j : Nat) t, fn.params[j]? = some t → Tryd.pinned.checked.prog.wantsStandIn t = false := by
  obtain rfl : f = 7 := Option.some.inj ((show Tryd.prog.funcNamed "seawall/seawalllaw14.BeatCalm" = some 7 by kernel_rfl).symm.trans hf) |>.symm
  obtain rfl : fn = Tryd.f7 := (Option.some.inj (Tryd.func7.symm.trans hfn)).symm
  refine ⟨by kernel_rfl, fun j t ht => ?_⟩
  rw [Tryd.params7] at ht
  have hm : t ∈ [22, 3, 3, 22, 3] := by simpa using Array.mem_of_getElem? ht
  have hall : ([22, 3, 3, 22, 3].all fun u => !Tryd.prog.wantsStandIn u) = true := by kernel_rfl
  exact (show Tryd.prog.wantsStandIn t = false by simpa using List.all_eq_true.1 hall t hm)
end beatCalm

theorem BeatCalm_proved : Rows.BeatCalmCardSaid :=
  Claim7.holds_tied_plain_at .later [] _ _ _ _ beatCalm.said (fun _ h => by cases h) (by kernel_rfl) (fun _ h => by cases h) beatCalm_row_tie rfl ⟨rfl, rfl⟩ (by kernel_rfl) rfl beatCalm.plain (by kernel_rfl)
#print axioms BeatCalm_proved
end Go.Proofs.YtmdjdnibblebcaaDoor
