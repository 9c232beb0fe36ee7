/- ProposeSame. -/
import Derived.Test.YthkkkldkpdkabaaProT
import Derived.StillTailTactics
import Derived.Test.YthkkkldkpdkabaaRows
namespace Go.Proofs.Ythkkkldkpdkabaa
open Go.ChangeShapes Go.WideShapes Go.ChangeAt Go.RowKit Go.Maps

theorem acts_at {A : Option Addr} {n B : Nat} {f : Nat → Ac10} {W : World} (hr : Acts10 W B A n f) : ∀ w, Below B W w → ∀ k, k < n → ∃ b o, A = some ⟨b, o, none⟩ ∧ (f k).Ok W B ∧ ∀ w', Below B W w' → w'.cell? ⟨b, o + k * 5, none⟩ = some (.int .i64 (f k).kind) ∧ w'.cell? ⟨b, o + k * 5 + 1, none⟩ = some (.int .i64 (f k).node) ∧
    w'.cell? ⟨b, o + k * 5 + 2, none⟩ = some (.int .u64 ((f k).slot : Int)) ∧ w'.cell? ⟨b, o + k * 5 + 3, none⟩ = some (.slice (f k).oA (f k).on (f k).oc) ∧ w'.cell? ⟨b, o + k * 5 + 4, none⟩ = some (.slice (f k).vA (f k).vn (f k).vc) := fun w hb k hk => by
  obtain ⟨b, o, e, hlt, hi⟩ := hr (by omega)
  refine ⟨b, o, e, (hi k hk).1, fun w' hb' => ?_⟩
  obtain ⟨_, k1, k2, k3, k4, k5⟩ := hi k hk
  have q := fun j => World.cell?_of_block (a := ⟨b, j, none⟩) (hb'.block b hlt)
  exact ⟨(q _).trans k1, (q _).trans k2, (q _).trans k3, (q _).trans k4, (q _).trans k5⟩
set_option maxRecDepth 100000 in
set_option maxHeartbeats 8000000 in
theorem proposeSame_walk (A : Option Addr) (n c : Nat) (f : Nat → Ac10) (s : Nat) (oA : Option Addr) (on oc : Nat) (own : List UInt8) (A2 : Option Addr) (n2 c2 : Nat) (f2 : Nat → Ac10) (W : World) (hc : n ≤ c) (hcm : c ≤ 9223372036854775807) (hr : Acts10 W W.heap.size A n f) (hs : s < 18446744073709551616)
    (_ho1 : on ≤ oc) (_ho2 : oc ≤ 9223372036854775807) (hrd : Rd W W.heap.size oA on own) (hc2 : n2 ≤ c2) (hcm2 : c2 ≤ 9223372036854775807) (hr2 : Acts10 W W.heap.size A2 n2 f2) :
    Calls Try.prog 6 #[.slice A n c, .int .u64 (s : Int), .slice oA on oc, .slice A2 n2 c2] W fun e W' => e = .returned (.bool true) ∧ Below W.heap.size W W' := by
  have HK := Lib.hid (fun w => known10_any w)
  have HL1 := Lib.hid (long10_any A n c W.heap.size f W ⟨hc, hcm⟩ hr)
  have HL2 := Lib.hid (long10_any A2 n2 c2 W.heap.size f2 W ⟨hc2, hcm2⟩ hr2)
  have HBW : Hid (Below W.heap.size W W) := Lib.hid (Below.refl _ _)
  have HA1 := Lib.hid (acts_at hr)
  have HA2 := Lib.hid (acts_at hr2)
  have HT := Lib.hid (three_any W)
  have HRd := Lib.hid (fun w (hb : Below W.heap.size W w) => (hrd.below hb).more hb.size)
  have hol : own.length = on := hrd.1
  have Hol := Lib.hid hol
  clear hr hr2 hrd hol
  by_cases hz : s = 0
  · subst hz
    by_cases h100 : 100 < on
    · have n1 : (on : Int) > 100 := by omega
      have n1b : decide (100 < (on : Int)) = true := decide_eq_true (by omega)
      go_enter Try.func6, Try.ntmps6
      go_wp2_with fail
      refine HL1.out.mono ?_
      rintro e w1 ⟨b1, rfl, rfl, _⟩
      cases b1 with
      | true =>
        go_wp2_with fail
        refine (HK.out _).mono ?_
        rintro e w90 ⟨rfl, hb90⟩
        have HB90 := Lib.hid (below_then HBW.out hb90)
        clear hb90
        go_wp2
        go_ret
        exact ⟨rfl, HB90.out⟩
      | false =>
        go_wp2_with fail
        refine HL2.out.mono ?_
        rintro e w1 ⟨b2, rfl, rfl, _⟩
        cases b2 with
        | true =>
          go_wp2_with fail
          refine (HK.out _).mono ?_
          rintro e w90 ⟨rfl, hb90⟩
          have HB90 := Lib.hid (below_then HBW.out hb90)
          clear hb90
          go_wp2
          go_ret
          exact ⟨rfl, HB90.out⟩
        | false =>
          go_wp2_with fail
          refine (HK.out _).mono ?_
          rintro e w90 ⟨rfl, hb90⟩
          have HB90 := Lib.hid (below_then HBW.out hb90)
          clear hb90
          go_wp2
          go_ret
          exact ⟨rfl, HB90.out⟩
    · have n1 : ¬ (on : Int) > 100 := by omega
      have n1b : decide (100 < (on : Int)) = false := decide_eq_false (by omega)
      go_enter Try.func6, Try.ntmps6
      go_wp2_with fail
      refine HL1.out.mono ?_
      rintro e w1 ⟨b1, rfl, rfl, _⟩
      cases b1 with
      | true =>
        go_wp2_with fail
        refine (HK.out _).mono ?_
        rintro e w90 ⟨rfl, hb90⟩
        have HB90 := Lib.hid (below_then HBW.out hb90)
        clear hb90
        go_wp2
        go_ret
        exact ⟨rfl, HB90.out⟩
      | false =>
        go_wp2_with fail
        refine HL2.out.mono ?_
        rintro e w1 ⟨b2, rfl, rfl, _⟩
        cases b2 with
        | true =>
          go_wp2_with fail
          refine (HK.out _).mono ?_
          rintro e w90 ⟨rfl, hb90⟩
          have HB90 := Lib.hid (below_then HBW.out hb90)
          clear hb90
          go_wp2
          go_ret
          exact ⟨rfl, HB90.out⟩
        | false =>
          go_wp2_with fail
          refine (HK.out _).mono ?_
          rintro e w90 ⟨rfl, hb90⟩
          have HB90 := Lib.hid (below_then HBW.out hb90)
          clear hb90
          go_wp2
          go_ret
          exact ⟨rfl, HB90.out⟩
  have n0 : ¬ (s : Int) = 0 := by omega
  have n0b : ((s : Int) == 0) = false := by simpa using n0
  have hs0 : 0 < s := by omega
  by_cases h100 : 100 < on
  · have n1 : (on : Int) > 100 := by omega
    have n1b : decide (100 < (on : Int)) = true := decide_eq_true (by omega)
    go_enter Try.func6, Try.ntmps6
    go_wp2_with fail
    refine HL1.out.mono ?_
    rintro e w1 ⟨b1, rfl, rfl, _⟩
    cases b1 with
    | true =>
      go_wp2_with fail
      refine (HK.out _).mono ?_
      rintro e w90 ⟨rfl, hb90⟩
      have HB90 := Lib.hid (below_then HBW.out hb90)
      clear hb90
      go_wp2
      go_ret
      exact ⟨rfl, HB90.out⟩
    | false =>
      go_wp2_with fail
      refine HL2.out.mono ?_
      rintro e w1 ⟨b2, rfl, rfl, _⟩
      cases b2 with
      | true =>
        go_wp2_with fail
        refine (HK.out _).mono ?_
        rintro e w90 ⟨rfl, hb90⟩
        have HB90 := Lib.hid (below_then HBW.out hb90)
        clear hb90
        go_wp2
        go_ret
        exact ⟨rfl, HB90.out⟩
      | false =>
        go_wp2_with fail
        refine (HK.out _).mono ?_
        rintro e w90 ⟨rfl, hb90⟩
        have HB90 := Lib.hid (below_then HBW.out hb90)
        clear hb90
        go_wp2
        go_ret
        exact ⟨rfl, HB90.out⟩
  have n1 : ¬ (on : Int) > 100 := by omega
  have n1b : decide (100 < (on : Int)) = false := decide_eq_false (by omega)
  go_enter Try.func6, Try.ntmps6
  go_wp2_with fail
  refine HL1.out.mono ?_
  rintro e w1 ⟨b1, rfl, rfl, hb1⟩
  cases b1 with
  | true =>
    go_wp2_with fail
    refine (HK.out _).mono ?_
    rintro e w90 ⟨rfl, hb90⟩
    have HB90 := Lib.hid (below_then HBW.out hb90)
    clear hb90
    go_wp2
    go_ret
    exact ⟨rfl, HB90.out⟩
  | false =>
    have HF1 := Lib.hid (hb1 rfl)
    clear hb1
    go_wp2_with fail
    refine HL2.out.mono ?_
    rintro e w1 ⟨b2, rfl, rfl, hb2⟩
    cases b2 with
    | true =>
      go_wp2_with fail
      refine (HK.out _).mono ?_
      rintro e w90 ⟨rfl, hb90⟩
      have HB90 := Lib.hid (below_then HBW.out hb90)
      clear hb90
      go_wp2
      go_ret
      exact ⟨rfl, HB90.out⟩
    | false =>
      have HF2 := Lib.hid (hb2 rfl)
      clear hb2
      have HN := Lib.hid (fun w (hb : Below W.heap.size W w) => OwP.new kq3 none 0 0 ⟨900, 0⟩ 1 W w hb (qi_kq3 w) kq3_right (by decide) (by decide) (by decide) (by decide) (by decide))
      have hq : qV kq3 (.slice none 0 0) = .agg #[.int .i64 1, .int .i64 3, .int .i64 2, .int .i64 2, .slice none 0 0] := rfl
      have hbl : blV ⟨900, 0⟩ = .agg #[.int .u64 900, .int .i64 0] := rfl
      rw [hq, hbl] at HN
      clear hq hbl HL1 HL2
      go_wp2_with fail
      refine HT.out.mono ?_
      rintro e w1 ⟨rfl, hb1⟩
      have HB1 := Lib.hid hb1
      clear hb1
      go_wp2_with fail
      refine (HN.out w1 HB1.out).mono ?_
      rintro e w2 ⟨g, F0, rfl, ho⟩
      have HI : Hid (S1 W w2 g 0 F0 (Pp.new kq3 ⟨900, 0⟩ 1)) := Lib.hid ⟨ho, rfl, rfl, rfl, Nat.le_refl _, rfl⟩
      clear ho HN HT
      generalize Pp.new kq3 ⟨900, 0⟩ 1 = p0 at *
      obtain ⟨M, hM⟩ : ∃ M, M = min n 30 := ⟨_, rfl⟩
      go_wp2_with fail
      go_loopg [11] M (fun gk i wr => ∃ (k : Nat) (F : Nat → Prop) (p : Pp), i = .int .i64 (k : Int) ∧ k + gk = M ∧ Hid (S1 W wr g k F p))
      case atStart => exact ⟨0, F0, p0, rfl, by omega, HI⟩
      case round =>
        obtain ⟨k, F, p, rfl, hkg, HI⟩ := hrel
        by_cases hk : k < M
        · have hkn : k < n := by omega
          have hk30 : k < 30 := by omega
          obtain ⟨b, o, rfl, hok, hcl⟩ := HA1.out _ HI.out.own.bel k hkn
          obtain ⟨c0, c1, _, _, c4⟩ := hcl _ HI.out.own.bel
          have HP := Lib.hid ((HI.out.below (bel_drewN (Below.refl _ _) 1)).prom hok ((HF1.out k hkn (by omega)).2) (by omega))
          clear hcl
          generalize (f k).kind = kd at *
          generalize (f k).node = nd at *
          generalize (f k).vA = vA at *
          generalize (f k).vn = vn at *
          generalize (f k).vc = vc at *
          clear hok
          by_cases hkd : kd ≤ 1
          · go_upto_region 10 with (fail)
            go_still_tail 11, (by kernel_rfl)
            change wpList _ _ _ _ _ wr.drew
            go_wp2_with fail
            refine HP.out.mono ?_
            rintro e w5 ⟨F5, p5, r5, rfl, hI5⟩
            have HI5 := Lib.hid hI5
            clear hI5 HP HI c0 c1 c4
            go_wp2
            go_roundg (gk - 1)
            case measure => omega
            case rel => exact ⟨k + 1, F5, p5, by go_num, by omega, HI5⟩
          · have HI5 : Hid (S1 W wr g (k + 1) F p) := Lib.hid ⟨HI.out.own, HI.out.q, HI.out.bal, HI.out.base, Nat.le_trans HI.out.told (by omega), HI.out.props⟩
            clear HP HI c1 c4
            go_wp2
            go_roundg (gk - 1)
            case measure => omega
            case rel => exact ⟨k + 1, F, p, by go_num, by omega, HI5⟩
        · have h30 : k < n → ¬ k < 30 := fun h => by omega
          have hk30' : k ≤ 30 := by omega
          have H30 := Lib.hid h30
          clear HA1 HF1 h30 hM hkg hk
          go_upto_region 7 with (fail)
          go_cut [55] from 48 to 75 (fun b wx => b = .bool false ∧ wr = wx)
          case first =>
            by_cases hkn : k < n
            · have hk30 : ¬ k < 30 := H30.out hkn
              go_wp2
              go_meet
              exact ⟨by first | rfl | (rw [decide_eq_false (by omega)]), rfl⟩
            · go_wp2
              go_meet
              exact ⟨rfl, rfl⟩
          case rest =>
            obtain ⟨rfl, rfl⟩ := hcut
            have hk30 : k < 1000 := by omega
            have HP0 : Hid (Calls Try.prog 16 #[.pointer (some ⟨g, 0, none⟩), .int .i64 0, .slice none 0 0] wr fun e w' => ∃ F' p', e = .returned (.int .i64 0) ∧ S1 W w' g k F' p' ∧ p'.prom.testBit 0 = true ∧ ∀ i, p.prom.testBit i = true → p'.prom.testBit i = true) := Lib.hid (HI.out.nil hk30 0 (by decide))
            clear HI
            go_wp2_with fail
            ((with_reducible refine HP0.out.mono ?_))
            rintro e w3 ⟨F3, p3, rfl, hI3, hb30, _⟩
            have HI3 := Lib.hid hI3
            have HT30 := Lib.hid hb30
            have HP1 : Hid (Calls Try.prog 16 #[.pointer (some ⟨g, 0, none⟩), .int .i64 1, .slice none 0 0] w3 fun e w' => ∃ F' p', e = .returned (.int .i64 0) ∧ S1 W w' g k F' p' ∧ p'.prom.testBit 1 = true ∧ ∀ i, p3.prom.testBit i = true → p'.prom.testBit i = true) := Lib.hid (HI3.out.nil hk30 1 (by decide))
            clear hI3 hb30 HP0
            go_wp2_with fail
            ((with_reducible refine HP1.out.mono ?_))
            rintro e w4 ⟨F4, p4, rfl, hI4, hb41, hb40⟩
            have HPr := Lib.hid (hI4.propose (hb40 0 HT30.out) hb41 hs0 hs (oc := oc) (by rw [Hol.out]; omega) (HRd.out w4 hI4.own.bel))
            clear hI4 hb41 hb40 HP1 HI3 HT30
            generalize sameV p4 s own = vv at *
            go_wp2_with fail
            ((with_reducible refine HPr.out.mono ?_))
            rintro e w7 ⟨F7, p7, A7, c7, rfl, hap, hS⟩
            have HS := Lib.hid (hS.below (bel1P (.cells #[.int .u64 (s : Int), .int .u64 900, .int .i64 0, .slice A7 vv.length c7] 48)))
            have HKp := Lib.hid (KpB.new hS.own.pm.lt #[.int .u64 (s : Int), .int .u64 900, .int .i64 0, .slice A7 vv.length c7])
            have HAp := Lib.hid (hap.below (bel1P (.cells #[.int .u64 (s : Int), .int .u64 900, .int .i64 0, .slice A7 vv.length c7] 48)))
            have HZ0 : Hid (w7.heap.size < w7.heap.size + 1) := Lib.hid (Nat.lt_succ_self _)
            clear hap hS HPr
            obtain ⟨gv, hgv⟩ : ∃ gv, gv = w7.heap.size := ⟨_, rfl⟩
            go_upto_region 14 with (fail)
            rw [← hgv] at HKp
            rw [← hgv]
            generalize w7.alloc (.cells #[.int .u64 (s : Int), .int .u64 900, .int .i64 0, .slice A7 vv.length c7] 48) = w8 at *
            have HA0 := Lib.hid (HS.out.a0 hs)
            clear hgv HZ0
            go_wp2_with fail
            ((with_reducible refine HA0.out.mono ?_))
            rintro e w9 ⟨F9, p9, rfl, hS9, hz9, hm9⟩
            have HA2c := Lib.hid (hS9.a2 hz9 hs)
            have HKp9 := Lib.hid (HKp.out.mv hm9)
            have HAp9 := Lib.hid (HAp.out.mv hm9)
            clear hS9 hz9 hm9 HA0 HKp HAp HS
            go_wp2_with fail
            ((with_reducible refine HA2c.out.mono ?_))
            rintro e w10 ⟨F10, p10, rfl, hS10, hc10, hm10⟩
            have HJ : Hid (S2 W w10 g k s vv F10 p10 ∧ p10.isChosen s = true ∧ KpB w10 F10 gv #[.int .u64 (s : Int), .int .u64 900, .int .i64 0, .slice A7 vv.length c7] ∧ Ap w10 F10 w4.heap.size (.slice A7 vv.length c7) vv) := Lib.hid ⟨hS10, hc10, HKp9.out.mv hm10, HAp9.out.mv hm10⟩
            clear hS10 hc10 hm10 HA2c HKp9 HAp9
            obtain ⟨M2, hM2⟩ : ∃ M2, M2 = min n2 30 := ⟨_, rfl⟩
            obtain ⟨kk, hkk⟩ : ∃ kk, kk = k := ⟨_, rfl⟩
            have hkk30 : kk ≤ 30 := by rw [hkk]; exact hk30'
            rw [← hkk] at HJ
            clear hkk
            go_wp2_with fail
            go_loopg [14] M2 (fun gk i wr => ∃ (j : Nat) (F : Nat → Prop) (p : Pp), i = .int .i64 (j : Int) ∧ j + gk = M2 ∧ Hid (S2 W wr g (kk + j) s vv F p ∧ p.isChosen s = true ∧ KpB wr F gv #[.int .u64 (s : Int), .int .u64 900, .int .i64 0, .slice A7 vv.length c7] ∧ Ap wr F w4.heap.size (.slice A7 vv.length c7) vv))
            case atStart => exact ⟨0, F10, p10, rfl, by omega, HJ⟩
            case round =>
              obtain ⟨j, F, p, rfl, hjg, HJ⟩ := hrel
              by_cases hj : j < M2
              · have hjn : j < n2 := by omega
                have hj30 : j < 30 := by omega
                obtain ⟨b, o, rfl, hok, hcl⟩ := HA2.out _ HJ.out.1.own.bel j hjn
                obtain ⟨e0, e1, e2, e3, e4⟩ := hcl _ HJ.out.1.own.bel
                have hbx : Below wr.heap.size wr (wr.alloc (.cells (acC (f2 j)) 42)) := bel1P _
                have hkx := Bk.new wr 42 (acC (f2 j))
                have HS3 := Lib.hid (HJ.out.1.below hbx)
                have HKx := Lib.hid (HJ.out.2.2.1.below hbx)
                have HAx := Lib.hid (HJ.out.2.2.2.below hbx)
                have HBx : Hid (∀ w', Kp F (wr.alloc (.cells (acC (f2 j)) 42)) w' → Bk w' wr.heap.size 42 (acC (f2 j))) := Lib.hid fun w' hk => hkx.kp hk (fun hf => by have := HJ.out.1.own.pm.lt _ hf; omega)
                have HPm := Lib.hid (HS3.out.prom HJ.out.2.1 hok ((HF2.out j hjn (by omega)).2) (by omega))
                have HAc := Lib.hid (HS3.out.acc (f2 j).node (f2 j).slot hok.slot)
                have HOw := Lib.hid (fun w hb => (hok.below (w' := w) hb).own.more hb.size)
                have hon := (HF2.out j hjn (by omega)).1
                have HC0 := Lib.hid HJ.out.2.1
                clear hcl hbx hok HJ
                unfold acC at HBx HS3 HKx HAx HPm HAc hkx
                have x0 := hkx.cell 0
                have x1 := hkx.cell 1
                have x2 := hkx.cell 2
                have x3 := hkx.cell 3
                have x4 := hkx.cell 4
                simp only [List.getElem?_toArray, List.getElem?_cons_zero, List.getElem?_cons_succ] at x0 x1 x2 x3 x4
                clear hkx
                generalize (f2 j).kind = kd at *
                generalize (f2 j).node = nd at *
                generalize (f2 j).slot = asl at *
                generalize (f2 j).oA = xoA at *
                generalize (f2 j).on = xon at *
                generalize (f2 j).oc = xoc at *
                generalize (f2 j).own = xow at *
                generalize (f2 j).vA = vA at *
                generalize (f2 j).vn = vn at *
                generalize (f2 j).vc = vc at *
                go_upto_region 22 with (fail)
                generalize wr.alloc (.cells #[.int .i64 kd, .int .i64 nd, .int .u64 (asl : Int), .slice xoA xon xoc, .slice vA vn vc] 42) = w3b at *
                clear e0 e1 e2 e3 e4
                by_cases hkd : kd ≤ 1
                · go_wp2_with fail
                  ((with_reducible refine HPm.out.mono ?_))
                  rintro e w5 ⟨F5, p5, r5, rfl, hS5, hc5, hm5⟩
                  have HS5 := Lib.hid hS5
                  have HC5 := Lib.hid hc5
                  have HK5 := Lib.hid (HKx.out.mv hm5)
                  have HA5 := Lib.hid (HAx.out.mv hm5)
                  have hbx5 := (HBx.out w5 hm5.kp).cell 3
                  simp only [List.getElem?_toArray, List.getElem?_cons_zero, List.getElem?_cons_succ] at hbx5
                  clear hS5 hc5 hm5 HPm HAc HS3 HKx HAx HBx HC0 x0 x1 x2 x3 x4
                  have HAg := Lib.hid (HS5.out.again hs0 hs (oc := xoc) hon (HOw.out w5 HS5.out.own.bel))
                  go_upto_region 25 with (fail)
                  go_wp2_with fail
                  ((with_reducible refine HAg.out.mono ?_))
                  rintro e w6 ⟨F6, A6, c6, rfl, hap6, hS6, hm6⟩
                  have hb7 : Below w6.heap.size w6 (w6.alloc (.cells #[.int .u64 (s : Int), .int .u64 900, .int .i64 0, .slice A6 vv.length c6] 48)) := bel1P _
                  have hk7 := Bk.new w6 48 #[.int .u64 (s : Int), .int .u64 900, .int .i64 0, .slice A6 vv.length c6]
                  have HS7 := Lib.hid (hS6.below hb7)
                  have HK7 := Lib.hid ((HK5.out.mv hm6).below hb7)
                  have HA7 := Lib.hid ((HA5.out.mv hm6).below hb7)
                  have HR7 := Lib.hid (Rd.of_own (own_below hap6.1 hb7 (fun k e => (hap6.1.lt k e).2)))
                  have HQ7 := Lib.hid hk7
                  clear hap6 hS6 hm6 hb7 hk7 hbx5 HAg HS5 HK5 HA5
                  go_upto_region 26 with (fail)
                  obtain ⟨gw, hgw⟩ : ∃ gw, gw = w6.heap.size := ⟨_, rfl⟩
                  rw [← hgw] at HQ7
                  rw [← hgw]
                  generalize w6.alloc (.cells #[.int .u64 (s : Int), .int .u64 900, .int .i64 0, .slice A6 vv.length c6] 48) = w7b at *
                  clear hgw
                  have HCh := Lib.hid (HS7.out.chosen HC5.out hs)
                  go_wp2_with fail
                  ((with_reducible refine HCh.out.mono ?_))
                  rintro e w8b ⟨A8, c8, rfl, hrd8, hb8⟩
                  have HS8 := Lib.hid (HS7.out.below hb8)
                  have HK8 := Lib.hid (HK7.out.below hb8)
                  have HA8 := Lib.hid (HA7.out.below hb8)
                  have HR8 := Lib.hid (HR7.out.up hb8)
                  have HQ8 := Lib.hid (HQ7.out.below hb8 HQ7.out.lt)
                  have HV8 := Lib.hid hrd8
                  clear hrd8 hb8 HCh HS7 HK7 HA7 HR7 HQ7
                  have y0 : w8b.cell? ⟨gv, 0, none⟩ = some (.int .u64 (s : Int)) := HK8.out.bk.cell 0
                  have y1 : w8b.cell? ⟨gv, 1, none⟩ = some (.int .u64 900) := HK8.out.bk.cell 1
                  have y2 : w8b.cell? ⟨gv, 2, none⟩ = some (.int .i64 0) := HK8.out.bk.cell 2
                  have y3 : w8b.cell? ⟨gv, 3, none⟩ = some (.slice A7 vv.length c7) := HK8.out.bk.cell 3
                  have u0 : w8b.cell? ⟨gw, 0, none⟩ = some (.int .u64 (s : Int)) := HQ8.out.cell 0
                  have u1 : w8b.cell? ⟨gw, 1, none⟩ = some (.int .u64 900) := HQ8.out.cell 1
                  have u2 : w8b.cell? ⟨gw, 2, none⟩ = some (.int .i64 0) := HQ8.out.cell 2
                  have u3 : w8b.cell? ⟨gw, 3, none⟩ = some (.slice A6 vv.length c6) := HQ8.out.cell 3
                  have hgwl := HQ8.out.lt
                  have hgvl := HK8.out.bk.lt
                  have HSm : Hid (Calls Try.prog 27 #[.slice (some ⟨w8b.heap.size, 0, none⟩) 1 1, .slice (some ⟨w8b.heap.size + 1, 0, none⟩) 1 1] ((w8b.alloc (.cells #[.int .u64 (s : Int), .int .u64 900, .int .i64 0, .slice A7 vv.length c7] 48)).alloc (.cells #[.int .u64 (s : Int), .int .u64 900, .int .i64 0, .slice A6 vv.length c6] 48)) fun e w' => e = .returned (.bool true) ∧ (Below w8b.heap.size w8b w')) := by
                    have b1 : Below w8b.heap.size w8b (w8b.alloc (.cells #[.int .u64 (s : Int), .int .u64 900, .int .i64 0, .slice A7 vv.length c7] 48)) := bel1P _
                    have z1 : (w8b.alloc (.cells #[.int .u64 (s : Int), .int .u64 900, .int .i64 0, .slice A7 vv.length c7] 48)).heap.size = w8b.heap.size + 1 := by simp
                    have b2 : Below (w8b.alloc (.cells #[.int .u64 (s : Int), .int .u64 900, .int .i64 0, .slice A7 vv.length c7] 48)).heap.size (w8b.alloc (.cells #[.int .u64 (s : Int), .int .u64 900, .int .i64 0, .slice A7 vv.length c7] 48)) ((w8b.alloc (.cells #[.int .u64 (s : Int), .int .u64 900, .int .i64 0, .slice A7 vv.length c7] 48)).alloc (.cells #[.int .u64 (s : Int), .int .u64 900, .int .i64 0, .slice A6 vv.length c6] 48)) := bel1P _
                    have k1 := (Bk.new w8b 48 #[.int .u64 (s : Int), .int .u64 900, .int .i64 0, .slice A7 vv.length c7]).below b2 (by rw [z1]; omega)
                    have k2 := Bk.new (w8b.alloc (.cells #[.int .u64 (s : Int), .int .u64 900, .int .i64 0, .slice A7 vv.length c7] 48)) 48 #[.int .u64 (s : Int), .int .u64 900, .int .i64 0, .slice A6 vv.length c6]
                    rw [z1] at k2
                    refine Lib.hid ((same09_one w8b.heap.size (w8b.heap.size + 1) s 900 0 A7 A6 c7 c6 _ _ vv _ k1 k2 ((Rd.of_own HA8.out.1).up (below_then b1 b2)) (HR8.out.up (below_then b1 b2))).mono ?_)
                    rintro e w' ⟨rfl, hb⟩
                    exact ⟨rfl, below_then (below_then b1 b2) hb⟩
                  clear HR8 HQ8
                  go_wp2_with fail
                  ((with_reducible refine HSm.out.mono ?_))
                  rintro e w9b ⟨rfl, hb9⟩
                  have HJ9 : Hid (S2 W w9b g (kk + (j + 1)) s vv F6 p5 ∧ p5.isChosen s = true ∧ KpB w9b F6 gv #[.int .u64 (s : Int), .int .u64 900, .int .i64 0, .slice A7 vv.length c7] ∧ Ap w9b F6 w4.heap.size (.slice A7 vv.length c7) vv) := Lib.hid ⟨HS8.out.below hb9, HC5.out, HK8.out.below hb9, HA8.out.below hb9⟩
                  have HE9 := Lib.hid (same_any A8 A7 vv.length vv.length c8 c7 _ _ vv vv w9b (HV8.out.up hb9) (Rd.of_own HJ9.out.2.2.2.1))
                  have y3 : w9b.cell? ⟨gv, 3, none⟩ = some (.slice A7 vv.length c7) := HJ9.out.2.2.1.bk.cell 3
                  rw [show (vv == vv) = true by simp] at HE9
                  clear hb9 HS8 HK8 HA8 HV8 HSm u0 u1 u2 u3 y0 y1 y2 hgwl hgvl
                  go_wp2_with fail
                  ((with_reducible refine HE9.out.mono ?_))
                  rintro e w10b ⟨rfl, rfl⟩
                  clear HE9 y3
                  go_wp2
                  go_roundg (gk - 1)
                  case measure => omega
                  case rel => exact ⟨j + 1, F6, p5, by go_num, by omega, HJ9⟩
                · go_wp2_with fail
                  ((with_reducible refine HAc.out.mono ?_))
                  rintro e w5 ⟨F5, rfl, hS5, hc5, hm5⟩
                  have HC5 := Lib.hid (hc5 HC0.out)
                  have HS5 : Hid (S2 W w5 g (kk + j + 1) s vv F5 (p.accepted nd asl).2) := Lib.hid ⟨hS5.own, hS5.q, hS5.bal, hS5.base, Nat.le_trans hS5.told (by omega), hS5.len, hS5.ready, hS5.z⟩
                  have HK5 := Lib.hid (HKx.out.mv hm5)
                  have HA5 := Lib.hid (HAx.out.mv hm5)
                  have hbx5 := (HBx.out w5 hm5.kp).cell 3
                  simp only [List.getElem?_toArray, List.getElem?_cons_zero, List.getElem?_cons_succ] at hbx5
                  clear hS5 hc5 hm5 HPm HAc HS3 HKx HAx HBx HC0 x0 x1 x2 x3 x4
                  generalize (p.accepted nd asl).2 = p5 at *
                  generalize (p.accepted nd asl).1 = r5 at *
                  have HAg := Lib.hid (HS5.out.again hs0 hs (oc := xoc) hon (HOw.out w5 HS5.out.own.bel))
                  go_upto_region 25 with (fail)
                  go_wp2_with fail
                  ((with_reducible refine HAg.out.mono ?_))
                  rintro e w6 ⟨F6, A6, c6, rfl, hap6, hS6, hm6⟩
                  have hb7 : Below w6.heap.size w6 (w6.alloc (.cells #[.int .u64 (s : Int), .int .u64 900, .int .i64 0, .slice A6 vv.length c6] 48)) := bel1P _
                  have hk7 := Bk.new w6 48 #[.int .u64 (s : Int), .int .u64 900, .int .i64 0, .slice A6 vv.length c6]
                  have HS7 := Lib.hid (hS6.below hb7)
                  have HK7 := Lib.hid ((HK5.out.mv hm6).below hb7)
                  have HA7 := Lib.hid ((HA5.out.mv hm6).below hb7)
                  have HR7 := Lib.hid (Rd.of_own (own_below hap6.1 hb7 (fun k e => (hap6.1.lt k e).2)))
                  have HQ7 := Lib.hid hk7
                  clear hap6 hS6 hm6 hb7 hk7 hbx5 HAg HS5 HK5 HA5
                  go_upto_region 26 with (fail)
                  obtain ⟨gw, hgw⟩ : ∃ gw, gw = w6.heap.size := ⟨_, rfl⟩
                  rw [← hgw] at HQ7
                  rw [← hgw]
                  generalize w6.alloc (.cells #[.int .u64 (s : Int), .int .u64 900, .int .i64 0, .slice A6 vv.length c6] 48) = w7b at *
                  clear hgw
                  have HCh := Lib.hid (HS7.out.chosen HC5.out hs)
                  go_wp2_with fail
                  ((with_reducible refine HCh.out.mono ?_))
                  rintro e w8b ⟨A8, c8, rfl, hrd8, hb8⟩
                  have HS8 := Lib.hid (HS7.out.below hb8)
                  have HK8 := Lib.hid (HK7.out.below hb8)
                  have HA8 := Lib.hid (HA7.out.below hb8)
                  have HR8 := Lib.hid (HR7.out.up hb8)
                  have HQ8 := Lib.hid (HQ7.out.below hb8 HQ7.out.lt)
                  have HV8 := Lib.hid hrd8
                  clear hrd8 hb8 HCh HS7 HK7 HA7 HR7 HQ7
                  have y0 : w8b.cell? ⟨gv, 0, none⟩ = some (.int .u64 (s : Int)) := HK8.out.bk.cell 0
                  have y1 : w8b.cell? ⟨gv, 1, none⟩ = some (.int .u64 900) := HK8.out.bk.cell 1
                  have y2 : w8b.cell? ⟨gv, 2, none⟩ = some (.int .i64 0) := HK8.out.bk.cell 2
                  have y3 : w8b.cell? ⟨gv, 3, none⟩ = some (.slice A7 vv.length c7) := HK8.out.bk.cell 3
                  have u0 : w8b.cell? ⟨gw, 0, none⟩ = some (.int .u64 (s : Int)) := HQ8.out.cell 0
                  have u1 : w8b.cell? ⟨gw, 1, none⟩ = some (.int .u64 900) := HQ8.out.cell 1
                  have u2 : w8b.cell? ⟨gw, 2, none⟩ = some (.int .i64 0) := HQ8.out.cell 2
                  have u3 : w8b.cell? ⟨gw, 3, none⟩ = some (.slice A6 vv.length c6) := HQ8.out.cell 3
                  have hgwl := HQ8.out.lt
                  have hgvl := HK8.out.bk.lt
                  have HSm : Hid (Calls Try.prog 27 #[.slice (some ⟨w8b.heap.size, 0, none⟩) 1 1, .slice (some ⟨w8b.heap.size + 1, 0, none⟩) 1 1] ((w8b.alloc (.cells #[.int .u64 (s : Int), .int .u64 900, .int .i64 0, .slice A7 vv.length c7] 48)).alloc (.cells #[.int .u64 (s : Int), .int .u64 900, .int .i64 0, .slice A6 vv.length c6] 48)) fun e w' => e = .returned (.bool true) ∧ (Below w8b.heap.size w8b w')) := by
                    have b1 : Below w8b.heap.size w8b (w8b.alloc (.cells #[.int .u64 (s : Int), .int .u64 900, .int .i64 0, .slice A7 vv.length c7] 48)) := bel1P _
                    have z1 : (w8b.alloc (.cells #[.int .u64 (s : Int), .int .u64 900, .int .i64 0, .slice A7 vv.length c7] 48)).heap.size = w8b.heap.size + 1 := by simp
                    have b2 : Below (w8b.alloc (.cells #[.int .u64 (s : Int), .int .u64 900, .int .i64 0, .slice A7 vv.length c7] 48)).heap.size (w8b.alloc (.cells #[.int .u64 (s : Int), .int .u64 900, .int .i64 0, .slice A7 vv.length c7] 48)) ((w8b.alloc (.cells #[.int .u64 (s : Int), .int .u64 900, .int .i64 0, .slice A7 vv.length c7] 48)).alloc (.cells #[.int .u64 (s : Int), .int .u64 900, .int .i64 0, .slice A6 vv.length c6] 48)) := bel1P _
                    have k1 := (Bk.new w8b 48 #[.int .u64 (s : Int), .int .u64 900, .int .i64 0, .slice A7 vv.length c7]).below b2 (by rw [z1]; omega)
                    have k2 := Bk.new (w8b.alloc (.cells #[.int .u64 (s : Int), .int .u64 900, .int .i64 0, .slice A7 vv.length c7] 48)) 48 #[.int .u64 (s : Int), .int .u64 900, .int .i64 0, .slice A6 vv.length c6]
                    rw [z1] at k2
                    refine Lib.hid ((same09_one w8b.heap.size (w8b.heap.size + 1) s 900 0 A7 A6 c7 c6 _ _ vv _ k1 k2 ((Rd.of_own HA8.out.1).up (below_then b1 b2)) (HR8.out.up (below_then b1 b2))).mono ?_)
                    rintro e w' ⟨rfl, hb⟩
                    exact ⟨rfl, below_then (below_then b1 b2) hb⟩
                  clear HR8 HQ8
                  go_wp2_with fail
                  ((with_reducible refine HSm.out.mono ?_))
                  rintro e w9b ⟨rfl, hb9⟩
                  have HJ9 : Hid (S2 W w9b g (kk + (j + 1)) s vv F6 p5 ∧ p5.isChosen s = true ∧ KpB w9b F6 gv #[.int .u64 (s : Int), .int .u64 900, .int .i64 0, .slice A7 vv.length c7] ∧ Ap w9b F6 w4.heap.size (.slice A7 vv.length c7) vv) := Lib.hid ⟨HS8.out.below hb9, HC5.out, HK8.out.below hb9, HA8.out.below hb9⟩
                  have HE9 := Lib.hid (same_any A8 A7 vv.length vv.length c8 c7 _ _ vv vv w9b (HV8.out.up hb9) (Rd.of_own HJ9.out.2.2.2.1))
                  have y3 : w9b.cell? ⟨gv, 3, none⟩ = some (.slice A7 vv.length c7) := HJ9.out.2.2.1.bk.cell 3
                  rw [show (vv == vv) = true by simp] at HE9
                  clear hb9 HS8 HK8 HA8 HV8 HSm u0 u1 u2 u3 y0 y1 y2 hgwl hgvl
                  go_wp2_with fail
                  ((with_reducible refine HE9.out.mono ?_))
                  rintro e w10b ⟨rfl, rfl⟩
                  clear HE9 y3
                  go_wp2
                  go_roundg (gk - 1)
                  case measure => omega
                  case rel => exact ⟨j + 1, F6, p5, by go_num, by omega, HJ9⟩
              · have hkM2 : j = M2 := by omega
                have HBr := Lib.hid HJ.out.1.own.bel
                clear HJ
                by_cases hjn : j < n2
                · have hj30 : ¬ j < 30 := by omega
                  go_wp2_with fail
                  refine (HK.out _).mono ?_
                  rintro e w90 ⟨rfl, hb90⟩
                  have HB90 := Lib.hid (below_then HBr.out hb90)
                  clear hb90
                  go_wp2
                  go_ret
                  exact ⟨rfl, HB90.out⟩
                · skip
                  go_wp2_with fail
                  refine (HK.out _).mono ?_
                  rintro e w90 ⟨rfl, hb90⟩
                  have HB90 := Lib.hid (below_then HBr.out hb90)
                  clear hb90
                  go_wp2
                  go_ret
                  exact ⟨rfl, HB90.out⟩
namespace proposeSame
set_option maxRecDepth 100000 in
theorem lifted (os : Os) (started : os.Started) (H : Type) (enc : TypeId × Value → H) :
    ReturnsInHanded {} Try.checked os 6 .any (Rows.proposeSameSpec.pre6 enc Try.prog Try.f6 Rows.proposeSameRow.domain false) (Rows.proposeSameSpec.post enc Try.prog Try.f6 false true false false) := by
  refine law_lift started (by kernel_rfl) Try.func6
    (ChangeSpec.witness6 (enc := enc) (C := Try.checked) false ⟨#[], #[.slice none 0 0, .int .u64 0, .slice none 0 0, .slice none 0 0], []⟩ 8 (by kernel_rfl) (by kernel_rfl) (by kernel_rfl) (by kernel_rfl))
    rfl ?_ (by kernel_rfl) (by kernel_rfl) ?_
  · intro ds h
    match ds, h with
    | [_, _, _, _], _ => rfl
  intro W base args ds p g
  have hA := g.trod
  have hval := g.val
  rw [Try.params6] at hA hval
  obtain ⟨v0, vs0, d0, ds0, p0, q0, hargs, rfl, rfl, h0, r0⟩ := trodAll_cons hA
  obtain ⟨v1, vs1, d1, ds1, p1, q1, rfl, rfl, rfl, h1, r1⟩ := trodAll_cons r0
  obtain ⟨v2, vs2, d2, ds2, p2, q2, rfl, rfl, rfl, h2, r2⟩ := trodAll_cons r1
  obtain ⟨v3, vs3, d3, ds3, p3, q3, rfl, rfl, rfl, h3, r3⟩ := trodAll_cons r2
  obtain ⟨rfl, rfl, rfl⟩ := trodAll_nil r3
  obtain rfl : args = #[v0, v1, v2, v3] := by cases args; simp_all
  obtain ⟨A0, n0, c0, f0, rfl, hc0, hm0, hr0⟩ := given_acts10 (hval 0 28 v0 rfl rfl) h0
  obtain ⟨a1, rfl, _, _, w1⟩ := open_int Try.underlying25 (hval 1 25 v1 rfl rfl) h1
  have b1 := bounds_u64 w1
  obtain ⟨m1, rfl⟩ := Int.eq_ofNat_of_zero_le b1.1
  obtain ⟨A2, n2, c2, l2, rfl, hc2, hm2, hr2⟩ := given_bytes (hval 2 39 v2 rfl rfl) h2
  obtain ⟨A3, n3, c3, f3, rfl, hc3, hm3, hr3⟩ := given_acts10 (hval 3 28 v3 rfl rfl) h3
  exact proposeSame_walk A0 n0 c0 f0 m1 A2 n2 c2 l2 A3 n3 c3 f3 W hc0 hm0 hr0 (by omega) hc2 hm2 hr2 hc3 hm3 hr3

theorem over : Rows.proposeSameRow.holds Try.pinned (OpenSpec.ofChange Rows.proposeSameSpec) :=
  OpenClaim.holds_of_wide 6 Try.f6 rfl rfl rfl rfl rfl rfl rfl ⟨rfl, rfl, rfl, rfl, rfl⟩ rfl rfl rfl rfl rfl (by kernel_rfl) Try.func6 (by kernel_rfl)
    (of_decide_eq_true (by kernel_rfl)) (by unfold Func.isWrapper; first | (rw [if_pos (by decide +kernel)]; kernel_rfl) | (rw [if_neg (by decide +kernel)]; exact ⟨rfl, rfl⟩))
    (fun os started H enc _ => lifted os started H enc)
end proposeSame

theorem ProposeSame_proved : Rows.ProposeSameSaid := proposeSame.over
#print axioms ProposeSame_proved
end Go.Proofs.Ythkkkldkpdkabaa
