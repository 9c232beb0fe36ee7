/- ProposeMust. -/
import Derived.Test.YthkkkldkpdkabaaProV
import Derived.Test.YthkkkldkpdkabaaProV2
import Derived.StillTailTactics
import Derived.Test.YthkkkldkpdkabaaRows
namespace Go.Proofs.Ythkkkldkpdkabaa
open Go.ChangeShapes Go.WideShapes Go.ChangeAt Go.RowKit Go.Maps

theorem infoVoteP : (Try.prog.info? 48).map (fun i => (i.zero, i.size, i.bytes)) = some (some (.agg #[.int .u64 0, .int .u64 0, .int .i64 0, .slice none 0 0]), 4, 48) := by kernel_rfl
theorem acts_atP {A : Option Addr} {n B : Nat} {f : Nat → Ac10} {W : World} (hr : Acts10 W B A n f) : ∀ k, k < n → ∃ b o, A = some ⟨b, o, none⟩ ∧ (f k).Ok W B ∧ ∀ w', Below B W w' → w'.cell? ⟨b, o + k * 5, none⟩ = some (.int .i64 (f k).kind) ∧ w'.cell? ⟨b, o + k * 5 + 1, none⟩ = some (.int .i64 (f k).node) ∧
    w'.cell? ⟨b, o + k * 5 + 2, none⟩ = some (.int .u64 ((f k).slot : Int)) ∧ w'.cell? ⟨b, o + k * 5 + 3, none⟩ = some (.slice (f k).oA (f k).on (f k).oc) ∧ w'.cell? ⟨b, o + k * 5 + 4, none⟩ = some (.slice (f k).vA (f k).vn (f k).vc) := fun k hk => by
  obtain ⟨b, o, e, hlt, hi⟩ := hr (by omega)
  refine ⟨b, o, e, (hi k hk).1, fun w' hb' => ?_⟩
  obtain ⟨_, k1, k2, k3, k4, k5⟩ := hi k hk
  have q := fun j => World.cell?_of_block (a := ⟨b, j, none⟩) (hb'.block b hlt)
  exact ⟨(q _).trans k1, (q _).trans k2, (q _).trans k3, (q _).trans k4, (q _).trans k5⟩
set_option maxRecDepth 100000 in
set_option maxHeartbeats 8000000 in
theorem proposeMust_walk (A : Option Addr) (n c : Nat) (f : Nat → Ac10) (s : Nat) (oA : Option Addr) (on oc : Nat) (own : List UInt8) (W : World) (hc : n ≤ c) (hcm : c ≤ 9223372036854775807) (hr : Acts10 W W.heap.size A n f) (hs : s < 18446744073709551616)
    (_ho1 : on ≤ oc) (_ho2 : oc ≤ 9223372036854775807) (hrd : Rd W W.heap.size oA on own) :
    Calls Try.prog 4 #[.slice A n c, .int .u64 (s : Int), .slice oA on oc] W fun e W' => e = .returned (.bool true) ∧ Below W.heap.size W W' := by
  have HK := Lib.hid (fun w => known10_any w)
  have HL1 := Lib.hid (long10_any A n c W.heap.size f W ⟨hc, hcm⟩ hr)
  have HBW : Hid (Below W.heap.size W W) := Lib.hid (Below.refl _ _)
  have HA1 := Lib.hid (acts_atP hr)
  have HRd := Lib.hid (fun w (hb : Below W.heap.size W w) => (hrd.below hb).more hb.size)
  have hol : own.length = on := hrd.1
  have Hol := Lib.hid hol
  clear hr hrd hol
  by_cases h100 : 100 < on
  · have n1 : (on : Int) > 100 := by omega
    have n1b : decide (100 < (on : Int)) = true := decide_eq_true (by omega)
    go_enter Try.func4, Try.ntmps4
    go_wp2_with fail
    refine HL1.out.mono ?_
    rintro e w1 ⟨b1, rfl, rfl, _⟩
    cases b1 with
    | true =>
      go_wp2_with fail
      refine (HK.out _).mono ?_
      rintro e w90 ⟨rfl, hb90⟩
      have HB90 := Lib.hid (below_then HBW.out hb90)
      clear hb90
      go_wp2
      go_ret
      exact ⟨rfl, HB90.out⟩
    | false =>
      go_wp2_with fail
      refine (HK.out _).mono ?_
      rintro e w90 ⟨rfl, hb90⟩
      have HB90 := Lib.hid (below_then HBW.out hb90)
      clear hb90
      go_wp2
      go_ret
      exact ⟨rfl, HB90.out⟩
  have n1 : ¬ (on : Int) > 100 := by omega
  have n1b : decide (100 < (on : Int)) = false := decide_eq_false (by omega)
  by_cases hz : s = 0
  · subst hz
    go_enter Try.func4, Try.ntmps4
    go_wp2_with fail
    refine HL1.out.mono ?_
    rintro e w1 ⟨b1, rfl, rfl, _⟩
    cases b1 with
    | true =>
      go_wp2_with fail
      refine (HK.out _).mono ?_
      rintro e w90 ⟨rfl, hb90⟩
      have HB90 := Lib.hid (below_then HBW.out hb90)
      clear hb90
      go_wp2
      go_ret
      exact ⟨rfl, HB90.out⟩
    | false =>
      go_wp2_with fail
      refine (HK.out _).mono ?_
      rintro e w90 ⟨rfl, hb90⟩
      have HB90 := Lib.hid (below_then HBW.out hb90)
      clear hb90
      go_wp2
      go_ret
      exact ⟨rfl, HB90.out⟩
  have n0 : ¬ (s : Int) = 0 := by omega
  have n0b : ((s : Int) == 0) = false := by simpa using n0
  have hs0 : 0 < s := by omega
  go_enter Try.func4, Try.ntmps4
  go_wp2_with fail
  refine HL1.out.mono ?_
  rintro e w1 ⟨b1, rfl, rfl, hb1⟩
  cases b1 with
  | true =>
    go_wp2_with fail
    refine (HK.out _).mono ?_
    rintro e w90 ⟨rfl, hb90⟩
    have HB90 := Lib.hid (below_then HBW.out hb90)
    clear hb90
    go_wp2
    go_ret
    exact ⟨rfl, HB90.out⟩
  | false =>
    have HF1 := Lib.hid (hb1 rfl)
    clear hb1 HL1
    obtain ⟨W1, hW1⟩ : ∃ W1, W1 = W.alloc (.cells #[.int .u64 18446744073709551615, .int .i64 11] 27) := ⟨_, rfl⟩
    have hb1 : Below W.heap.size W W1 := by rw [hW1]; exact bel1P _
    have hk1 : Bk W1 W.heap.size 27 #[.int .u64 18446744073709551615, .int .i64 11] := by rw [hW1]; exact Bk.new W _ _
    have z0 : W1.cell? ⟨W.heap.size, 0, none⟩ = some (.int .u64 18446744073709551615) := hk1.cell 0
    have z1 : W1.cell? ⟨W.heap.size, 1, none⟩ = some (.int .i64 11) := hk1.cell 1
    have HW1 := Lib.hid hW1
    have HB1 := Lib.hid hb1
    have HK1 := Lib.hid hk1
    have HN : Hid (Calls Try.prog 12 #[.agg #[.int .i64 1, .int .i64 12, .int .i64 1, .int .i64 12, .slice none 0 0], .agg #[.int .u64 18446744073709551615, .int .i64 11], .int .u64 1] W1 (NewO kq12 topB 1 W1)) := Lib.hid (OwP.new kq12 none 0 0 topB 1 W1 W1 (Below.refl _ _) (qi_kq12 W1) kq12_right (by decide) (by decide) (by decide) (by decide) (by decide))
    clear hW1 hb1 hk1
    go_upto_region 4 with (fail)
    rw [← HW1.out]
    go_wp2_with fail
    ((with_reducible refine HN.out.mono ?_))
    rintro e w2 ⟨g, F0, rfl, ho⟩
    have HO := Lib.hid ho
    clear ho HN z0 z1
    obtain ⟨p0, hp0⟩ : ∃ p0, p0 = Pp.new kq12 topB 1 := ⟨_, rfl⟩
    have HM0 : Hid (M1 W W1 (w2.alloc (.cells (flags 0) 45)) g w2.heap.size W.heap.size 0 s p0.prom (([] : List Vtr).map (·.1)) F0 p0 (.slice none 0 0) []) := by
      have ho := HO.out
      have hb := bel1P (w := w2) (.cells (flags 0) 45)
      subst hp0
      exact Lib.hid ⟨ho.below hb, rfl, rfl, rfl, rfl, Nat.le_refl _, Bk.new w2 _ _, fun hf => by have := ho.pm.lt _ hf; omega, ho.bel.size, (HK1.out.below ho.bel HK1.out.lt).below hb (HK1.out.below ho.bel HK1.out.lt).lt, fun hf => by have := ho.ge _ hf; have := HK1.out.lt; omega,
        World.ownsRow_nil _ _ _ _, fun j e => (by cases e), Nat.zero_le _, fun e he => (List.not_mem_nil he).elim, TI.new _ _ _ _⟩
    clear HO hp0
    obtain ⟨M, hM⟩ : ∃ M, M = min n 30 := ⟨_, rfl⟩
    obtain ⟨i0, hi0, hz0, hz1, hz2⟩ := info_parts infoVoteP
    have Hi := Lib.hid (And.intro hi0 (And.intro hz0 (And.intro hz1 hz2)))
    clear hi0 hz0 hz1 hz2
    obtain ⟨ga, hga⟩ : ∃ ga, ga = w2.heap.size := ⟨_, rfl⟩
    rw [← hga] at HM0
    go_upto_region 9 with (fail)
    rw [← hga]
    have HM1 : Hid (M1 W W1 (w2.alloc (.cells #[.bool false, .bool false, .bool false, .bool false, .bool false, .bool false, .bool false, .bool false, .bool false, .bool false, .bool false, .bool false] 45)) g ga W.heap.size 0 s p0.prom (([] : List Vtr).map (·.1)) F0 p0 (.slice none 0 0) []) := Lib.hid HM0.out
    clear HM0
    generalize w2.alloc (.cells #[.bool false, .bool false, .bool false, .bool false, .bool false, .bool false, .bool false, .bool false, .bool false, .bool false, .bool false, .bool false] 45) = w3 at *
    clear hga
    go_wp2_with fail
    go_loopg [10, 12] M (fun gk l i wr => ∃ (k : Nat) (V : Value) (F : Nat → Prop) (p : Pp) (es : List Vtr), l = V ∧ i = .int .i64 (k : Int) ∧ k + gk = M ∧ Hid (M1 W W1 wr g ga W.heap.size k s p.prom (es.map (·.1)) F p V es))
    case atStart => exact ⟨0, _, F0, p0, [], rfl, rfl, by omega, HM1⟩
    case round =>
      obtain ⟨k, V, F, p, es, rfl, rfl, hkg, HI⟩ := hrel
      obtain ⟨AV, cV, rfl, _⟩ := own_shape HI.out.row
      by_cases hk : k < M
      · have hkn : k < n := by omega
        have hk30 : k < 30 := by omega
        obtain ⟨b, o, rfl, hok, hcl⟩ := HA1.out k hkn
        have hbW := below_then HB1.out HI.out.own.bel
        obtain ⟨_, c1, _, _, c4⟩ := hcl _ hbW
        have hbd : Below wr.heap.size wr (wr.drewN 1) := bel_drewN (Below.refl _ _) 1
        have HP := Lib.hid ((HI.out.below hbd).prom HB1.out hok ((HF1.out k hkn (by omega)).2) (by omega))
        have HCl : Hid (∀ w', Below W.heap.size W w' → w'.cell? ⟨b, o + k * 5 + 1, none⟩ = some (.int .i64 (f k).node) ∧ w'.cell? ⟨b, o + k * 5 + 4, none⟩ = some (.slice (f k).vA (f k).vn (f k).vc)) := Lib.hid fun w' hb => ⟨(hcl w' hb).2.1, (hcl w' hb).2.2.2.2⟩
        have Hvs := Lib.hid hok.vs
        have hvn := (HF1.out k hkn (by omega)).2
        have HLe := Lib.hid HI.out.len
        clear hcl hok hbW hbd
        generalize (f k).node = nd at *
        generalize (f k).vA = vA at *
        generalize (f k).vn = vn at *
        generalize (f k).vc = vc at *
        generalize (f k).es = xs at *
        go_upto_region 12 with (fail)
        go_still_tail 11, (by kernel_rfl)
        change wpList _ _ _ _ _ wr.drew
        go_wp2_with fail
        refine HP.out.mono ?_
        rintro e w5 ⟨F5, p5, r5, rfl, hcs⟩
        clear HP c1 c4
        rcases hcs with ⟨hr5, hM⟩ | ⟨d, rfl, hd12, rfl, hcs⟩
        · have hr5b : (r5 == 0) = false := by simpa using hr5
          have HM := Lib.hid hM
          clear hM HI
          go_wp2
          go_roundg (gk - 1)
          case measure => omega
          case rel => exact ⟨k + 1, _, F5, p5, es, rfl, by go_num, by omega, HM⟩
        · rcases hcs with ⟨hb5, hpr, hM⟩ | ⟨hb5, hpr, hM⟩
          · have HM := Lib.hid hM
            have c5 := (HCl.out w5 (below_then HB1.out HM.out.own.bel)).1
            have a5 : w5.cell? ⟨ga, d, none⟩ = some (.bool true) := by
              have := HM.out.arr.cell d
              rw [flags_at _ d hd12, hpr, hb5] at this
              exact this
            have hdI : ((d : Nat) : Int) < 12 := by omega
            clear hM HI
            go_wp2
            go_roundg (gk - 1)
            case measure => omega
            case rel => exact ⟨k + 1, _, F5, p5, es, rfl, by go_num, by omega, HM⟩
          · have HM := Lib.hid hM
            have c5 := (HCl.out w5 (below_then HB1.out HM.out.own.bel)).1
            have a5 : w5.cell? ⟨ga, d, none⟩ = some (.bool false) := by
              have := HM.out.arr.cell d
              rw [flags_at _ d hd12, hb5] at this
              exact this
            have f5 := HM.out.arr.frozen d
            have hdI : ((d : Nat) : Int) < 12 := by omega
            have HM6 := Lib.hid (HM.out.flag d)
            rw [← hpr] at HM6
            obtain ⟨L, hL⟩ : ∃ L, L = es.map (·.1) ++ atS s (xs.map (·.1)) := ⟨_, rfl⟩
            rw [← hL] at HM6
            have HL := Lib.hid hL
            clear hM HI hpr hL
            go_upto_region 15 with (fail)
            clear HM c5 a5 f5
            generalize w5.setCell ⟨ga, d, none⟩ (.bool true) = w6 at *
            obtain ⟨gk1, hgk1⟩ : ∃ g, g = gk := ⟨_, rfl⟩
            subst hgk1
            go_wp2_with fail
            go_loopg [10, 14] vn (fun gi l j w7 => ∃ (jj : Nat) (V : Value) (sel : List Vtr), l = V ∧ j = .int .i64 (jj : Int) ∧ jj + gi = vn ∧ sel.length ≤ jj ∧ Hid (M1 W W1 w7 g ga W.heap.size (k + 1) s p5.prom L F5 p5 V (es ++ sel)) ∧ Hid (sel.map (·.1) = atS s ((xs.take jj).map (·.1))))
            case atStart => exact ⟨0, _, [], rfl, rfl, by omega, Nat.le_refl _, by rw [List.append_nil]; exact HM6, Lib.hid rfl⟩
            case round =>
              obtain ⟨jj, V, sel, rfl, rfl, hjg, hsl, HJ, HS⟩ := hrel
              obtain ⟨AJ, cJ, rfl, _⟩ := own_shape HJ.out.row
              have hell : (es ++ sel).length = es.length + sel.length := List.length_append
              generalize hEL : (es ++ sel).length = EL at *
              have hbJ := below_then HB1.out HJ.out.own.bel
              obtain ⟨_, d4⟩ := HCl.out _ hbJ
              by_cases hjj : jj < vn
              · have hvw := (Hvs.out.kp (kp_of_bel hbJ) (fun j h1 h2 => by omega))
                obtain ⟨R, q, rfl, _, _, hcells⟩ := hvw.row (by omega)
                have hje : jj < xs.length := by rw [hvw.len]; exact hjj
                obtain ⟨e0, e1, e2, e3⟩ := hcells jj hje
                have hea := Hvs.out.each _ (List.getElem_mem hje)
                have htk : (xs.take (jj + 1)).map (·.1) = (xs.take jj).map (·.1) ++ [xs[jj].1] := by rw [List.take_succ_eq_append_getElem hje, List.map_append]; rfl
                have HTk : Hid (atS s ((xs.take (jj + 1)).map (·.1)) = atS s ((xs.take jj).map (·.1)) ++ (if xs[jj].1.slot = s then [xs[jj].1] else [])) := Lib.hid (by
                  rw [htk, atS_app]
                  congr 1
                  unfold atS
                  by_cases h : xs[jj].1.slot = s <;> simp [h])
                have Hea := Lib.hid (And.intro hea.1 (And.intro hea.2.1 hea.2.2.1.rd))
                have HVc := hvw.cap
                clear hvw hcells hea htk
                generalize xs[jj] = xj at *
                obtain ⟨⟨vs, ⟨vb, vd⟩, vv⟩, xA, xn, xc⟩ := xj
                dsimp only at e0 e1 e2 e3 HTk Hea
                have hel : EL + 1 ≤ 4000 * (k + 1) := by have := HLe.out; omega
                have hel2 : EL < 1000000 := by omega
                have hjI : jj < vn := hjj
                by_cases hvs : vs = s
                · subst hvs
                  have hrow := HJ.out.row
                  rw [hEL] at hrow
                  have Hrow := Lib.hid hrow
                  have HZ := Lib.hid HJ.out.own.bel.size
                  have HEL := Lib.hid hEL
                  clear hEL hrow hell hbJ
                  go_wp2_with (at_builtin; go_loud (refine wpList_append_app _ rfl _ _ 40 rfl W1.heap.size 48 i0 _ 4 48 Try.underlying40 Hi.out.1 Hi.out.2.1 Hi.out.2.2.1 Hi.out.2.2.2 rfl _ EL _ rfl (Hrow.out.alloc _) (some ⟨wr.heap.size, 0, none⟩) 1 1 [.int .u64 (vs : Int), .int .u64 (vb : Int), .int .i64 vd, .slice xA xn xc] rfl rfl (by intro e; cases e) (new_cells _ _ _ rfl) (by intro u hu; simp at hu; rcases hu with rfl | rfl | rfl | rfl <;> rfl) (by unfold maxLen; omega) (by omega) (by have := HZ.out; simp; omega) ?_))
                  intro v2 w8 ha
                  have HJ8 : Hid (M1 W W1 w8 g ga W.heap.size (k + 1) vs p5.prom L F5 p5 v2 (es ++ (sel ++ [((⟨vs, ⟨vb, vd⟩, vv⟩ : Vt), (xA, xn, xc))]))) := by
                    have hb := bel1P (w := wr) (.cells #[.int .u64 (vs : Int), .int .u64 (vb : Int), .int .i64 vd, .slice xA xn xc] 48)
                    have := HJ.out.push (e := ((⟨vs, ⟨vb, vd⟩, vv⟩ : Vt), (xA, xn, xc))) (n := k + 1) (by rw [HEL.out]; exact hel) (Nat.le_refl _) hb Hea.out (by rw [HEL.out]; exact ha)
                    rw [List.append_assoc] at this
                    exact Lib.hid this
                  have HS8 : Hid ((sel ++ [((⟨vs, ⟨vb, vd⟩, vv⟩ : Vt), (xA, xn, xc))]).map (·.1) = atS vs ((xs.take (jj + 1)).map (·.1))) := Lib.hid (by rw [HTk.out, List.map_append, HS.out]; first | rfl | simp)
                  clear ha HJ HS HTk Hea Hrow HEL
                  go_wp2
                  go_roundg (gk - 1)
                  case measure => omega
                  case rel => exact ⟨jj + 1, v2, _, rfl, by go_num, by omega, by rw [List.length_append]; show sel.length + 1 ≤ jj + 1; omega, HJ8, HS8⟩
                · have hvsI : ¬ (vs : Int) = (s : Int) := by omega
                  have HS2 : Hid (sel.map (·.1) = atS s ((xs.take (jj + 1)).map (·.1))) := Lib.hid (by rw [HTk.out, if_neg hvs, List.append_nil]; exact HS.out)
                  clear HS HTk Hea hEL hell
                  go_wp2
                  go_roundg (gk - 1)
                  case measure => omega
                  case rel => exact ⟨jj + 1, _, sel, rfl, by go_num, by omega, by omega, HJ, HS2⟩
              · have hjv : jj = vn := by omega
                have HJ2 : Hid (M1 W W1 wr g ga W.heap.size (k + 1) s p5.prom ((es ++ sel).map (·.1)) F5 p5 (.slice AJ EL cJ) (es ++ sel)) := by
                  have e : (es ++ sel).map (·.1) = L := by
                    rw [HL.out, List.map_append, HS.out, hjv, List.take_of_length_le (by rw [Hvs.out.len]; exact Nat.le_refl _)]
                  rw [e]
                  exact HJ
                clear HS HJ hbJ hEL hell
                go_wp2
                go_roundg (gk1 - 1)
                case measure => omega
                case rel => exact ⟨k + 1, _, F5, p5, es ++ sel, rfl, by go_num, by omega, HJ2⟩
      · have h30 : k < n → ¬ k < 30 := fun h => by omega
        have hk30' : k ≤ 30 := by omega
        have H30 := Lib.hid h30
        clear HA1 HF1 h30 hM hkg hk
        go_upto_region 10 with (fail)
        go_cut [56] from 49 to 120 (fun b wx => b = .bool false ∧ wr = wx)
        case first =>
          by_cases hkn : k < n
          · have hk30 : ¬ k < 30 := H30.out hkn
            go_wp2
            go_meet
            exact ⟨by first | rfl | (rw [decide_eq_false (by omega)]), rfl⟩
          · go_wp2
            go_meet
            exact ⟨rfl, rfl⟩
        case rest =>
          obtain ⟨rfl, rfl⟩ := hcut
          have HMu := Lib.hid (HI.out.own.must s hs)
          have hmust := HI.out.ti.must
          rw [List.length_map] at hmust
          have HFd := Lib.hid (found_all HI.out.ti)
          rw [List.length_map] at HFd
          have hle := HI.out.len
          obtain ⟨N, hN⟩ : ∃ N, N = es.length := ⟨_, rfl⟩
          obtain ⟨L, hL⟩ : ∃ L, L = es.map (·.1) := ⟨_, rfl⟩
          rw [← hN] at hmust HFd hle
          rw [← hL] at HFd
          have hcV : AV.isSome = AV.isSome := rfl
          -- the row's cells
          have HCe : Hid (∀ w', Below wr.heap.size wr w' → ∀ i (_ : i < N), ∃ R q, AV = some ⟨R, q, none⟩ ∧ ∃ e : Vtr, L[i]? = some e.1 ∧ w'.cell? ⟨R, q + i * 4 + 1, none⟩ = some (.int .u64 (e.1.bal.n : Int)) ∧ w'.cell? ⟨R, q + i * 4 + 2, none⟩ = some (.int .i64 e.1.bal.node) ∧ w'.cell? ⟨R, q + i * 4 + 3, none⟩ = some (.slice e.2.1 e.2.2.1 e.2.2.2) ∧ Rd w' w'.heap.size e.2.1 e.2.2.1 e.1.val ∧ e.2.2.1 ≤ e.2.2.2 ∧ e.2.2.2 ≤ 9223372036854775807) := Lib.hid fun w' hb i hi => by
            have hie : i < es.length := by omega
            have hB := HI.out.below hb
            rcases hB.row.2 with ⟨_, h0⟩ | ⟨R, cap, cur, hv, _, hh, _⟩
            · omega
            · have hA : AV = some ⟨R, 0, none⟩ := by injection hv
              subst hA
              have hq := fun j (hj : j < 4) u (hu : (vrE es[i])[j]? = some u) => hB.row.cells (g := R) rfl (i * 4 + j) u (by rw [vrC_at es i j hie hj]; exact hu)
              have q1 := hq 1 (by omega) _ rfl
              have q2 := hq 2 (by omega) _ rfl
              have q3 := hq 3 (by omega) _ rfl
              rw [Addr.add_lit] at q1 q2 q3
              have he := HI.out.each _ (List.getElem_mem hie)
              have hbW := below_then HB1.out (below_then HI.out.own.bel hb)
              exact ⟨R, 0, rfl, es[i], by rw [hL, List.getElem?_map, List.getElem?_eq_getElem hie]; rfl, by rw [← Nat.add_assoc] at q1; exact q1, by rw [← Nat.add_assoc] at q2; exact q2, by rw [← Nat.add_assoc] at q3; exact q3, (he.2.2.below hbW).more hbW.size, he.1, he.2.1⟩
          have HLl : Hid (L.length = N) := Lib.hid (by rw [hL, hN, List.length_map])
          have hcap : ∃ (X : Nat), X = cV := ⟨_, rfl⟩
          have HI9 := Lib.hid HI.out
          obtain ⟨hm1, hm2⟩ := hmust
          have Hm2 := Lib.hid hm2
          have Hm1 := Lib.hid hm1
          clear hm1 hm2 hcV hcap hL HI
          have HVa : Hid ((p.must s).isSome = true → (p.must s).getD own = (p.must s).getD []) := Lib.hid (by cases p.must s <;> simp)
          have HVb : Hid ((p.must s).isSome = false → (p.must s).getD own = own) := Lib.hid (by cases p.must s <;> simp)
          have HPo : Hid (∀ w' : World, Below wr.heap.size wr w' → p.ready = true → Calls Try.prog 20 #[.pointer (some ⟨g, 0, none⟩), .int .u64 (s : Int), .slice oA on oc] w' fun e w2 => ∃ F' A c, e = .returned (.tuple #[.agg #[.int .u64 (s : Int), .int .u64 18446744073709551615, .int .i64 11, .slice A ((p.must s).getD own).length c], .int .i64 0]) ∧ w2.ownsRow w'.heap.size 5 1 (.slice A ((p.must s).getD own).length c) ((p.must s).getD own).length (u8s ((p.must s).getD own)) ∧ Below W1.heap.size W1 w2 ∧ Mv F F' w' w2) := Lib.hid fun w' hb hr =>
            (HI9.out.below hb).propose hr hs0 hs (by rw [Hol.out]; omega) (HRd.out w' (below_then HB1.out (below_then HI9.out.own.bel hb)))
          clear Hm2
          unfold GiveO at HMu
          generalize (p.must s).getD own = pv at *
          generalize (p.must s).getD [] = v at *
          generalize (p.must s).isSome = has at *
          have HN0 := Lib.hid hN
          rw [← hN]
          clear hN
          go_wp2_with fail
          refine HMu.out.mono ?_
          rintro e w9 ⟨A9, c9, rfl, ho9, hb9⟩
          have HV9 := Lib.hid ho9
          have HB9 := Lib.hid hb9
          clear ho9 hb9 HMu
          go_upto_region 21 with (fail)
          go_cut [131] (fun b wx => b = .bool false ∧ w9 = wx)
          case first =>
            by_cases hNz : 0 < N
            · have hh : has = true := by rw [Hm1.out]; simpa using hNz
              subst hh
              have hNI : (N : Int) > 0 := by omega
              have hNb : decide (0 < (N : Int)) = true := decide_eq_true (by omega)
              go_wp2
              go_meet
              exact ⟨rfl, rfl⟩
            · have hh : has = false := by rw [Hm1.out]; simpa using hNz
              subst hh
              have hNI : ¬ (N : Int) > 0 := by omega
              have hNb : decide (0 < (N : Int)) = false := decide_eq_false (by omega)
              go_wp2
              go_meet
              exact ⟨rfl, rfl⟩
          case rest =>
            obtain ⟨rfl, rfl⟩ := hcut
            have HF0 : Hid (foundAt L v has 0 = !has) := Lib.hid (by unfold foundAt; simp)
            have hNl : N < 1000000 := by omega
            clear hle
            go_wp2_with fail
            go_loopg [17, 18] N (fun gk fo i wx => ∃ i' : Nat, fo = .bool (foundAt L v has i') ∧ i = .int .i64 (i' : Int) ∧ i' + gk = N ∧ Hid (Below w9.heap.size w9 wx))
            case atStart => exact ⟨0, by first | (rw [HF0.out]; done) | (rw [HF0.out]; rfl), rfl, by omega, Lib.hid (Below.refl _ _)⟩
            case round =>
              obtain ⟨i', rfl, rfl, hig, HBx⟩ := hrel
              by_cases hi' : i' < N
              · obtain ⟨R, q, rfl, ⟨⟨is, ⟨ib, id_⟩, iv⟩, xA, xn, xc⟩, hLi, _, _, c3, hrdx, hx1, hx2⟩ := HCe.out _ (below_then HB9.out HBx.out) i' hi'
                dsimp only at hLi c3 hrdx hx1 hx2
                obtain rfl : iv.length = xn := hrdx.1
                have hLi' : i' < L.length := by rw [HLl.out]; exact hi'
                have hLe : L[i'] = ⟨is, ⟨ib, id_⟩, iv⟩ := by rw [List.getElem?_eq_getElem hLi'] at hLi; injection hLi
                have HZ0 : Hid (bestAt L v i' 0 = (iv == v)) := Lib.hid (by rw [bestAt_zero L v i' hLi', hLe])
                have k1 : ∀ z, (convert 39 9 (.slice xA iv.length xc)).run Try.prog (wr.drewN z) = .ok (.string ⟨iv.toArray⟩) (wr.drewN z) := fun z => (hrdx.drewN z).str Try.underlying39 Try.underlying5 Try.underlying9 xc
                have k2 : ∀ z, (convert 39 9 (.slice A9 v.length c9)).run Try.prog (wr.drewN z) = .ok (.string ⟨v.toArray⟩) (wr.drewN z) := fun z => (((Rd.of_own HV9.out).below HBx.out).drewN z).str Try.underlying39 Try.underlying5 Try.underlying9 c9
                have HLi := Lib.hid hLe
                obtain ⟨gk1, hgk1⟩ : ∃ g, g = gk := ⟨_, rfl⟩
                subst hgk1
                have HBr := Lib.hid HBx.out
                clear hLi hLe hrdx
                go_upto_region 27 with (fail)
                go_quiet (fail)
                clear k1 k2 c3
                have HBq := Lib.hid (HBr.out.trans ((bel_drewN (Below.refl wr.heap.size wr) nq).mono HBr.out.size))
                generalize wr.drewN nq = w10 at *
                go_wp2_with fail
                go_loopg [19, 20] N (fun gj be j wy => ∃ j' : Nat, be = .bool (bestAt L v i' j') ∧ j = .int .i64 (j' : Int) ∧ j' + gj = N ∧ Hid (Below w9.heap.size w9 wy))
                case atStart => exact ⟨0, by first | (rw [HZ0.out]; done) | (rw [HZ0.out]; rfl), rfl, by omega, HBq⟩
                case round =>
                  obtain ⟨j', rfl, rfl, hjg, HBy⟩ := hrel
                  by_cases hj' : j' < N
                  · obtain ⟨R1, q1, hR1, ⟨⟨is1, ⟨ib1, id1⟩, iv1⟩, xA1, xn1, xc1⟩, hL1, a1, a2, _⟩ := HCe.out _ (below_then HB9.out HBy.out) i' hi'
                    obtain ⟨R2, q2, hR2, ⟨⟨js, ⟨jb, jd⟩, jv⟩, yA, yn, yc⟩, hL2, b1, b2, _⟩ := HCe.out _ (below_then HB9.out HBy.out) j' hj'
                    injection hR1 with hR1
                    injection hR1 with hR1 hq1
                    injection hR2 with hR2
                    injection hR2 with hR2 hq2
                    subst hR1 hq1 hR2 hq2
                    dsimp only at hL1 a1 a2 hL2 b1 b2
                    have hLj' : j' < L.length := by rw [HLl.out]; exact hj'
                    have hLi2 : i' < L.length := by rw [HLl.out]; exact hi'
                    have hLe1 : L[i'].bal = ⟨ib1, id1⟩ := by rw [List.getElem?_eq_getElem hLi2] at hL1; injection hL1 with hL1; rw [hL1]
                    have hLe2 : L[j'].bal = ⟨jb, jd⟩ := by rw [List.getElem?_eq_getElem hLj'] at hL2; injection hL2 with hL2; rw [hL2]
                    have HNx : Hid (bestAt L v i' (j' + 1) = (bestAt L v i' j' && !Bl.less ⟨ib1, id1⟩ ⟨jb, jd⟩)) := Lib.hid (by rw [bestAt_succ L v i' j' hLi2 hLj', hLe1, hLe2])
                    have HLs := Lib.hid (less09_any ⟨ib1, id1⟩ ⟨jb, jd⟩ (wr.drewN 1))
                    unfold blV at HLs
                    dsimp only at HLs
                    generalize Bl.less ⟨ib1, id1⟩ ⟨jb, jd⟩ = ls at *
                    clear hL1 hL2 hLe1 hLe2
                    cases hbe : bestAt L v i' j' with
                    | true =>
                      rw [hbe] at HNx
                      go_upto_region 31 with (fail)
                      go_still_tail 12, (by kernel_rfl)
                      change wpList _ _ _ _ _ wr.drew
                      go_wp2_with fail
                      refine HLs.out.mono ?_
                      rintro e w12 ⟨rfl, hb12⟩
                      have HB12 := Lib.hid (below_then HBy.out (bel_of_drewN hb12))
                      clear hb12 HLs a1 a2 b1 b2 HBy
                      go_wp2
                      go_roundg (gk - 1)
                      case measure => omega
                      case rel => exact ⟨j' + 1, by first | (rw [HNx.out]; done) | (rw [HNx.out]; rfl), by go_num, by omega, HB12⟩
                    | false =>
                      rw [hbe] at HNx
                      clear HLs a1 a2 b1 b2
                      go_upto_region 31 with (fail)
                      go_quiet (fail)
                      have HB12 := Lib.hid (HBy.out.trans ((bel_drewN (Below.refl wr.heap.size wr) nq).mono HBy.out.size))
                      clear HBy
                      go_wp2
                      go_roundg (gk - 1)
                      case measure => omega
                      case rel => exact ⟨j' + 1, by first | (rw [HNx.out]; done) | (rw [HNx.out]; rfl), by go_num, by omega, HB12⟩
                  · have hjN : j' = N := by omega
                    have HNx : Hid (foundAt L v has (i' + 1) = (foundAt L v has i' || bestAt L v i' j')) := Lib.hid (by rw [foundAt_succ, HLl.out, hjN])
                    generalize foundAt L v has i' = fo at *
                    generalize bestAt L v i' j' = be at *
                    clear hjN
                    cases fo with
                    | true =>
                      go_wp2
                      go_roundg (gk1 - 1)
                      case measure => omega
                      case rel => exact ⟨i' + 1, by first | (rw [HNx.out]; done) | (rw [HNx.out]; rfl), by go_num, by omega, HBy⟩
                    | false =>
                      go_wp2
                      go_roundg (gk1 - 1)
                      case measure => omega
                      case rel => exact ⟨i' + 1, by first | (rw [HNx.out]; done) | (rw [HNx.out]; rfl), by go_num, by omega, HBy⟩
              · have hiN : i' = N := by omega
                subst hiN
                rw [HFd.out]
                have HIx := Lib.hid (HI9.out.below (below_then HB9.out HBx.out))
                have HRy := Lib.hid HIx.out.own.ready
                have HBW9 := Lib.hid (below_then HB1.out HIx.out.own.bel)
                cases hrdy : p.ready with
                | false =>
                  rw [hrdy] at HRy
                  go_wp2_with fail
                  ((with_reducible refine HRy.out.mono ?_))
                  rintro e w13 ⟨rfl, hb13⟩
                  have HB13 := Lib.hid (below_then HBW9.out hb13)
                  clear hb13 HRy
                  go_wp2_with fail
                  refine (HK.out _).mono ?_
                  rintro e w90 ⟨rfl, hb90⟩
                  have HB90 := Lib.hid (below_then HB13.out hb90)
                  clear hb90
                  go_wp2
                  go_ret
                  exact ⟨rfl, HB90.out⟩
                | true =>
                  rw [hrdy] at HRy
                  go_wp2_with fail
                  ((with_reducible refine HRy.out.mono ?_))
                  rintro e w13 ⟨rfl, hb13⟩
                  have HB13 := Lib.hid (below_then (below_then HB9.out HBx.out) hb13)
                  have HB913 := Lib.hid (below_then HBx.out hb13)
                  clear hb13 HRy
                  have HPo13 := Lib.hid (HPo.out w13 HB13.out hrdy)
                  go_wp2_with fail
                  ((with_reducible refine HPo13.out.mono ?_))
                  rintro e w14 ⟨F14, A14, c14, rfl, ho14, hb14, hm14⟩
                  have hvr := own_kp (own_kp HV9.out (Kp.of_below (F := fun _ => False) HB913.out) (fun _ _ h => h)) hm14.kp (fun k e hf => by have h1 := (HV9.out.lt k e).1; have h2 := HI9.out.own.pm.lt _ hf; omega)
                  have htp := ((HI9.out.below HB13.out).top.kp hm14.kp HI9.out.gtn)
                  have hb15 : Below w14.heap.size w14 (w14.alloc (.cells #[.int .u64 (s : Int), .int .u64 18446744073709551615, .int .i64 11, .slice A14 pv.length c14] 48)) := bel1P _
                  have hk15 := Bk.new w14 48 #[.int .u64 (s : Int), .int .u64 18446744073709551615, .int .i64 11, .slice A14 pv.length c14]
                  have HV15 := Lib.hid ((Rd.of_own hvr).up hb15)
                  have HP15 := Lib.hid ((Rd.of_own ho14).up hb15)
                  have HB15 := Lib.hid (below_then (below_then HB1.out hb14) hb15)
                  have htp2 := htp.below hb15 htp.lt
                  have t0 : (w14.alloc (.cells #[.int .u64 (s : Int), .int .u64 18446744073709551615, .int .i64 11, .slice A14 pv.length c14] 48)).cell? ⟨W.heap.size, 0, none⟩ = some (.int .u64 18446744073709551615) := htp2.cell 0
                  have t1 : (w14.alloc (.cells #[.int .u64 (s : Int), .int .u64 18446744073709551615, .int .i64 11, .slice A14 pv.length c14] 48)).cell? ⟨W.heap.size, 1, none⟩ = some (.int .i64 11) := htp2.cell 1
                  have x0 : (w14.alloc (.cells #[.int .u64 (s : Int), .int .u64 18446744073709551615, .int .i64 11, .slice A14 pv.length c14] 48)).cell? ⟨w14.heap.size, 0, none⟩ = some (.int .u64 (s : Int)) := hk15.cell 0
                  have x1 : (w14.alloc (.cells #[.int .u64 (s : Int), .int .u64 18446744073709551615, .int .i64 11, .slice A14 pv.length c14] 48)).cell? ⟨w14.heap.size, 1, none⟩ = some (.int .u64 18446744073709551615) := hk15.cell 1
                  have x2 : (w14.alloc (.cells #[.int .u64 (s : Int), .int .u64 18446744073709551615, .int .i64 11, .slice A14 pv.length c14] 48)).cell? ⟨w14.heap.size, 2, none⟩ = some (.int .i64 11) := hk15.cell 2
                  have x3 : (w14.alloc (.cells #[.int .u64 (s : Int), .int .u64 18446744073709551615, .int .i64 11, .slice A14 pv.length c14] 48)).cell? ⟨w14.heap.size, 3, none⟩ = some (.slice A14 pv.length c14) := hk15.cell 3
                  have HO15 := Lib.hid (HRd.out _ HB15.out)
                  clear hvr htp htp2 hb15 hk15 ho14 hb14 hm14 HPo13
                  go_upto_region 36 with (fail)
                  generalize w14.alloc (.cells #[.int .u64 (s : Int), .int .u64 18446744073709551615, .int .i64 11, .slice A14 pv.length c14] 48) = w15 at *
                  cases has with
                  | true =>
                    have hpv := HVa.out rfl
                    subst hpv
                    have HSm := Lib.hid (same_any A14 A9 pv.length pv.length c14 c9 _ _ pv pv w15 HP15.out HV15.out)
                    rw [show (pv == pv) = true by simp] at HSm
                    go_wp2_with fail
                    ((with_reducible refine HSm.out.mono ?_))
                    rintro e w16 ⟨rfl, rfl⟩
                    go_wp2_with fail
                    refine (HK.out _).mono ?_
                    rintro e w90 ⟨rfl, hb90⟩
                    have HB90 := Lib.hid (below_then HB15.out hb90)
                    clear hb90
                    go_wp2
                    go_ret
                    exact ⟨rfl, HB90.out⟩
                  | false =>
                    have hpv := HVb.out rfl
                    subst hpv
                    have HSm := Lib.hid (same_any A14 oA pv.length on c14 oc _ _ pv pv w15 HP15.out HO15.out)
                    rw [show (pv == pv) = true by simp] at HSm
                    go_wp2_with fail
                    ((with_reducible refine HSm.out.mono ?_))
                    rintro e w16 ⟨rfl, rfl⟩
                    go_wp2_with fail
                    refine (HK.out _).mono ?_
                    rintro e w90 ⟨rfl, hb90⟩
                    have HB90 := Lib.hid (below_then HB15.out hb90)
                    clear hb90
                    go_wp2
                    go_ret
                    exact ⟨rfl, HB90.out⟩
namespace proposeMust
set_option maxRecDepth 100000 in
theorem lifted (os : Os) (started : os.Started) (H : Type) (enc : TypeId × Value → H) :
    ReturnsInHanded {} Try.checked os 4 .any (Rows.proposeMustSpec.pre6 enc Try.prog Try.f4 Rows.proposeMustRow.domain false) (Rows.proposeMustSpec.post enc Try.prog Try.f4 false true false false) := by
  refine law_lift started (by kernel_rfl) Try.func4
    (ChangeSpec.witness6 (enc := enc) (C := Try.checked) false ⟨#[], #[.slice none 0 0, .int .u64 0, .slice none 0 0], []⟩ 8 (by kernel_rfl) (by kernel_rfl) (by kernel_rfl) (by kernel_rfl))
    rfl ?_ (by kernel_rfl) (by kernel_rfl) ?_
  · intro ds h
    match ds, h with
    | [_, _, _], _ => rfl
  intro W base args ds p g
  have hA := g.trod
  have hval := g.val
  rw [Try.params4] at hA hval
  obtain ⟨v0, vs0, d0, ds0, p0, q0, hargs, rfl, rfl, h0, r0⟩ := trodAll_cons hA
  obtain ⟨v1, vs1, d1, ds1, p1, q1, rfl, rfl, rfl, h1, r1⟩ := trodAll_cons r0
  obtain ⟨v2, vs2, d2, ds2, p2, q2, rfl, rfl, rfl, h2, r2⟩ := trodAll_cons r1
  obtain ⟨rfl, rfl, rfl⟩ := trodAll_nil r2
  obtain rfl : args = #[v0, v1, v2] := by cases args; simp_all
  obtain ⟨A0, n0, c0, f0, rfl, hc0, hm0, hr0⟩ := given_acts10 (hval 0 28 v0 rfl rfl) h0
  obtain ⟨a1, rfl, _, _, w1⟩ := open_int Try.underlying25 (hval 1 25 v1 rfl rfl) h1
  have b1 := bounds_u64 w1
  obtain ⟨m1, rfl⟩ := Int.eq_ofNat_of_zero_le b1.1
  obtain ⟨A2, n2, c2, l2, rfl, hc2, hm2, hr2⟩ := given_bytes (hval 2 39 v2 rfl rfl) h2
  exact proposeMust_walk A0 n0 c0 f0 m1 A2 n2 c2 l2 W hc0 hm0 hr0 (by omega) hc2 hm2 hr2

theorem over : Rows.proposeMustRow.holds Try.pinned (OpenSpec.ofChange Rows.proposeMustSpec) :=
  OpenClaim.holds_of_wide 4 Try.f4 rfl rfl rfl rfl rfl rfl rfl ⟨rfl, rfl, rfl, rfl, rfl⟩ rfl rfl rfl rfl rfl (by kernel_rfl) Try.func4 (by kernel_rfl)
    (of_decide_eq_true (by kernel_rfl)) (by unfold Func.isWrapper; first | (rw [if_pos (by decide +kernel)]; kernel_rfl) | (rw [if_neg (by decide +kernel)]; exact ⟨rfl, rfl⟩))
    (fun os started H enc _ => lifted os started H enc)
end proposeMust

theorem ProposeMust_proved : Rows.ProposeMustSaid := proposeMust.over
#print axioms ProposeMust_proved
end Go.Proofs.Ythkkkldkpdkabaa
