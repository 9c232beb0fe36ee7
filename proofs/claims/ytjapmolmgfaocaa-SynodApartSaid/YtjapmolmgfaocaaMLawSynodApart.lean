/- SynodApart: what is told of a room is its owner's: letters, votes and values may be written over; two rooms know nothing of one another. -/
import Derived.Test.YtjapmolmgfaocaaM1SynAp
import Derived.Deep.CutRange
import Derived.Deep.DeepCutAuto
namespace Go.Proofs.Ytjapmolmgfaocaa
open Go.ChangeShapes Go.WideShapes Go.ChangeAt Go.RowKit Go.Maps

theorem look_val {r : Ro} (h : r.Ok) (i : Nat) (v : Vt) (e : (r.look i).1.votes = [v]) : v.val.length ≤ 1000000 := by
  unfold Ro.look at e
  split at e
  · rename_i hi
    have := ((h.row _ (Ro.at_mem hi)).votes v (by rw [e]; exact List.mem_cons_self ..)).len
    omega
  · cases e
set_option maxRecDepth 100000 in
set_option maxHeartbeats 8000000 in
theorem synodApart_walk (A : Option Addr) (n c : Nat) (f : Nat → Ga) (B : Option Addr) (m d : Nat) (f2 : Nat → Ga) (W : World) (hc1 : n ≤ c) (hc2 : c ≤ 9223372036854775807) (hA : As11 W W.heap.size A n f) (hd1 : m ≤ d) (hd2 : d ≤ 9223372036854775807) (hB : As11 W W.heap.size B m f2) : Calls Try.prog 7 #[.slice A n c, .slice B m d] W fun e W' => e = .returned (.bool true) ∧ Below W.heap.size W W' := by
  have HL1 : Hid (∀ w, Below W.heap.size W w → Calls Try.prog 10 #[.slice A n c] w (LongR w)) := Lib.hid fun w hb => long_any (hA.below hb) ⟨hc1, hc2⟩
  have HL2 : Hid (∀ w, Below W.heap.size W w → Calls Try.prog 10 #[.slice B m d] w (LongR w)) := Lib.hid fun w hb => long_any (hB.below hb) ⟨hd1, hd2⟩
  have HKn := Lib.hid (fun w => known11_any w)
  have HT3 := Lib.hid (fun w => three11_any w)
  have HNw := Lib.hid (fun w => newP_any w)
  have HA1 : Hid (∀ w, Below W.heap.size W w → ∀ k, k < n → ∃ b o, A = some ⟨b, o, none⟩ ∧ w.cell? ⟨b, o + k * 3, none⟩ = some (.int .i64 (f k).kind) ∧ w.cell? ⟨b, o + k * 3 + 1, none⟩ = some (.int .i64 (f k).a) ∧ w.cell? ⟨b, o + k * 3 + 2, none⟩ = some (.slice (f k).A (f k).n (f k).c) ∧ Rd w W.heap.size (f k).A (f k).n (f k).val) := Lib.hid fun w hb k hk => by
    obtain ⟨b, o, e, _, hi⟩ := (hA.below hb) (by omega)
    obtain ⟨q0, q1, q2, q3⟩ := hi k hk
    exact ⟨b, o, e, q1, q2, q3, q0.body⟩
  have HA2 : Hid (∀ w, Below W.heap.size W w → ∀ k, k < m → ∃ b o, B = some ⟨b, o, none⟩ ∧ w.cell? ⟨b, o + k * 3, none⟩ = some (.int .i64 (f2 k).kind) ∧ w.cell? ⟨b, o + k * 3 + 1, none⟩ = some (.int .i64 (f2 k).a) ∧ w.cell? ⟨b, o + k * 3 + 2, none⟩ = some (.slice (f2 k).A (f2 k).n (f2 k).c) ∧ Rd w W.heap.size (f2 k).A (f2 k).n (f2 k).val) := Lib.hid fun w hb k hk => by
    obtain ⟨b, o, e, _, hi⟩ := (hB.below hb) (by omega)
    obtain ⟨q0, q1, q2, q3⟩ := hi k hk
    exact ⟨b, o, e, q1, q2, q3, q0.body⟩
  clear hA hB
  go_enter Try.func7, Try.ntmps7
  go_wp2_with fail
  refine (HT3.out _).mono ?_
  rintro e w1 ⟨rfl, hb1⟩
  have HB1 := Lib.hid hb1
  clear hb1
  go_wp2_with fail
  refine (HNw.out w1).mono ?_
  rintro e w2 ⟨g1, N1, col1, rfl, ho1⟩
  have HO1 : Hid (Ap1 W w2 g1 N1) := Lib.hid ⟨col1, ho1.base HB1.out⟩
  clear ho1
  go_wp2_with fail
  refine (HT3.out _).mono ?_
  rintro e w3 ⟨rfl, hb3⟩
  have HB3 := Lib.hid hb3
  clear hb3
  go_wp2_with fail
  refine (HNw.out w3).mono ?_
  rintro e w4 ⟨g2, N2, col2, rfl, ho2⟩
  have HO2 := Lib.hid ((HO1.out.below HB3.out).next ho2)
  clear ho2
  go_wp2_with fail
  refine (HT3.out _).mono ?_
  rintro e w5 ⟨rfl, hb5⟩
  have HB5 := Lib.hid hb5
  clear hb5
  go_wp2_with fail
  refine (HNw.out w5).mono ?_
  rintro e w6 ⟨g3, N3, col3, rfl, ho3⟩
  have HO3 := Lib.hid ((HO2.out.below HB5.out).next ho3)
  have HB0 := Lib.hid HO3.out.bel
  clear ho3 HO1 HO2 HB1 HB3 HB5
  go_wp2_with fail
  refine (HL1.out w6 HB0.out).mono ?_
  rintro e w7 ⟨lb, rfl, rfl⟩
  cases lb with
  | true =>
    go_wp2_with fail
    refine (HKn.out _).mono ?_
    rintro e wk ⟨rfl, hbk⟩
    have HBk := Lib.hid (below_then HB0.out hbk)
    clear hbk
    go_wp2
    go_ret
    exact ⟨rfl, HBk.out⟩
  | false =>
    go_wp2_with fail
    refine (HL2.out w6 HB0.out).mono ?_
    rintro e w7 ⟨lb, rfl, rfl⟩
    cases lb with
    | true =>
      go_wp2_with fail
      refine (HKn.out _).mono ?_
      rintro e wk ⟨rfl, hbk⟩
      have HBk := Lib.hid (below_then HB0.out hbk)
      clear hbk
      go_wp2
      go_ret
      exact ⟨rfl, HBk.out⟩
    | false =>
      go_wp2_with fail
      go_loopg [11] n (fun gk i wy => ∃ (k : Nat) (r : Ro) (Bd : Nat), i = .int .i64 (k : Int) ∧ k + gk = n ∧ Hid (ApS W wy Bd g1 N1 g2 N2 g3 N3 r r))
      case atStart => exact ⟨0, _, _, rfl, by omega, HO3⟩
      case round =>
        clear HO3 HB0
        obtain ⟨k, r, B9, rfl, hkg, HS⟩ := hrel
        by_cases hk : k < n
        · by_cases h2 : k < 80
          · skip
            have hkI : (k : Int) < (n : Int) := by omega
            have h2I : (k : Int) < 80 := by omega
            have HBr := Lib.hid HS.out.bel
            obtain ⟨b0, o0, rfl, a0, a1, a2, hrd⟩ := HA1.out wr HBr.out k hk
            have HP1 := Lib.hid (ApS.play1 HS.out (f k).kind (f k).a (f k).A (f k).n (f k).c (f k).val hrd)
            clear hrd HS
            go_wp2_with fail
            refine HP1.out.mono ?_
            rintro e w8 ⟨rfl, HS8⟩
            clear a0 a1 a2 HP1 HBr
            obtain ⟨b1, o1, e3, a0, a1, a2, hrd⟩ := HA1.out w8 HS8.out.bel k hk
            injection e3 with e3
            injection e3 with e4 e5
            subst e4
            subst e5
            have HP2 := Lib.hid (ApS.play2 HS8.out (f k).kind (f k).a (f k).A (f k).n (f k).c (f k).val hrd)
            clear hrd HS8
            go_wp2_with fail
            refine HP2.out.mono ?_
            rintro e w9 ⟨rfl, HS9⟩
            clear a0 a1 a2 HP2
            generalize r.play (f k).kind (f k).a (f k).val 3 = r9 at HS9
            have HOk : Hid (∀ (i : Nat) v, (r9.look i).1.votes = [v] → v.val.length ≤ 1000000) := Lib.hid (by obtain ⟨_, _, _, _, h⟩ := HS9.out; exact look_val h.one.rm.ok)
            have HMo := Lib.hid HS9.out.most
            obtain ⟨gko, hgko⟩ : ∃ z, z = gk := ⟨_, rfl⟩
            go_upto_if 108 with (fail)
            go_cut [] from 83 to 187 (fun wx => ∃ Bd, Hid (ApS W wx Bd g1 N1 g2 N2 g3 N3 r9 r9))
            case first =>
              by_cases hm : k < m
              · have hmI : (k : Int) < (m : Int) := by omega
                have hme : decide ((k : Int) < (m : Int)) = true := decide_eq_true hmI
                obtain ⟨b2, o2, rfl, a0, a1, a2, hrd⟩ := HA2.out w9 HS9.out.bel k hm
                have HP3 := Lib.hid (ApS.play3 HS9.out (f2 k).kind (f2 k).a (f2 k).A (f2 k).n (f2 k).c (f2 k).val hrd)
                clear hrd HS9
                go_wp2_with fail
                refine HP3.out.mono ?_
                rintro e w10 ⟨rfl, HS10⟩
                go_wp2_with fail
                go_meet
                exact ⟨_, HS10⟩
              · have hmI : ¬ (k : Int) < (m : Int) := by omega
                have hme : decide ((k : Int) < (m : Int)) = false := decide_eq_false hmI
                go_wp2_with fail
                go_meet
                exact ⟨_, HS9⟩
            case rest =>
            obtain ⟨Bd, HS10⟩ := hcut
            clear HS9
            go_wp2_with fail
            go_loopg [12] 3 (fun gj j wy => ∃ i : Nat, j = .int .i64 (i : Int) ∧ i + gj = 3 ∧ Hid (ApS W wy Bd g1 N1 g2 N2 g3 N3 r9 r9))
            case atStart => exact ⟨0, rfl, by omega, HS10⟩
            case round =>
              clear HS10
              obtain ⟨i, rfl, hig, HS10⟩ := hrel
              by_cases hi : i < 3
              · skip
                have HLk := Lib.hid (ApS.look1 HS10.out i)
                have HWq0 := Lib.hid HS10.out.bd
                obtain ⟨wq, hwq⟩ : ∃ z, z = wr := ⟨_, rfl⟩
                have HWq : Hid (Bd ≤ wq.heap.size) := Lib.hid (by rw [hwq]; exact HWq0.out)
                rw [← hwq] at HLk
                clear HWq0 HS10
                obtain ⟨ml, hml⟩ : ∃ z, z = (r9.look i).1 := ⟨_, rfl⟩
                rw [← hml] at HLk
                have HMl := Lib.hid hml
                clear hml
                have hiI : (i : Int) < 3 := by omega
                subst hwq
                go_wp2_with fail
                refine HLk.out.mono ?_
                rintro e w11 ⟨A7, c7, ok7, rfl, HS11, HLO, HLe⟩
                obtain ⟨w12, hw12⟩ : ∃ z, z = w11.alloc (.cells #[.int .i64 (ml.kind : Int), .int .i64 (ml.frm : Int), .int .i64 (ml.dst : Int), .int .u64 (ml.bal.n : Int), .int .i64 ml.bal.node, .slice A7 ml.votes.length c7] 63) := ⟨_, rfl⟩
                have hb12 : Below w11.heap.size w11 w12 := by rw [hw12]; exact bel1P _
                have hk12 : Bk w12 w11.heap.size 63 #[.int .i64 (ml.kind : Int), .int .i64 (ml.frm : Int), .int .i64 (ml.dst : Int), .int .u64 (ml.bal.n : Int), .int .i64 ml.bal.node, .slice A7 ml.votes.length c7] := by rw [hw12]; exact Bk.new w11 _ _
                have HS12 := Lib.hid (HS11.out.below hb12)
                have HLn := Lib.hid (ApS.learned HS12.out i)
                have HB12 := Lib.hid hb12
                have HK12 := Lib.hid hk12
                have HW12 := Lib.hid hw12
                clear hw12 hb12 hk12 HLk
                go_upto_region 17 with (fail)
                rw [← HW12.out]
                go_wp2_with fail
                refine HLn.out.mono ?_
                rintro e w13 ⟨vA, vn, vc, okv, rfl, HB13, HV13⟩
                have HVo := Lib.hid (ApS.voted (HS12.out.below HB13.out) i)
                clear HLn HW12
                go_wp2_with fail
                refine HVo.out.mono ?_
                rintro e w14 ⟨b, sl, bn, bd, uA, un, uc, rfl, HB14, HU14⟩
                obtain ⟨w15, hw15⟩ : ∃ z, z = w14.alloc (.cells #[.int .u64 (b.n : Int), .int .i64 b.node] 44) := ⟨_, rfl⟩
                obtain ⟨w16, hw16⟩ : ∃ z, z = w15.alloc (.cells #[.int .u64 (sl : Int), .int .u64 (bn : Int), .int .i64 bd, .slice uA un uc] 46) := ⟨_, rfl⟩
                have hb15 : Below w14.heap.size w14 w15 := by rw [hw15]; exact bel1P _
                have hb16 : Below w15.heap.size w15 w16 := by rw [hw16]; exact bel1P _
                have hs15 : w15.heap.size = w14.heap.size + 1 := by rw [hw15]; simp
                have hkv : Bk w16 (w14.heap.size + 1) 46 #[.int .u64 (sl : Int), .int .u64 (bn : Int), .int .i64 bd, .slice uA un uc] := by rw [hw16, ← hs15]; exact Bk.new w15 _ _
                have hb146 := below_then hb15 hb16
                obtain ⟨lv, hov, hvn⟩ := HV13.out
                obtain ⟨lu, hou, hun⟩ := HU14.out
                have hov6 := own_below (own_below hov HB14.out fun k e => (hov.lt k e).2) hb146 fun k e => Nat.lt_of_lt_of_le (hov.lt k e).2 HB14.out.size
                have hou6 := own_below hou hb146 fun k e => (hou.lt k e).2
                have HSp1 := Lib.hid (spoil_own hov6 hvn)
                have HVlt : Hid (∀ k, (Value.slice vA vn vc).ownBlock = some k → w12.heap.size ≤ k ∧ k < w13.heap.size) := Lib.hid fun k e => hov.lt k e
                have HUlt : Hid (∀ k, (Value.slice uA un uc).ownBlock = some k → w13.heap.size ≤ k ∧ k < w14.heap.size) := Lib.hid fun k e => hou.lt k e
                have HOu := Lib.hid (And.intro hou6 hun)
                have HKv := Lib.hid hkv
                have HK126 : Hid (Kp (fun k => w12.heap.size ≤ k) w12 w16) := Lib.hid (Kp.of_below (below_then (below_then HB13.out HB14.out) hb146))
                have HB146 := Lib.hid hb146
                have HW15 := Lib.hid hw15
                have HW16 := Lib.hid hw16
                clear hw15 hw16 hb15 hb16 hkv hb146 hov hou hov6 hou6 hvn hun HV13 HU14 HVo
                go_upto_region 19 with (fail)
                rw [← HW15.out, ← HW16.out]
                clear HW15 HW16
                go_wp2_with fail
                refine HSp1.out.mono ?_
                rintro e w17 ⟨rfl, hk17⟩
                have hz13 := HB14.out.size
                have hz12 := HB13.out.size
                have hz146 := HB146.out.size
                have kv17 := HKv.out.kp hk17 (fun e => by have := (HVlt.out _ e).2; omega)
                have v3 : w17.cell? ⟨w14.heap.size + 1, 3, none⟩ = some (.slice uA un uc) := kv17.cell 3
                have ou17 := own_kp HOu.out.1 hk17 fun k e e2 => by have := (HUlt.out _ e).1; have := (HVlt.out _ e2).2; omega
                have HSp2 := Lib.hid (spoil_own ou17 HOu.out.2)
                have HK127 : Hid (Kp (fun k => w12.heap.size ≤ k) w12 w17) := Lib.hid (HK126.out.trans (hk17.mono fun k e => (HVlt.out k e).1))
                clear hk17 kv17 ou17 HSp1 HOu
                go_wp2_with fail
                refine HSp2.out.mono ?_
                rintro e w18 ⟨rfl, hk18⟩
                have hk128 : Kp (fun k => w12.heap.size ≤ k) w12 w18 := HK127.out.trans (hk18.mono fun k e => Nat.le_trans hz12 (HUlt.out k e).1)
                have HK11 : Hid (Kp (fun k => w11.heap.size ≤ k) w11 w18) := Lib.hid ((Kp.of_below HB12.out).trans (hk128.mono fun k e => Nat.le_trans HB12.out.size e))
                have m5 : w18.cell? ⟨w11.heap.size, 5, none⟩ = some (.slice A7 ml.votes.length c7) := (HK12.out.kp hk128 (by have := HK12.out.lt; omega)).cell 5
                clear hk128 hk18 v3 HSp2 HK127 HK126 HVlt HUlt HB13 HB14 HB146 HKv HB12 HK12 HS12 hz12 hz13 hz146 hs15
                obtain ⟨gk2, hgk2⟩ : ∃ z, z = gk := ⟨_, rfl⟩
                have hle1 := HLe.out
                have hml2 : ∀ v, ml.votes = [v] → v.val.length ≤ 1000000 := fun v e => by rw [HMl.out] at e; exact HOk.out i v e
                clear HMl
                obtain ⟨vs, hvs⟩ : ∃ z, z = ml.votes := ⟨_, rfl⟩
                rw [← hvs] at HLO m5 hle1 hml2
                clear HLe hvs
                match vs, hle1 with
                | [], _ =>
                  clear hle1 hml2
                  go_wp2_with fail
                  have HS19 := Lib.hid (HS11.out.kp HK11.out (fun k e => Nat.le_trans HS11.out.bd e))
                  go_loopg [19] 0 (fun gx jx wy => jx = .int .i64 0 ∧ w18 = wy)
                  case atStart => exact ⟨rfl, rfl⟩
                  case round =>
                    obtain ⟨rfl, hwr⟩ := hrel
                    subst hwr
                    go_wp2
                    go_roundg (gk2 - 1)
                    case measure => omega
                    case rel => exact ⟨i + 1, by go_num, by omega, HS19⟩
                | [v9], _ =>
                  have HVl := Lib.hid (hml2 v9 rfl)
                  clear hle1 hml2
                  go_wp2_with fail
                  obtain ⟨R, xA, xc, rfl, hRge, hro, hxo, hxne⟩ := HLO.out.2 v9 rfl
                  have hxl : v9.val.length ≤ 1000000 := HVl.out
                  have k11 := HK11.out
                  have ro8 := own_kp hro k11 fun k e e2 => by have := (hro.lt k e).2; omega
                  have xo8 := own_kp hxo k11 fun k e e2 => by have := (hxo.lt k e).2; omega
                  have HSp3 := Lib.hid (spoil_own xo8 hxl)
                  have r3 := ro8.cells (g := R) rfl 3 _ rfl
                  rw [Addr.add_lit, Nat.zero_add] at r3
                  have HRo := Lib.hid ro8
                  have HXo := Lib.hid xo8
                  have HXn := Lib.hid hxne
                  have HRlt := Lib.hid (hro.lt R rfl).2
                  have HXlt : Hid (∀ k, (Value.slice xA v9.val.length xc).ownBlock = some k → wq.heap.size ≤ k ∧ k < w11.heap.size) := Lib.hid fun k e => hxo.lt k e
                  have HRge := Lib.hid hRge
                  have HS18 := Lib.hid (HS11.out.kp k11 (fun k e => Nat.le_trans HS11.out.bd e))
                  clear hro hxo hxne k11 ro8 xo8 hRge hxl
                  go_loopg [19] 1 (fun gx jx wy => (gx = 1 ∧ jx = .int .i64 0 ∧ w18 = wy) ∨ (gx = 0 ∧ jx = .int .i64 1 ∧ Hid (wy.cell? ⟨w11.heap.size, 5, none⟩ = some (.slice (some ⟨R, 0, none⟩) 1 c7)) ∧ Hid (ApS W wy Bd g1 N1 g2 N2 g3 N3 r9 r9)))
                  case atStart => exact .inl ⟨rfl, rfl, rfl⟩
                  case round =>
                    rcases hrel with ⟨rfl, rfl, hwr⟩ | ⟨rfl, rfl, HM5, HS20⟩
                    · subst hwr
                      go_wp2_with fail
                      refine HSp3.out.mono ?_
                      rintro e w19 ⟨rfl, hk19⟩
                      have ro9 := own_kp HRo.out hk19 fun k e e2 => HXn.out k e2 (by have := (HRo.out.lt k e); injection e with e; exact e.symm)
                      have r0 := ro9.cells (g := R) rfl 0 _ rfl
                      rw [Addr.add_lit, Nat.zero_add] at r0
                      have rf : w19.frozen? ⟨R, 0, none⟩ = false := by
                        rcases ro9.2 with ⟨h', h0⟩ | ⟨gr, cap, cur, hv, _, hh, _⟩
                        · omega
                        · injection hv with hv
                          injection hv with hv
                          injection hv with hv
                          subst hv
                          exact Bk.frozen (t := 46) (cs := cur) hh 0
                      have gm5 : w19.cell? ⟨w11.heap.size, 5, none⟩ = some (.slice (some ⟨R, 0, none⟩) 1 c7) := cell_kp (p := ⟨w11.heap.size, 5, none⟩) m5 hk19 (fun e => absurd (HXlt.out _ e).2 (Nat.lt_irrefl _))
                      have hkR : Kp (fun k => k = R) w19 (w19.setCell ⟨R, 0, none⟩ (.int .u64 9)) := Kp.set_ (F := fun k => k = R) (p := ⟨R, 0, none⟩) rfl _
                      have HM5 : Hid ((w19.setCell ⟨R, 0, none⟩ (.int .u64 9)).cell? ⟨w11.heap.size, 5, none⟩ = some (.slice (some ⟨R, 0, none⟩) 1 c7)) := Lib.hid (cell_kp (p := ⟨w11.heap.size, 5, none⟩) gm5 hkR (fun e => by have e9 : w11.heap.size = R := e; have := HRlt.out; omega))
                      have HS20 := Lib.hid ((HS18.out.kp hk19 (fun k e => Nat.le_trans HWq.out (HXlt.out k e).1)).kp hkR (fun k e => by rw [e]; exact Nat.le_trans HWq.out HRge.out))
                      clear hk19 hkR ro9 m5 r3
                      go_wp2
                      go_roundg 0
                      case measure => omega
                      case rel => exact .inr ⟨rfl, rfl, HM5, HS20⟩
                    · have m6 := HM5.out
                      clear m5 r3
                      go_wp2
                      go_roundg (gk2 - 1)
                      case measure => omega
                      case rel => exact ⟨i + 1, by go_num, by omega, HS20⟩
                | _ :: _ :: _, h => exact absurd h (by simp)
              · have hiI : ¬ (i : Int) < 3 := by omega
                have HLn1 := Lib.hid HS10.out.len1
                have HLn2 := Lib.hid HS10.out.len2
                have hmo := HMo.out
                clear HOk
                go_wp2_with fail
                refine HLn1.out.mono ?_
                rintro e w10 ⟨rfl, rfl⟩
                go_wp2_with fail
                refine HLn2.out.mono ?_
                rintro e w10 ⟨rfl, rfl⟩
                clear HLn1 HLn2
                go_wp2_with fail
                go_loopg [20] r9.row.length (fun gj j wy => ∃ i : Nat, j = .int .i64 (i : Int) ∧ i + gj = r9.row.length ∧ Hid (ApS W wy Bd g1 N1 g2 N2 g3 N3 r9 r9))
                case atStart => exact ⟨0, rfl, by omega, HS10⟩
                case round =>
                  clear HS10
                  obtain ⟨i, rfl, hig2, HSq⟩ := hrel
                  have HLn5 := Lib.hid HSq.out.len1
                  by_cases hi2 : i < r9.row.length
                  · have hi2I : (i : Int) < (r9.row.length : Int) := by omega
                    have hi3I : (i : Int) < 200 := by omega
                    have HLk := Lib.hid (ApS.look1 HSq.out i)
                    go_wp2_with fail
                    refine HLn5.out.mono ?_
                    rintro e w20 ⟨rfl, rfl⟩
                    go_wp2_with fail
                    refine HLk.out.mono ?_
                    rintro e w21 ⟨A1, c1, ok1, rfl, HS21, HLO1, HLe1⟩
                    obtain ⟨ml, hml⟩ : ∃ z, z = (r9.look i).1 := ⟨_, rfl⟩
                    rw [← hml] at HLO1 HLe1 ⊢
                    obtain ⟨w22, hw22⟩ : ∃ z, z = w21.alloc (.cells #[.int .i64 (ml.kind : Int), .int .i64 (ml.frm : Int), .int .i64 (ml.dst : Int), .int .u64 (ml.bal.n : Int), .int .i64 ml.bal.node, .slice A1 ml.votes.length c1] 63) := ⟨_, rfl⟩
                    have hb22 : Below w21.heap.size w21 w22 := by rw [hw22]; exact bel1P _
                    have hk22 : Bk w22 w21.heap.size 63 #[.int .i64 (ml.kind : Int), .int .i64 (ml.frm : Int), .int .i64 (ml.dst : Int), .int .u64 (ml.bal.n : Int), .int .i64 ml.bal.node, .slice A1 ml.votes.length c1] := by rw [hw22]; exact Bk.new w21 _ _
                    have HS22 := Lib.hid (HS21.out.below hb22)
                    have HV22 := Lib.hid ((HLO1.out.vtL HLe1.out).below hb22)
                    have HLk2 := Lib.hid (ApS.look2 HS22.out i)
                    rw [← hml] at HLk2
                    have HK22 := Lib.hid hk22
                    have HW22 := Lib.hid hw22
                    clear hw22 hb22 hk22 HLk HS21 HLO1 hml
                    go_upto_region 32 with (fail)
                    rw [← HW22.out]
                    go_wp2_with fail
                    refine HLk2.out.mono ?_
                    rintro e w23 ⟨A2, c2, ok2, rfl, HS23, HLO2, HLe2⟩
                    obtain ⟨w24, hw24⟩ : ∃ z, z = w23.alloc (.cells #[.int .i64 (ml.kind : Int), .int .i64 (ml.frm : Int), .int .i64 (ml.dst : Int), .int .u64 (ml.bal.n : Int), .int .i64 ml.bal.node, .slice A2 ml.votes.length c2] 63) := ⟨_, rfl⟩
                    have hb24 : Below w23.heap.size w23 w24 := by rw [hw24]; exact bel1P _
                    have hk24 : Bk w24 w23.heap.size 63 #[.int .i64 (ml.kind : Int), .int .i64 (ml.frm : Int), .int .i64 (ml.dst : Int), .int .u64 (ml.bal.n : Int), .int .i64 ml.bal.node, .slice A2 ml.votes.length c2] := by rw [hw24]; exact Bk.new w23 _ _
                    have hk22 := (HK22.out.below HLO2.out.1 HK22.out.lt).below hb24 (Nat.lt_of_lt_of_le HK22.out.lt HLO2.out.1.size)
                    have x0 : w24.cell? ⟨w21.heap.size, 0, none⟩ = some (.int .i64 (ml.kind : Int)) := hk22.cell 0
                    have x1 : w24.cell? ⟨w21.heap.size, 1, none⟩ = some (.int .i64 (ml.frm : Int)) := hk22.cell 1
                    have x2 : w24.cell? ⟨w21.heap.size, 2, none⟩ = some (.int .i64 (ml.dst : Int)) := hk22.cell 2
                    have x3 : w24.cell? ⟨w21.heap.size, 3, none⟩ = some (.int .u64 (ml.bal.n : Int)) := hk22.cell 3
                    have x4 : w24.cell? ⟨w21.heap.size, 4, none⟩ = some (.int .i64 ml.bal.node) := hk22.cell 4
                    have x5 : w24.cell? ⟨w21.heap.size, 5, none⟩ = some (.slice A1 ml.votes.length c1) := hk22.cell 5
                    have y0 : w24.cell? ⟨w23.heap.size, 0, none⟩ = some (.int .i64 (ml.kind : Int)) := hk24.cell 0
                    have y1 : w24.cell? ⟨w23.heap.size, 1, none⟩ = some (.int .i64 (ml.frm : Int)) := hk24.cell 1
                    have y2 : w24.cell? ⟨w23.heap.size, 2, none⟩ = some (.int .i64 (ml.dst : Int)) := hk24.cell 2
                    have y3 : w24.cell? ⟨w23.heap.size, 3, none⟩ = some (.int .u64 (ml.bal.n : Int)) := hk24.cell 3
                    have y4 : w24.cell? ⟨w23.heap.size, 4, none⟩ = some (.int .i64 ml.bal.node) := hk24.cell 4
                    have y5 : w24.cell? ⟨w23.heap.size, 5, none⟩ = some (.slice A2 ml.votes.length c2) := hk24.cell 5
                    have HSm := Lib.hid (same11_eq (m := ml) (c := c1) (d := c2) ((HV22.out.below HLO2.out.1).below hb24) ((HLO2.out.vtL HLe2.out).below hb24))
                    have HS24 := Lib.hid (HS23.out.below hb24)
                    have HW24 := Lib.hid hw24
                    unfold mlG at HSm
                    clear hw24 hb24 hk24 hk22 HLk2 HS22 HS23 HLO2 HK22 HV22
                    go_upto_region 33 with (fail)
                    rw [← HW24.out]
                    go_wp2_with fail
                    refine HSm.out.mono ?_
                    rintro e w25 ⟨rfl, hb25⟩
                    have HS25 := Lib.hid (HS24.out.below hb25)
                    clear hb25 x0 x1 x2 x3 x4 x5 y0 y1 y2 y3 y4 y5 HSm HS24 HW24 HW22
                    go_wp2
                    go_roundg (gk - 1)
                    case measure => omega
                    case rel => exact ⟨i + 1, by go_num, by omega, HS25⟩
                  · have hi2I : ¬ (i : Int) < (r9.row.length : Int) := by omega
                    go_wp2_with fail
                    refine HLn5.out.mono ?_
                    rintro e w20 ⟨rfl, rfl⟩
                    go_wp2
                    go_roundg (gko - 1)
                    case measure => omega
                    case rel => exact ⟨k + 1, r9, Bd, by go_num, by omega, HSq⟩
          · have hkI : (k : Int) < (n : Int) := by omega
            have h2I : ¬ (k : Int) < 80 := by omega
            have HB0 := Lib.hid HS.out.bel
            go_wp2_with fail
            refine (HKn.out _).mono ?_
            rintro e wk ⟨rfl, hbk⟩
            have HBk := Lib.hid (below_then HB0.out hbk)
            clear hbk
            go_wp2
            go_ret
            exact ⟨rfl, HBk.out⟩
        · have hkI : ¬ (k : Int) < (n : Int) := by omega
          have HB0 := Lib.hid HS.out.bel
          go_wp2_with fail
          refine (HKn.out _).mono ?_
          rintro e wk ⟨rfl, hbk⟩
          have HBk := Lib.hid (below_then HB0.out hbk)
          clear hbk
          go_wp2
          go_ret
          exact ⟨rfl, HBk.out⟩
namespace synodApart
set_option maxRecDepth 100000 in
theorem lifted (os : Os) (started : os.Started) (H : Type) (enc : TypeId × Value → H) :
    ReturnsInHanded {} Try.checked os 7 .any (Rows.synodApartSpec.pre6 enc Try.prog Try.f7 Rows.synodApartRow.domain false) (Rows.synodApartSpec.post enc Try.prog Try.f7 false true false false) := by
  refine law_lift started (by kernel_rfl) Try.func7
    (ChangeSpec.witness6 (enc := enc) (C := Try.checked) false ⟨#[], #[.slice none 0 0, .slice none 0 0], []⟩ 8 (by kernel_rfl) (by kernel_rfl) (by kernel_rfl) (by kernel_rfl))
    rfl ?_ (by kernel_rfl) (by kernel_rfl) ?_
  · intro ds h
    match ds, h with
    | [_, _], _ => rfl
  intro W base args ds p g
  have hA := g.trod
  have hval := g.val
  rw [Try.params7] at hA hval
  obtain ⟨v0, vs0, d0, ds0, p0, q0, hargs, rfl, rfl, h0, r0⟩ := trodAll_cons hA
  obtain ⟨v1, vs1, d1, ds1, p1, q1, rfl, rfl, rfl, h1, r1⟩ := trodAll_cons r0
  obtain ⟨rfl, rfl, rfl⟩ := trodAll_nil r1
  obtain rfl : args = #[v0, v1] := by cases args; simp_all
  obtain ⟨A0, n0, c0, f0, rfl, hc0, hm0, hr0⟩ := given_as11 (hval 0 25 v0 rfl rfl) h0
  obtain ⟨A1, n1, c1, f1, rfl, hc1, hm1, hr1⟩ := given_as11 (hval 1 25 v1 rfl rfl) h1
  exact synodApart_walk A0 n0 c0 f0 A1 n1 c1 f1 W hc0 hm0 hr0 hc1 hm1 hr1

theorem over : Rows.synodApartRow.holds Try.pinned (OpenSpec.ofChange Rows.synodApartSpec) :=
  OpenClaim.holds_of_wide 7 Try.f7 rfl rfl rfl rfl rfl rfl rfl ⟨rfl, rfl, rfl, rfl, rfl⟩ rfl rfl rfl rfl rfl (by kernel_rfl) Try.func7 (by kernel_rfl)
    (of_decide_eq_true (by kernel_rfl)) (by unfold Func.isWrapper; first | (rw [if_pos (by decide +kernel)]; kernel_rfl) | (rw [if_neg (by decide +kernel)]; exact ⟨rfl, rfl⟩))
    (fun os started H enc _ => lifted os started H enc)
end synodApart

theorem SynodApart_proved : Rows.SynodApartSaid := synodApart.over
#print axioms SynodApart_proved
end Go.Proofs.Ytjapmolmgfaocaa
