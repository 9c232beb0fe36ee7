/- SynodTrue: what is learned, and what is voted for, is a value that somebody was started with; what was learned stays till a crash. -/
import Derived.Test.YtjapmolmgfaocaaM1SynTr
import Derived.Test.YtjapmolmgfaocaaM1Append2
import Derived.Deep.CutRange
import Derived.Deep.DeepCutAuto
import Derived.BigQuiet
import Derived.Deep.QuietTactic
namespace Go.Proofs.Ytjapmolmgfaocaa
open Go.ChangeShapes Go.WideShapes Go.ChangeAt Go.RowKit Go.Maps

theorem infoBy11 : (Try.prog.info? 31).map (fun i => (i.zero, i.size, i.bytes)) = some (some (.slice none 0 0), 1, 24) := by kernel_rfl
set_option maxRecDepth 100000 in
set_option maxHeartbeats 8000000 in
theorem synodTrue_walk (x : Gq) (A : Option Addr) (n c : Nat) (f : Nat → Ga) (W : World) (hq : Qi W x.q x.A x.n x.c) (hc1 : n ≤ c) (hc2 : c ≤ 9223372036854775807) (hA : As11 W W.heap.size A n f) : Calls Try.prog 4 #[x.v, .slice A n c] W fun e W' => e = .returned (.bool true) ∧ Below W.heap.size W W' := by
  obtain ⟨q, qA, qn, qc⟩ := x
  unfold Gq.v
  dsimp only at *
  obtain ⟨w1, HW1, HB1, HK1⟩ := boxed q.kind q.nodes q.one q.two qA qn qc W
  have hk1 := HK1.out
  have b0 : w1.cell? ⟨W.heap.size, 0, none⟩ = some (.int .i64 q.kind) := hk1.cell 0
  have b1 : w1.cell? ⟨W.heap.size, 1, none⟩ = some (.int .i64 q.nodes) := hk1.cell 1
  have b2 : w1.cell? ⟨W.heap.size, 2, none⟩ = some (.int .i64 q.one) := hk1.cell 2
  have b3 : w1.cell? ⟨W.heap.size, 3, none⟩ = some (.int .i64 q.two) := hk1.cell 3
  have b4 : w1.cell? ⟨W.heap.size, 4, none⟩ = some (.slice qA qn qc) := hk1.cell 4
  have HR := Lib.hid (room_any (hq.up HB1.out))
  have HL : Hid (∀ w, Below W.heap.size W w → Calls Try.prog 10 #[.slice A n c] w (LongR w)) := Lib.hid fun w hb => long_any (hA.below hb) ⟨hc1, hc2⟩
  have HKn := Lib.hid (fun w => known11_any w)
  have HAc : Hid (∀ w, Below W.heap.size W w → ∀ k, k < n → ∃ b o, A = some ⟨b, o, none⟩ ∧ w.cell? ⟨b, o + k * 3, none⟩ = some (.int .i64 (f k).kind) ∧ w.cell? ⟨b, o + k * 3 + 1, none⟩ = some (.int .i64 (f k).a) ∧ w.cell? ⟨b, o + k * 3 + 2, none⟩ = some (.slice (f k).A (f k).n (f k).c) ∧ Rd w W.heap.size (f k).A (f k).n (f k).val) := Lib.hid fun w hb k hk => by
    obtain ⟨b, o, e, _, hi⟩ := (hA.below hb) (by omega)
    obtain ⟨q0, q1, q2, q3⟩ := hi k hk
    exact ⟨b, o, e, q1, q2, q3, q0.body⟩
  clear hq hA hk1 HK1
  unfold qV at HR ⊢
  obtain ⟨kd, nd, on, tw, l⟩ := q
  dsimp only at *
  go_enter Try.func4, Try.ntmps4
  go_upto_region 1 with (fail)
  rw [← HW1.out]
  go_wp2_with fail
  refine HR.out.mono ?_
  rintro e w2 ⟨g, N, col, q, hqr, rfl, ho⟩
  have HO : Hid (TrS W (w2.alloc (.cells (flA fun _ => false) 40)) g N w2.heap.size q (.slice none 0 0) [] (fun _ => false) (fun _ => False)) := Lib.hid (TrS.start ⟨ho.rm, fun k hk => Nat.le_trans HB1.out.size (ho.ge k hk), below_then HB1.out ho.bel⟩ hqr)
  have HB2 : Hid (Below W.heap.size W w2) := Lib.hid (below_then HB1.out ho.bel)
  obtain ⟨qm, hqn⟩ : ∃ z, q.n = z := ⟨_, rfl⟩
  rw [hqn]
  have HLs : Hid (0 < qm ∧ qm ≤ 12) := Lib.hid (by rw [← hqn]; exact ⟨(q.n_le hqr).1, (q.n_le hqr).2.1⟩)
  clear ho hqr b0 b1 b2 b3 b4 HR
  have Hqn := Lib.hid hqn
  clear hqn
  obtain ⟨i1, hi1, hy0, hy1, hy2⟩ := info_parts infoBy11
  go_wp2_with fail
  refine (HL.out w2 HB2.out).mono ?_
  rintro e w3 ⟨lb, rfl, rfl⟩
  cases lb with
  | true =>
    go_wp2_with fail
    refine (HKn.out _).mono ?_
    rintro e w4 ⟨rfl, hb4⟩
    have HB4 := Lib.hid (below_then HB2.out hb4)
    clear hb4
    go_wp2
    go_ret
    exact ⟨rfl, HB4.out⟩
  | false =>
    go_wp2_with fail
    have HB2a : Hid (Below W.heap.size W (w2.alloc (.cells (flA fun _ => false) 40))) := Lib.hid HO.out.bel
    go_loopg [7, 9] n (fun gk vv i wr => ∃ (k : Nat) (v : Value) (es : List Ve) (fl : Nat → Bool), vv = v ∧ i = .int .i64 (k : Int) ∧ k + gk = n ∧ Hid (es.length ≤ k) ∧ Hid (TrS W wr g N w2.heap.size q v es fl (fun _ => False)) ∧ Hid (Below W.heap.size W wr))
    case atStart => exact ⟨0, _, [], _, rfl, rfl, by omega, Lib.hid (Nat.le_refl _), HO, HB2a⟩
    case round =>
      obtain ⟨k, v, es, fl, rfl, rfl, hkg, HLe, HS, HB⟩ := hrel
      by_cases hk : k < n
      · by_cases h2 : k < 150
        · skip
          have hkI : (k : Int) < (n : Int) := by omega
          have h2I : (k : Int) < 150 := by omega
          have hle := HLe.out
          obtain ⟨Av, cv, rfl, _⟩ := own_shape HS.out.row
          obtain ⟨b, o, rfl, a0, a1, a2, hrd⟩ := HAc.out wr HB.out k hk
          have HRd : Hid (Rd W W.heap.size (f k).A (f k).n (f k).val) := Lib.hid (by obtain ⟨_, _, _, _, _, _, h⟩ := HAc.out W (Below.refl _ _) k hk; exact h)
          obtain ⟨cd, hcd⟩ : ∃ x, x = decide ((f k).kind = 0 ∧ (f k).n ≤ 100) := ⟨_, rfl⟩
          have Hcd := Lib.hid hcd
          clear hcd hrd
          go_upto_region 9 with (fail)
          go_cut [55] from 31 to 132 (fun c wx => c = .bool cd ∧ wr = wx)
          case first =>
            by_cases h0 : (f k).kind = 0
            · have h0e : ((f k).kind == 0) = true := by rw [h0]; rfl
              by_cases h100 : (f k).n ≤ 100
              · have h100I : ((f k).n : Int) ≤ 100 := by omega
                have h100e : decide (((f k).n : Int) ≤ 100) = true := decide_eq_true h100I
                have hok : cd = true := by rw [Hcd.out]; exact decide_eq_true ⟨h0, h100⟩
                subst hok
                go_wp2_with fail
                go_meet
                exact ⟨by first | rfl | rw [h100e], rfl⟩
              · have h100I : ¬ ((f k).n : Int) ≤ 100 := by omega
                have h100e : decide (((f k).n : Int) ≤ 100) = false := decide_eq_false h100I
                have hok : cd = false := by rw [Hcd.out]; exact decide_eq_false fun h => h100 h.2
                subst hok
                go_wp2_with fail
                go_meet
                exact ⟨by first | rfl | rw [h100e], rfl⟩
            · have h0e : ((f k).kind == 0) = false := by simpa using h0
              have hok : cd = false := by rw [Hcd.out]; exact decide_eq_false fun h => h0 h.1
              subst hok
              go_wp2_with fail
              go_meet
              exact ⟨rfl, rfl⟩
          case rest =>
          obtain ⟨rfl, rfl⟩ := hcut
          go_upto_if 55 with (fail)
          go_cut [7] from 31 to 132 (fun v5 wx => ∃ es5, Hid (TrS W wx g N w2.heap.size q v5 es5 fl (fun _ => False)) ∧ Hid (es5.length ≤ k + 1) ∧ Hid ((f k).kind = 0 → (f k).val.length ≤ 100 → ∃ e ∈ es5, e.1 = (f k).val))
          case first =>
            cases cd with
            | true =>
              go_wp2_with (at_builtin; go_loud (refine wpList_append_app _ rfl _ _ 39 rfl W.heap.size 31 i1 (.slice none 0 0) 1 24 Try.underlying39 hi1 hy0 hy1 hy2 rfl _ es.length (veC es) rfl (HS.out.row.alloc _) (some ⟨wr.heap.size, 0, none⟩) 1 1 [.slice (f k).A (f k).n (f k).c] rfl rfl (by intro e; cases e) (one_new _ _ _ rfl) (by intro u hu; simp at hu; subst hu; rfl) (by unfold maxLen; omega) (by omega) (by have := HB.out.size; simp; omega) ?_))
              intro v5 w3 ha
              have HS3 := Lib.hid (TrS.push HS.out (bel1P _) HRd.out ha)
              have HL3 : Hid ((es ++ [((f k).val, Value.slice (f k).A (f k).n (f k).c)]).length ≤ k + 1) := Lib.hid (by simp; omega)
              have HI3 : Hid ((f k).kind = 0 → (f k).val.length ≤ 100 → ∃ e ∈ (es ++ [((f k).val, Value.slice (f k).A (f k).n (f k).c)]), e.1 = (f k).val) := Lib.hid fun _ _ => ⟨_, List.mem_append.2 (.inr (List.mem_singleton.2 rfl)), rfl⟩
              generalize es ++ [((f k).val, Value.slice (f k).A (f k).n (f k).c)] = es5 at HS3 HL3 HI3
              clear ha
              go_wp2_with fail
              go_meet
              exact ⟨es5, HS3, HL3, HI3⟩
            | false =>
              have HI3 : Hid ((f k).kind = 0 → (f k).val.length ≤ 100 → ∃ e ∈ es, e.1 = (f k).val) := Lib.hid fun z1 z2 => absurd (decide_eq_true (p := (f k).kind = 0 ∧ (f k).n ≤ 100) ⟨z1, by have := HRd.out.1; omega⟩) (by rw [← Hcd.out]; decide)
              go_wp2_with fail
              go_meet
              exact ⟨es, HS, Lib.hid (by omega), HI3⟩
          case rest =>
          obtain ⟨es5, HS3, HL3, HI3⟩ := hcut
          clear a0 a1 a2 HS HB Hcd HLe hle
          have HB3 := Lib.hid HS3.out.bel
          have HP := Lib.hid (TrS.play HS3.out (f k).kind (f k).a (f k).A (f k).n (f k).c (f k).val (HRd.out.below HB3.out) HI3.out)
          rw [Hqn.out] at HP
          obtain ⟨b3, o3, e3, c0, c1, c2, _⟩ := HAc.out wc HB3.out k hk
          injection e3 with e3
          injection e3 with e4 e5
          subst e4
          subst e5
          go_upto_region 11 with (fail)
          go_wp2_with fail
          refine HP.out.mono ?_
          rintro e w5 ⟨rfl, HS5, HB5⟩
          clear c0 c1 c2 HP HS3 HI3 HB3
          obtain ⟨b5, o5, e3, c0, c1, c2, _⟩ := HAc.out w5 HB5.out k hk
          injection e3 with e3
          injection e3 with e4 e5
          subst e4
          subst e5
          go_upto_if 76 with (fail)
          go_cut [] from 31 to 132 (fun wx => ∃ f6, Hid (TrS W wx g N w2.heap.size q u7 es5 f6 (fun _ => False)))
          case first =>
            by_cases h7 : (f k).kind = 7
            · have h7e : ((f k).kind == 7) = true := by rw [h7]; rfl
              have hz := atN_lt (f k).a HLs.out.1
              have HAt : Hid (Calls Try.prog 15 #[.int .i64 (f k).a, .int .i64 (qm : Int)] w5 fun e w' => e = .returned (.int .i64 (atN (f k).a qm : Int)) ∧ w5 = w') := Lib.hid (at_any (f k).a qm (by have := HLs.out.2; omega) w5)
              have HS6 := Lib.hid (TrS.set (i := atN (f k).a qm) HS5.out (by have := HLs.out.2; omega) (fun j e => e.2))
              obtain ⟨y0, y1⟩ := HS5.out.cell (k := atN (f k).a qm) (by have := HLs.out.2; omega)
              generalize atN (f k).a qm = z at *
              have hzI : (z : Int) < 12 := by have := HLs.out.2; omega
              go_wp2_with fail
              refine HAt.out.mono ?_
              rintro e w6 ⟨rfl, rfl⟩
              go_wp2_with fail
              go_meet
              exact ⟨_, HS6⟩
            · have h7e : ((f k).kind == 7) = false := by simpa using h7
              have HS6 := Lib.hid (TrS.weak HS5.out (Y := fun _ => False) (fun j e => h7 e.1))
              go_wp2_with fail
              go_meet
              exact ⟨_, HS6⟩
          case rest =>
          obtain ⟨fl6, HS6⟩ := hcut
          clear HS5 HB5 c0 c1 c2 HRd
          obtain ⟨gko, hgko⟩ : ∃ z, z = gk := ⟨_, rfl⟩
          go_wp2_with fail
          go_loopg [10] qm (fun gj j wr2 => ∃ (i : Nat) (f2 : Nat → Bool), j = .int .i64 (i : Int) ∧ i + gj = qm ∧ Hid (TrS W wr2 g N w2.heap.size q u7 es5 f2 (fun _ => False)))
          case atStart => exact ⟨0, _, rfl, by omega, HS6⟩
          case round =>
            obtain ⟨i, f2, rfl, hig, HS7⟩ := hrel
            clear HS6
            by_cases hi : i < qm
            · have hiI : (i : Int) < (qm : Int) := by omega
              have hi12 : i < 12 := by have := HLs.out.2; omega
              have hiI12 : (i : Int) < 12 := by omega
              have HLn := Lib.hid (TrS.learned HS7.out i (by rw [Hqn.out]; exact hi))
              clear HS7
              go_wp2_with fail
              refine HLn.out.mono ?_
              rintro e w7 ⟨vA, vn, vc, ok, rfl, HT7, HV7, HB7⟩
              have HVo := Lib.hid (TrL.voted HT7.out (by rw [Hqn.out]; exact hi))
              clear HLn HT7
              go_wp2_with fail
              refine HVo.out.mono ?_
              rintro e wa ⟨pn, pd, sl, bn, bd, uA, un, uc, rfl, HTa, HUa, HBa⟩
              have HVa := Lib.hid (HV7.out.below HBa.out)
              clear HVo HV7 HB7
              obtain ⟨wb, hwb⟩ : ∃ wb, wb = wa.alloc (.cells #[.int .u64 (pn : Int), .int .i64 pd] 44) := ⟨_, rfl⟩
              obtain ⟨wd, hwd⟩ : ∃ wd, wd = wb.alloc (.cells #[.int .u64 (sl : Int), .int .u64 (bn : Int), .int .i64 bd, .slice uA un uc] 46) := ⟨_, rfl⟩
              have hbb : Below wa.heap.size wa wb := by rw [hwb]; exact bel1P _
              have hbd : Below wb.heap.size wb wd := by rw [hwd]; exact bel1P _
              have hbs : wb.heap.size = wa.heap.size + 1 := by rw [hwb]; simp
              have hkd : Bk wd (wa.heap.size + 1) 46 #[.int .u64 (sl : Int), .int .u64 (bn : Int), .int .i64 bd, .slice uA un uc] := by rw [hwd, ← hbs]; exact Bk.new wb _ _
              have hbad := below_then hbb hbd
              have v0 : wd.cell? ⟨wa.heap.size + 1, 0, none⟩ = some (.int .u64 (sl : Int)) := hkd.cell 0
              have v3 : wd.cell? ⟨wa.heap.size + 1, 3, none⟩ = some (.slice uA un uc) := hkd.cell 3
              have HTd := Lib.hid (HTa.out.below hbad)
              have HVd := Lib.hid (HVa.out.below hbad)
              have HUd := Lib.hid (HUa.out.below hbad)
              obtain ⟨y0, y1⟩ := HTd.out.cell hi12
              have Hkn := Lib.hid HTd.out.knew
              have HEnd : Hid (TrS W (wd.setCell ⟨w2.heap.size, i, none⟩ (.bool ok)) g N w2.heap.size q u7 es5 (updW f2 i ok) (fun _ => False)) := Lib.hid (HTd.out.end_ hi12)
              have HWb := Lib.hid hwb
              have HWd := Lib.hid hwd
              have Hbs := hbs
              clear hwb hwd hbb hbd hbs hkd hbad HTa HVa HUa HBa
              go_upto_region 19 with (fail)
              rw [← HWb.out, ← HWd.out]
              have hlen3 := HL3.out
              have HA1 : Hid (ok = true → Calls Try.prog 17 #[u7, .slice vA vn vc] wd (AmR wd)) := Lib.hid fun e => TrL.among HTd.out (by rw [← e]; exact HVd.out) (by omega)
              have HA2 : Hid (0 < sl → Calls Try.prog 17 #[u7, .slice uA un uc] wd (AmR wd)) := Lib.hid fun e => TrL.among HTd.out (by have := HUd.out; rw [decide_eq_true e] at this; exact this) (by omega)
              clear HTd HVd HUd HWb HWd hlen3
              go_cut [129] from 85 to 132 (fun c wx => c = .bool false ∧ wd = wx)
              case first =>
                cases hf : f2 i with
                | false =>
                  rw [hf] at y0
                  cases ok with
                  | false =>
                    clear HA1
                    by_cases hs : 0 < sl
                    · have hsI : (0 : Int) < (sl : Int) := by omega
                      have HA4 := Lib.hid (HA2.out hs)
                      clear HA2
                      go_wp2_with fail
                      refine HA4.out.mono ?_
                      rintro e w9 ⟨rfl, rfl⟩
                      go_wp2_with fail
                      go_meet
                      exact ⟨rfl, rfl⟩
                    · obtain rfl : sl = 0 := by omega
                      clear HA2
                      go_wp2_with fail
                      go_meet
                      exact ⟨rfl, rfl⟩
                  | true =>
                    have HA3 := Lib.hid (HA1.out rfl)
                    clear HA1
                    by_cases hs : 0 < sl
                    · have hsI : (0 : Int) < (sl : Int) := by omega
                      have HA4 := Lib.hid (HA2.out hs)
                      clear HA2
                      go_wp2_with fail
                      refine HA3.out.mono ?_
                      rintro e w9 ⟨rfl, rfl⟩
                      go_wp2_with fail
                      refine HA4.out.mono ?_
                      rintro e w9 ⟨rfl, rfl⟩
                      go_wp2_with fail
                      go_meet
                      exact ⟨rfl, rfl⟩
                    · obtain rfl : sl = 0 := by omega
                      clear HA2
                      go_wp2_with fail
                      refine HA3.out.mono ?_
                      rintro e w9 ⟨rfl, rfl⟩
                      go_wp2_with fail
                      go_meet
                      exact ⟨rfl, rfl⟩
                | true =>
                  rw [hf] at y0
                  cases ok with
                  | false => exact absurd (Hkn.out hf) (by decide)
                  | true =>
                    have HA3 := Lib.hid (HA1.out rfl)
                    clear HA1
                    by_cases hs : 0 < sl
                    · have hsI : (0 : Int) < (sl : Int) := by omega
                      have HA4 := Lib.hid (HA2.out hs)
                      clear HA2
                      go_wp2_with fail
                      refine HA3.out.mono ?_
                      rintro e w9 ⟨rfl, rfl⟩
                      go_wp2_with fail
                      refine HA4.out.mono ?_
                      rintro e w9 ⟨rfl, rfl⟩
                      go_wp2_with fail
                      go_meet
                      exact ⟨rfl, rfl⟩
                    · obtain rfl : sl = 0 := by omega
                      clear HA2
                      go_wp2_with fail
                      refine HA3.out.mono ?_
                      rintro e w9 ⟨rfl, rfl⟩
                      go_wp2_with fail
                      go_meet
                      exact ⟨rfl, rfl⟩
              case rest =>
              obtain ⟨rfl, rfl⟩ := hcut
              have HE9 := HEnd
              clear HA1 HA2 HEnd
              go_wp2
              go_roundg (gk - 1)
              case measure => omega
              case rel => exact ⟨i + 1, _, by go_num, by omega, HE9⟩
            · have hiI : ¬ (i : Int) < (qm : Int) := by omega
              have HB7 := Lib.hid HS7.out.bel
              go_wp2
              go_roundg (gko - 1)
              case measure => omega
              case rel => exact ⟨k + 1, _, _, _, rfl, rfl, by omega, HL3, HS7, HB7⟩
        · have hkI : (k : Int) < (n : Int) := by omega
          have h2I : ¬ (k : Int) < 150 := by omega
          go_wp2_with fail
          refine (HKn.out _).mono ?_
          rintro e w4 ⟨rfl, hb4⟩
          have HB4 := Lib.hid (below_then HB.out hb4)
          clear hb4
          go_wp2
          go_ret
          exact ⟨rfl, HB4.out⟩
      · have hkI : ¬ (k : Int) < (n : Int) := by omega
        go_wp2_with fail
        refine (HKn.out _).mono ?_
        rintro e w4 ⟨rfl, hb4⟩
        have HB4 := Lib.hid (below_then HB.out hb4)
        clear hb4
        go_wp2
        go_ret
        exact ⟨rfl, HB4.out⟩
namespace synodTrue
set_option maxRecDepth 100000 in
theorem lifted (os : Os) (started : os.Started) (H : Type) (enc : TypeId × Value → H) :
    ReturnsInHanded {} Try.checked os 4 .any (Rows.synodTrueSpec.pre6 enc Try.prog Try.f4 Rows.synodTrueRow.domain false) (Rows.synodTrueSpec.post enc Try.prog Try.f4 false true false false) := by
  refine law_lift started (by kernel_rfl) Try.func4
    (ChangeSpec.witness6 (enc := enc) (C := Try.checked) false ⟨#[], #[.agg #[.int .i64 0, .int .i64 0, .int .i64 0, .int .i64 0, .slice none 0 0], .slice none 0 0], []⟩ 8 (by kernel_rfl) (by kernel_rfl) (by kernel_rfl) (by kernel_rfl))
    rfl ?_ (by kernel_rfl) (by kernel_rfl) ?_
  · intro ds h
    match ds, h with
    | [_, _], _ => rfl
  intro W base args ds p g
  have hA := g.trod
  have hval := g.val
  rw [Try.params4] at hA hval
  obtain ⟨v0, vs0, d0, ds0, p0, q0, hargs, rfl, rfl, h0, r0⟩ := trodAll_cons hA
  obtain ⟨v1, vs1, d1, ds1, p1, q1, rfl, rfl, rfl, h1, r1⟩ := trodAll_cons r0
  obtain ⟨rfl, rfl, rfl⟩ := trodAll_nil r1
  obtain rfl : args = #[v0, v1] := by cases args; simp_all
  obtain ⟨x0, hx0, rfl⟩ := given_q (hval 0 24 v0 rfl rfl) h0
  obtain ⟨A1, n1, c1, f1, rfl, hc1, hm1, hr1⟩ := given_as11 (hval 1 25 v1 rfl rfl) h1
  exact synodTrue_walk x0 A1 n1 c1 f1 W hx0 hc1 hm1 hr1

theorem over : Rows.synodTrueRow.holds Try.pinned (OpenSpec.ofChange Rows.synodTrueSpec) :=
  OpenClaim.holds_of_wide 4 Try.f4 rfl rfl rfl rfl rfl rfl rfl ⟨rfl, rfl, rfl, rfl, rfl⟩ rfl rfl rfl rfl rfl (by kernel_rfl) Try.func4 (by kernel_rfl)
    (of_decide_eq_true (by kernel_rfl)) (by unfold Func.isWrapper; first | (rw [if_pos (by decide +kernel)]; kernel_rfl) | (rw [if_neg (by decide +kernel)]; exact ⟨rfl, rfl⟩))
    (fun os started H enc _ => lifted os started H enc)
end synodTrue

theorem SynodTrue_proved : Rows.SynodTrueSaid := synodTrue.over
#print axioms SynodTrue_proved
end Go.Proofs.Ytjapmolmgfaocaa
