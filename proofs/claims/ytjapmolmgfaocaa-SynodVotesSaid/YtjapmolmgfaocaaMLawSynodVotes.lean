/- SynodVotes: no node's promised ballot ever falls, its vote's ballot is never above it; two votes of one ballot have one value. -/
import Derived.Test.YtjapmolmgfaocaaM1SynVo
import Derived.Test.YtjapmolmgfaocaaM1Append2
import Derived.Deep.LoopGhost
import Derived.Deep.CutRange
import Derived.Deep.DeepCutAuto
import Derived.Deep.RegionHeld3
import Derived.BigQuiet
import Derived.Deep.QuietTactic
namespace Go.Proofs.Ytjapmolmgfaocaa
open Go.ChangeShapes Go.WideShapes Go.ChangeAt Go.RowKit Go.Maps

theorem infoVote11 : (Try.prog.info? 46).map (fun i => (i.zero, i.size, i.bytes)) = some (some (.agg #[.int .u64 0, .int .u64 0, .int .i64 0, .slice none 0 0]), 4, 48) := by kernel_rfl
attribute [local go_sem ↓] bVts_eq
attribute [local go_sem] run_bVts
set_option maxRecDepth 100000 in
set_option maxHeartbeats 8000000 in
theorem synodVotes_walk (x : Gq) (A : Option Addr) (n c : Nat) (f : Nat → Ga) (W : World) (hq : Qi W x.q x.A x.n x.c) (hc1 : n ≤ c) (hc2 : c ≤ 9223372036854775807) (hA : As11 W W.heap.size A n f) : Calls Try.prog 5 #[x.v, .slice A n c] W fun e W' => e = .returned (.bool true) ∧ Below W.heap.size W W' := by
  obtain ⟨q, qA, qn, qc⟩ := x
  unfold Gq.v
  dsimp only at *
  obtain ⟨w1, HW1, HB1, HK1⟩ := boxed q.kind q.nodes q.one q.two qA qn qc W
  have hk1 := HK1.out
  have b0 : w1.cell? ⟨W.heap.size, 0, none⟩ = some (.int .i64 q.kind) := hk1.cell 0
  have b1 : w1.cell? ⟨W.heap.size, 1, none⟩ = some (.int .i64 q.nodes) := hk1.cell 1
  have b2 : w1.cell? ⟨W.heap.size, 2, none⟩ = some (.int .i64 q.one) := hk1.cell 2
  have b3 : w1.cell? ⟨W.heap.size, 3, none⟩ = some (.int .i64 q.two) := hk1.cell 3
  have b4 : w1.cell? ⟨W.heap.size, 4, none⟩ = some (.slice qA qn qc) := hk1.cell 4
  have HR := Lib.hid (room_any (hq.up HB1.out))
  have HL : Hid (∀ w, Below W.heap.size W w → Calls Try.prog 10 #[.slice A n c] w (LongR w)) := Lib.hid fun w hb => long_any (hA.below hb) ⟨hc1, hc2⟩
  have HKn := Lib.hid (fun w => known11_any w)
  have HAc : Hid (∀ w, Below W.heap.size W w → ∀ k, k < n → ∃ b o, A = some ⟨b, o, none⟩ ∧ w.cell? ⟨b, o + k * 3, none⟩ = some (.int .i64 (f k).kind) ∧ w.cell? ⟨b, o + k * 3 + 1, none⟩ = some (.int .i64 (f k).a) ∧ w.cell? ⟨b, o + k * 3 + 2, none⟩ = some (.slice (f k).A (f k).n (f k).c) ∧ Rd w W.heap.size (f k).A (f k).n (f k).val) := Lib.hid fun w hb k hk => by
    obtain ⟨b, o, e, _, hi⟩ := (hA.below hb) (by omega)
    obtain ⟨q0, q1, q2, q3⟩ := hi k hk
    exact ⟨b, o, e, q1, q2, q3, q0.body⟩
  clear hq hA hk1 HK1
  unfold qV at HR ⊢
  obtain ⟨kd, nd, on, tw, l⟩ := q
  dsimp only at *
  go_enter Try.func5, Try.ntmps5
  go_upto_region 1 with (fail)
  rw [← HW1.out]
  go_wp2_with fail
  refine HR.out.mono ?_
  rintro e w2 ⟨g, N, col, q, hqr, rfl, ho⟩
  have HO : Hid (VoS W (w2.alloc (.cells (bwA fun _ => Bl.zero) 50)) g N w2.heap.size q (.slice none 0 0) [] (fun _ => Bl.zero)) := Lib.hid (VoS.start ⟨ho.rm, fun k hk => Nat.le_trans HB1.out.size (ho.ge k hk), below_then HB1.out ho.bel⟩ hqr)
  have HB2 : Hid (Below W.heap.size W w2) := Lib.hid (below_then HB1.out ho.bel)
  obtain ⟨qm, hqn⟩ : ∃ z, q.n = z := ⟨_, rfl⟩
  rw [hqn]
  have HLs : Hid (0 < qm ∧ qm ≤ 12) := Lib.hid (by rw [← hqn]; exact ⟨(q.n_le hqr).1, (q.n_le hqr).2.1⟩)
  clear ho hqr b0 b1 b2 b3 b4 HR
  have Hqn := Lib.hid hqn
  clear hqn
  obtain ⟨iv, hiv, hzv, hsv, hbv⟩ := info_parts infoVote11
  have Hiv := Lib.hid hiv
  have Hzv := Lib.hid hzv
  have Hsv := Lib.hid hsv
  have Hbv := Lib.hid hbv
  clear hiv hzv hsv hbv
  go_wp2_with fail
  refine (HL.out w2 HB2.out).mono ?_
  rintro e w3 ⟨lb, rfl, rfl⟩
  cases lb with
  | true =>
    go_wp2_with fail
    refine (HKn.out _).mono ?_
    rintro e w4 ⟨rfl, hb4⟩
    have HB4 := Lib.hid (below_then HB2.out hb4)
    clear hb4
    go_wp2
    go_ret
    exact ⟨rfl, HB4.out⟩
  | false =>
    go_wp2_with fail
    have HB2a : Hid (Below W.heap.size W (w2.alloc (.cells (bwA fun _ => Bl.zero) 50))) := Lib.hid HO.out.bel
    go_loopg [8, 9] n (fun gk vv i wr => ∃ (k : Nat) (v : Value) (es : List Vo) (pr : Nat → Bl), vv = v ∧ i = .int .i64 (k : Int) ∧ k + gk = n ∧ Hid (es.length ≤ 12 * k) ∧ Hid (VoS W wr g N w2.heap.size q v es pr) ∧ Hid (Below W.heap.size W wr))
    case atStart => exact ⟨0, _, [], _, rfl, rfl, by omega, Lib.hid (Nat.le_refl _), HO, HB2a⟩
    case round =>
      obtain ⟨k, v, es, pr, rfl, rfl, hkg, HLe, HS, HB⟩ := hrel
      by_cases hk : k < n
      · by_cases h2 : k < 150
        · skip
          have hkI : (k : Int) < (n : Int) := by omega
          have h2I : (k : Int) < 150 := by omega
          obtain ⟨b0, o0, rfl, a0, a1, a2, hrd⟩ := HAc.out wr HB.out k hk
          have HP := Lib.hid (VoS.play HS.out (f k).kind (f k).a (f k).A (f k).n (f k).c (f k).val hrd)
          rw [Hqn.out] at HP
          clear hrd HS HB
          go_wp2_with fail
          refine HP.out.mono ?_
          rintro e w5 ⟨rfl, HS5⟩
          clear a0 a1 a2 HP
          obtain ⟨gko, hgko⟩ : ∃ z, z = gk := ⟨_, rfl⟩
          go_wp2_with fail
          go_loopg [8, 10] qm (fun gj vv j wr2 => ∃ (i : Nat) (v : Value) (es : List Vo) (pr : Nat → Bl), vv = v ∧ j = .int .i64 (i : Int) ∧ i + gj = qm ∧ Hid (es.length ≤ 12 * k + i) ∧ Hid (VoS W wr2 g N w2.heap.size q v es pr))
          case atStart => exact ⟨0, _, es, pr, rfl, rfl, by omega, HLe, HS5⟩
          case round =>
            obtain ⟨i, v, es, pr, rfl, rfl, hig, HLn, HS7⟩ := hrel
            clear HS5 HLe
            by_cases hi : i < qm
            · have hiI : (i : Int) < (qm : Int) := by omega
              have hi12 : i < 12 := by have := HLs.out.2; omega
              have hiI12 : (i : Int) < 12 := by omega
              have hiq : i < q.n := by rw [Hqn.out]; exact hi
              have HVo := Lib.hid (VoS.voted HS7.out i hiq)
              obtain ⟨Av, cv, rfl, _⟩ := own_shape HS7.out.row
              clear HS7
              go_wp2_with fail
              refine HVo.out.mono ?_
              rintro e wa ⟨b, vt, uA, uc, rfl, HPa⟩
              have hM := HPa.out.cells (c := uc)
              unfold blA vtA at hM
              obtain ⟨wb, hwb⟩ : ∃ wb, wb = wa.alloc (.cells #[.int .u64 (b.n : Int), .int .i64 b.node] 44) := ⟨_, rfl⟩
              obtain ⟨wd, hwd⟩ : ∃ wd, wd = wb.alloc (.cells #[.int .u64 (vt.slot : Int), .int .u64 (vt.bal.n : Int), .int .i64 vt.bal.node, .slice uA vt.val.length uc] 46) := ⟨_, rfl⟩
              rw [← hwb, ← hwd] at hM
              have HM := Lib.hid hM
              have HWb := Lib.hid hwb
              have HWd := Lib.hid hwd
              clear hM hwb hwd HVo HPa
              obtain ⟨l1, l2⟩ := HM.out.less hiq
              have HLs1 := Lib.hid (fun W' => less09_any b (pr i) W')
              have HLs2 := Lib.hid (fun W' => less09_any b vt.bal W')
              rw [l1] at HLs1
              rw [l2] at HLs2
              unfold blV at HLs1 HLs2
              obtain ⟨pi, hpi⟩ : ∃ z, z = pr i := ⟨_, rfl⟩
              rw [← hpi] at HLs1
              have HC : Hid (∀ W', Below wd.heap.size wd W' → (W'.cell? ⟨wa.heap.size, 0, none⟩ = some (.int .u64 (b.n : Int)) ∧ W'.cell? ⟨wa.heap.size, 1, none⟩ = some (.int .i64 b.node) ∧ W'.cell? ⟨wa.heap.size + 1, 1, none⟩ = some (.int .u64 (vt.bal.n : Int)) ∧ W'.cell? ⟨wa.heap.size + 1, 2, none⟩ = some (.int .i64 vt.bal.node) ∧ W'.cell? ⟨w2.heap.size, i * 2, none⟩ = some (.int .u64 (pi.n : Int)) ∧ W'.cell? ⟨w2.heap.size, i * 2 + 1, none⟩ = some (.int .i64 pi.node)) ∧ Below wd.heap.size wd W') := Lib.hid fun W' hb => by
                have := (HM.out.below hb).cells hi12
                rw [← hpi] at this
                exact ⟨⟨this.1.1, this.1.2, this.2.1.2.1, this.2.1.2.2.1, this.2.2.1.1, this.2.2.1.2⟩, hb⟩
              clear l1 l2 hpi
              go_upto_region 14 with (fail)
              rw [← HWb.out, ← HWd.out]
              clear HWb HWd
              go_cut [69] from 48 to 117 (fun cv wx => cv = .bool false ∧ Below wd.heap.size wd wx)
              case first =>
                obtain ⟨⟨k0, k1, k2, k3, k4, k5⟩, _⟩ := HC.out wd (Below.refl _ _)
                clear k0 k1 k2 k3 k4 k5
                go_region_held3 (fun W' => (W'.cell? ⟨wa.heap.size, 0, none⟩ = some (.int .u64 (b.n : Int)) ∧ W'.cell? ⟨wa.heap.size, 1, none⟩ = some (.int .i64 b.node) ∧ W'.cell? ⟨wa.heap.size + 1, 1, none⟩ = some (.int .u64 (vt.bal.n : Int)) ∧ W'.cell? ⟨wa.heap.size + 1, 2, none⟩ = some (.int .i64 vt.bal.node) ∧ W'.cell? ⟨w2.heap.size, i * 2, none⟩ = some (.int .u64 (pi.n : Int)) ∧ W'.cell? ⟨w2.heap.size, i * 2 + 1, none⟩ = some (.int .i64 pi.node)) ∧ Below wd.heap.size wd W') (first | (refine HC.out _ ?_; (repeat' (first | assumption | exact Below.refl _ _ | exact Nat.le_refl _ | apply Below.drew)); done) | go_keep)
                  (first
                    | (go_at_call 18; (first | with_reducible refine (HLs1.out _).mono ?_ | with_reducible refine (HLs2.out _).mono ?_); rintro e V1 ⟨rfl, hv1⟩; have hd1 : Below wd.heap.size wd V1 := below_then (by (repeat' (first | assumption | exact Below.refl _ _ | exact Nat.le_refl _ | apply Below.drew | exact bel_drewN (Below.refl _ _) _))) hv1; have hk1 := HC.out V1 hd1))
                all_goals
                  rename_i hH
                  obtain ⟨_, hbW⟩ := hH
                  go_wp2_with fail
                  go_meet
                  exact ⟨rfl, hbW⟩
              case rest =>
              obtain ⟨rfl, hbx⟩ := hcut
              have HM2 := Lib.hid (HM.out.below hbx)
              clear HM HC HLs1 HLs2 hbx
              obtain ⟨⟨c0, c1⟩, _, ⟨p0, p1⟩, f0, f1⟩ := HM2.out.cells hi12
              obtain ⟨w11, hw11⟩ : ∃ w, w = (wc.setCell ⟨w2.heap.size, i * 2, none⟩ (.int .u64 (b.n : Int))).setCell ⟨w2.heap.size, i * 2 + 1, none⟩ (.int .i64 b.node) := ⟨_, rfl⟩
              have hT := HM2.out.turn hi12
              rw [← hw11] at hT
              have HT := Lib.hid hT
              have Hw11 := Lib.hid hw11
              clear hT hw11 HM2
              go_upto_region 17 with (fail)
              rw [← Hw11.out]
              clear c0 c1 p0 p1 f0 f1 Hw11
              obtain ⟨_, ⟨v0, v1, v2, v3⟩, _⟩ := HT.out.cells hi12
              by_cases hs0 : vt.slot = 0
              · have hsI : (vt.slot : Int) = 0 := by omega
                have hsE : ((vt.slot : Int) == 0) = true := by rw [hsI]; rfl
                have HS9 := Lib.hid HT.out.weak
                clear HT
                go_wp2
                go_roundg (gk - 1)
                case measure => omega
                case rel => exact ⟨i + 1, _, es, _, rfl, by go_num, by omega, Lib.hid (by have := HLn.out; omega), HS9⟩
              · have hsI : ¬ (vt.slot : Int) = 0 := by omega
                have hsE : ((vt.slot : Int) == 0) = false := by simpa using hsI
                obtain ⟨gk2, hgk2⟩ : ∃ z, z = gk := ⟨_, rfl⟩
                go_wp2_with fail
                clear v0 v1 v2 v3 hsI hsE
                go_loopg [13, 14] es.length (fun gj hv jv wr3 => ∃ (j : Nat) (hs : Bool), hv = .bool hs ∧ jv = .int .i64 (j : Int) ∧ j + gj = es.length ∧ Hid (VoM W wr3 g N w2.heap.size q (.slice Av es.length cv) es (updY pr i b) i b vt uA uc wa.heap.size (wa.heap.size + 1)))
                case atStart => exact ⟨0, false, rfl, rfl, by omega, HT⟩
                case round =>
                  obtain ⟨j, hs, rfl, rfl, hjg, HM3⟩ := hrel
                  clear HT
                  by_cases hj : j < es.length
                  · have hjI : (j : Int) < (es.length : Int) := by omega
                    have hjb : (j : Int) < 2000 := by have := HLn.out; have := HLs.out.2; omega
                    have HAt := Lib.hid (fun p => (HM3.out.drewN p).at_ hiq hs0 j hj)
                    have HCl := Lib.hid (fun p => ((HM3.out.drewN p).cells hi12).2.1)
                    obtain ⟨R, cc, A', n', c', hv', q1, q2, q3, hsame⟩ := HM3.out.at_ hiq hs0 j hj
                    injection hv' with hv1 hv2 hv3
                    subst hv1
                    subst hv3
                    have HSame := Lib.hid hsame
                    clear hsame
                    obtain ⟨_, ⟨v0, v1, v2, v3⟩, _⟩ := HM3.out.cells hi12
                    go_upto_region 22 with (fail)
                    go_cut [100] from 76 to 111 (fun cv wx => cv = .bool false ∧ ∃ p, wx = wr.drewN p)
                    case first =>
                      by_cases he : es[j].1.bal = vt.bal
                      · have HSm := Lib.hid (HSame.out he)
                        rw [he] at q1 q2
                        go_quiet ((go_at_call 14; exact Calls.quiet_of_same (HSm.out _)))
                        go_wp2
                        go_meet
                        exact ⟨rfl, _, rfl⟩
                      · have hkey : ¬ ((es[j].1.bal.n : Int) = (vt.bal.n : Int)) ∨ (es[j].1.bal.n = vt.bal.n ∧ ¬ es[j].1.bal.node = vt.bal.node) := by
                          by_cases e : es[j].1.bal.n = vt.bal.n
                          · exact .inr ⟨e, fun e2 => he (Bl.ext_ e e2)⟩
                          · exact .inl (by omega)
                        clear he
                        generalize es[j].1.bal.n = mn at *
                        generalize es[j].1.bal.node = md at *
                        rcases hkey with hk9 | ⟨rfl, hk9⟩
                        all_goals
                          go_quiet (fail)
                          go_wp2
                          go_meet
                          exact ⟨rfl, _, rfl⟩
                    case rest =>
                    obtain ⟨rfl, p, rfl⟩ := hcut
                    clear q1 q2 q3 HSame v0 v1 v2 v3
                    have HM4 := Lib.hid (HM3.out.drewN p)
                    obtain ⟨R4, cc4, A4, n4, c4, hv', q1, q2, q3, _⟩ := HAt.out p
                    injection hv' with hv1 hv2 hv3
                    injection hv1 with hv1
                    injection hv1 with hv1
                    subst hv1
                    subst hv3
                    obtain ⟨v0, v1, v2, v3⟩ := HCl.out p
                    clear HM3 HAt HCl
                    generalize wr.drewN p = w14 at *
                    go_upto_region 24 with (fail)
                    cases hs with
                    | true =>
                      go_quiet (fail)
                      have HM5 := Lib.hid (HM4.out.drewN nq)
                      clear HM4 q1 q2 q3 v0 v1 v2 v3
                      go_wp2
                      go_roundg (gk - 1)
                      case measure => omega
                      case rel => exact ⟨j + 1, _, rfl, by go_num, by omega, HM5⟩
                    | false =>
                      by_cases he : es[j].1.bal = vt.bal
                      · rw [he] at q1 q2
                        go_quiet (fail)
                        have HM5 := Lib.hid (HM4.out.drewN nq)
                        clear HM4 q1 q2 q3 v0 v1 v2 v3
                        go_wp2
                        go_roundg (gk - 1)
                        case measure => omega
                        case rel => exact ⟨j + 1, _, rfl, by go_num, by omega, HM5⟩
                      · have hkey : ¬ ((es[j].1.bal.n : Int) = (vt.bal.n : Int)) ∨ (es[j].1.bal.n = vt.bal.n ∧ ¬ es[j].1.bal.node = vt.bal.node) := by
                          by_cases e : es[j].1.bal.n = vt.bal.n
                          · exact .inr ⟨e, fun e2 => he (Bl.ext_ e e2)⟩
                          · exact .inl (by omega)
                        clear he
                        rcases hkey with hk9 | ⟨hk8, hk9⟩
                        · go_quiet (fail)
                          have HM5 := Lib.hid (HM4.out.drewN nq)
                          clear HM4 q1 q2 q3 v0 v1 v2 v3
                          go_wp2
                          go_roundg (gk - 1)
                          case measure => omega
                          case rel => exact ⟨j + 1, _, rfl, by go_num, by omega, HM5⟩
                        · rw [hk8] at q1
                          go_quiet (fail)
                          have HM5 := Lib.hid (HM4.out.drewN nq)
                          clear HM4 q1 q2 q3 v0 v1 v2 v3
                          go_wp2
                          go_roundg (gk - 1)
                          case measure => omega
                          case rel => exact ⟨j + 1, _, rfl, by go_num, by omega, HM5⟩
                  · have hjI : ¬ (j : Int) < (es.length : Int) := by omega
                    have hln := HLn.out
                    cases hs with
                    | true =>
                      have HS9 := Lib.hid HM3.out.weak
                      clear HM3
                      go_wp2
                      go_roundg (gk2 - 1)
                      case measure => omega
                      case rel => exact ⟨i + 1, _, es, _, rfl, by go_num, by omega, Lib.hid (by omega), HS9⟩
                    | false =>
                      obtain ⟨_, ⟨v0, v1, v2, v3⟩, _⟩ := HM3.out.cells hi12
                      have HC1 : Hid (∀ u ∈ ([.int .u64 (vt.slot : Int), .int .u64 (vt.bal.n : Int), .int .i64 vt.bal.node, .slice uA vt.val.length uc] : List Value), u.oneCell' = true) := Lib.hid (by intro u hu; simp at hu; rcases hu with rfl | rfl | rfl | rfl <;> rfl)
                      have hsz := HM3.out.bel.size
                      go_wp2_with (at_builtin; go_loud (refine wpList_append_app _ rfl _ _ 51 rfl W.heap.size 46 iv (.agg #[.int .u64 0, .int .u64 0, .int .i64 0, .slice none 0 0]) 4 48 Try.underlying51 Hiv.out Hzv.out Hsv.out Hbv.out rfl _ es.length (voC es) rfl (HM3.out.row.alloc _) (some ⟨wr.heap.size, 0, none⟩) 1 1 [.int .u64 (vt.slot : Int), .int .u64 (vt.bal.n : Int), .int .i64 vt.bal.node, .slice uA vt.val.length uc] rfl rfl (by intro e; cases e) (new_cells _ _ _ rfl) HC1.out (by unfold maxLen; omega) (by omega) (by simp; omega) ?_))
                      intro v9 w9 ha
                      have HS9 := Lib.hid (VoM.push HM3.out hiq hs0 (bel1P _) ha)
                      clear ha HM3 v0 v1 v2 v3
                      go_wp2
                      go_roundg (gk2 - 1)
                      case measure => omega
                      case rel => exact ⟨i + 1, _, _, _, rfl, by go_num, by omega, Lib.hid (by simp; omega), HS9⟩
            · have hiI : ¬ (i : Int) < (qm : Int) := by omega
              have HB7 := Lib.hid HS7.out.bel
              have hln := HLn.out
              have hl2 := HLs.out.2
              go_wp2
              go_roundg (gko - 1)
              case measure => omega
              case rel => exact ⟨k + 1, _, es, _, rfl, rfl, by omega, Lib.hid (by omega), HS7, HB7⟩
        · have hkI : (k : Int) < (n : Int) := by omega
          have h2I : ¬ (k : Int) < 150 := by omega
          go_wp2_with fail
          refine (HKn.out _).mono ?_
          rintro e w4 ⟨rfl, hb4⟩
          have HB4 := Lib.hid (below_then HB.out hb4)
          clear hb4
          go_wp2
          go_ret
          exact ⟨rfl, HB4.out⟩
      · have hkI : ¬ (k : Int) < (n : Int) := by omega
        go_wp2_with fail
        refine (HKn.out _).mono ?_
        rintro e w4 ⟨rfl, hb4⟩
        have HB4 := Lib.hid (below_then HB.out hb4)
        clear hb4
        go_wp2
        go_ret
        exact ⟨rfl, HB4.out⟩
namespace synodVotes
set_option maxRecDepth 100000 in
theorem lifted (os : Os) (started : os.Started) (H : Type) (enc : TypeId × Value → H) :
    ReturnsInHanded {} Try.checked os 5 .any (Rows.synodVotesSpec.pre6 enc Try.prog Try.f5 Rows.synodVotesRow.domain false) (Rows.synodVotesSpec.post enc Try.prog Try.f5 false true false false) := by
  refine law_lift started (by kernel_rfl) Try.func5
    (ChangeSpec.witness6 (enc := enc) (C := Try.checked) false ⟨#[], #[.agg #[.int .i64 0, .int .i64 0, .int .i64 0, .int .i64 0, .slice none 0 0], .slice none 0 0], []⟩ 8 (by kernel_rfl) (by kernel_rfl) (by kernel_rfl) (by kernel_rfl))
    rfl ?_ (by kernel_rfl) (by kernel_rfl) ?_
  · intro ds h
    match ds, h with
    | [_, _], _ => rfl
  intro W base args ds p g
  have hA := g.trod
  have hval := g.val
  rw [Try.params5] at hA hval
  obtain ⟨v0, vs0, d0, ds0, p0, q0, hargs, rfl, rfl, h0, r0⟩ := trodAll_cons hA
  obtain ⟨v1, vs1, d1, ds1, p1, q1, rfl, rfl, rfl, h1, r1⟩ := trodAll_cons r0
  obtain ⟨rfl, rfl, rfl⟩ := trodAll_nil r1
  obtain rfl : args = #[v0, v1] := by cases args; simp_all
  obtain ⟨x0, hx0, rfl⟩ := given_q (hval 0 24 v0 rfl rfl) h0
  obtain ⟨A1, n1, c1, f1, rfl, hc1, hm1, hr1⟩ := given_as11 (hval 1 25 v1 rfl rfl) h1
  exact synodVotes_walk x0 A1 n1 c1 f1 W hx0 hc1 hm1 hr1

theorem over : Rows.synodVotesRow.holds Try.pinned (OpenSpec.ofChange Rows.synodVotesSpec) :=
  OpenClaim.holds_of_wide 5 Try.f5 rfl rfl rfl rfl rfl rfl rfl ⟨rfl, rfl, rfl, rfl, rfl⟩ rfl rfl rfl rfl rfl (by kernel_rfl) Try.func5 (by kernel_rfl)
    (of_decide_eq_true (by kernel_rfl)) (by unfold Func.isWrapper; first | (rw [if_pos (by decide +kernel)]; kernel_rfl) | (rw [if_neg (by decide +kernel)]; exact ⟨rfl, rfl⟩))
    (fun os started H enc _ => lifted os started H enc)
end synodVotes

theorem SynodVotes_proved : Rows.SynodVotesSaid := synodVotes.over
#print axioms SynodVotes_proved
end Go.Proofs.Ytjapmolmgfaocaa
