/- SynodEnds: a node that alone is started learns, and the other one learns the same. -/
import Derived.Test.YtjapmolmgfaocaaM1SynEo
import Derived.Deep.CutRange
import Derived.Deep.CutBlock
import Derived.Deep.DeepCutAuto
namespace Go.Proofs.Ytjapmolmgfaocaa
open Go.ChangeShapes Go.WideShapes Go.ChangeAt Go.RowKit Go.Maps

set_option maxRecDepth 100000 in
set_option maxHeartbeats 8000000 in
theorem synodEnds_walk (x : Gq) (A : Option Addr) (n c : Nat) (f : Nat → Ga) (who : Int) (B : Option Addr) (m d : Nat) (val : List UInt8) (W : World) (hq : Qi W x.q x.A x.n x.c) (hc1 : n ≤ c) (hc2 : c ≤ 9223372036854775807) (hA : As11 W W.heap.size A n f) (hw1 : -9223372036854775808 ≤ who) (hw2 : who ≤ 9223372036854775807) (hd1 : m ≤ d) (hd2 : d ≤ 9223372036854775807) (hv : Rd W W.heap.size B m val) : Calls Try.prog 6 #[x.v, .slice A n c, .int .i64 who, .slice B m d] W fun e W' => e = .returned (.bool true) ∧ Below W.heap.size W W' := by
  obtain ⟨q, qA, qn, qc⟩ := x
  unfold Gq.v
  dsimp only at *
  obtain ⟨w1, HW1, HB1, HK1⟩ := boxed q.kind q.nodes q.one q.two qA qn qc W
  have hk1 := HK1.out
  have b0 : w1.cell? ⟨W.heap.size, 0, none⟩ = some (.int .i64 q.kind) := hk1.cell 0
  have b1 : w1.cell? ⟨W.heap.size, 1, none⟩ = some (.int .i64 q.nodes) := hk1.cell 1
  have b2 : w1.cell? ⟨W.heap.size, 2, none⟩ = some (.int .i64 q.one) := hk1.cell 2
  have b3 : w1.cell? ⟨W.heap.size, 3, none⟩ = some (.int .i64 q.two) := hk1.cell 3
  have b4 : w1.cell? ⟨W.heap.size, 4, none⟩ = some (.slice qA qn qc) := hk1.cell 4
  have HR := Lib.hid (room_any (hq.up HB1.out))
  have HL : Hid (∀ w, Below W.heap.size W w → Calls Try.prog 10 #[.slice A n c] w (LongR w)) := Lib.hid fun w hb => long_any (hA.below hb) ⟨hc1, hc2⟩
  have HKn := Lib.hid (fun w => known11_any w)
  have HAc : Hid (∀ w, Below W.heap.size W w → ∀ k, k < n → ∃ b o, A = some ⟨b, o, none⟩ ∧ w.cell? ⟨b, o + k * 3, none⟩ = some (.int .i64 (f k).kind) ∧ w.cell? ⟨b, o + k * 3 + 1, none⟩ = some (.int .i64 (f k).a) ∧ w.cell? ⟨b, o + k * 3 + 2, none⟩ = some (.slice (f k).A (f k).n (f k).c) ∧ Rd w W.heap.size (f k).A (f k).n (f k).val) := Lib.hid fun w hb k hk => by
    obtain ⟨b, o, e, _, hi⟩ := (hA.below hb) (by omega)
    obtain ⟨q0, q1, q2, q3⟩ := hi k hk
    exact ⟨b, o, e, q1, q2, q3, q0.body⟩
  have hml := hv.1
  have HVa : Hid (Rd W W.heap.size B val.length val) := Lib.hid (by rw [hml]; exact hv)
  clear hq hA hk1 HK1 hv
  unfold qV at HR ⊢
  obtain ⟨kd, nd, on, tw, l⟩ := q
  dsimp only at *
  go_enter Try.func6, Try.ntmps6
  go_upto_region 1 with (fail)
  rw [← HW1.out]
  go_wp2_with fail
  refine HR.out.mono ?_
  rintro e w2 ⟨g, N, col, q, hqr, rfl, ho⟩
  have HO : Hid (EnA W w2 g N q 0 0) := Lib.hid (EnA.start ⟨ho.rm, fun k hk => Nat.le_trans HB1.out.size (ho.ge k hk), below_then HB1.out ho.bel⟩ hqr)
  have HB2 : Hid (Below W.heap.size W w2) := Lib.hid (below_then HB1.out ho.bel)
  obtain ⟨qm, hqn⟩ : ∃ z, q.n = z := ⟨_, rfl⟩
  rw [hqn]
  have HLs : Hid (0 < qm ∧ qm ≤ 12) := Lib.hid (by rw [← hqn]; exact ⟨(q.n_le hqr).1, (q.n_le hqr).2.1⟩)
  clear ho hqr b0 b1 b2 b3 b4 HR
  have Hqn := Lib.hid hqn
  clear hqn
  have kc := conv_bytesY
  go_wp2_with fail
  refine (HL.out w2 HB2.out).mono ?_
  rintro e w3 ⟨lb, rfl, rfl⟩
  cases lb with
  | true =>
    have HB := HB2
    go_wp2_with fail
    refine (HKn.out _).mono ?_
    rintro e w4 ⟨rfl, hb4⟩
    have HB4 := Lib.hid (below_then HB.out hb4)
    clear hb4
    go_wp2
    go_ret
    exact ⟨rfl, HB4.out⟩
  | false =>
    by_cases hm : 100 < m
    · have hmI : (100 : Int) < (m : Int) := by omega
      have HB := HB2
      go_wp2_with fail
      refine (HKn.out _).mono ?_
      rintro e w4 ⟨rfl, hb4⟩
      have HB4 := Lib.hid (below_then HB.out hb4)
      clear hb4
      go_wp2
      go_ret
      exact ⟨rfl, HB4.out⟩
    · have hmI : ¬ (100 : Int) < (m : Int) := by omega
      go_upto_block 0 with (fail)
      go_cut [11] from 46 (fun _u wx => Hid (EnA W wx g N q 60 0))
      case first =>
        go_wp2_with fail
        go_loopg [11] n (fun gk i wy => ∃ k : Nat, i = .int .i64 (k : Int) ∧ k + gk = n ∧ k ≤ 60 ∧ Hid (EnA W wy g N q k 0))
        case atStart => exact ⟨0, rfl, by omega, by omega, HO⟩
        case round =>
          clear HO
          obtain ⟨k, rfl, hkg, hk60, HS⟩ := hrel
          by_cases hk : k < n
          · have hkI : (k : Int) < (n : Int) := by omega
            by_cases h2 : k < 60
            · have h2I : (k : Int) < 60 := by omega
              obtain ⟨b0, o0, rfl, a0, a1, a2, hrd⟩ := HAc.out wr HS.out.bel k hk
              have HP := Lib.hid (EnA.play HS.out (f k).kind (f k).a (f k).A (f k).n (f k).c (f k).val hrd)
              rw [Hqn.out] at HP
              clear hrd HS
              go_wp2_with fail
              refine HP.out.mono ?_
              rintro e w5 ⟨rfl, HS5⟩
              clear a0 a1 a2 HP
              go_wp2
              go_roundg (gk - 1)
              case measure => omega
              case rel => exact ⟨k + 1, by go_num, by omega, by omega, HS5⟩
            · have h2I : ¬ (k : Int) < 60 := by omega
              have HS9 := Lib.hid (EnA.mono HS.out hk60)
              go_wp2_with fail
              go_meet
              exact HS9
          · have hkI : ¬ (k : Int) < (n : Int) := by omega
            have HS9 := Lib.hid (EnA.mono HS.out hk60)
            go_wp2_with fail
            go_meet
            exact HS9
      case rest =>
      have HA := hcut
      clear HO
      go_upto_block 2 with (fail)
      go_cut [12] from 63 (fun _u wx => Hid (∀ o, o < qm → EnR W wx g N q o 60 0 false none 0))
      case first =>
        go_wp2_with fail
        go_loopg [12] 200 (fun gk i wy => ∃ k : Nat, i = .int .i64 (k : Int) ∧ k + gk = 200 ∧ Hid (EnA W wy g N q 60 k))
        case atStart => exact ⟨0, rfl, by omega, HA⟩
        case round =>
          clear HA
          obtain ⟨k, rfl, hkg, HS⟩ := hrel
          obtain ⟨ln, hle, hLen, hDrop, hEnd⟩ := HS.out.len
          have HLn := Lib.hid hLen
          have HDr := Lib.hid hDrop
          have HEn := Lib.hid hEnd
          clear hLen hDrop hEnd
          by_cases hk : k < 200
          · have hkI : (k : Int) < 200 := by omega
            by_cases hl : 0 < ln
            · have hlI : (0 : Int) < (ln : Int) := by omega
              have HDr2 := Lib.hid (HDr.out hl)
              go_wp2_with fail
              refine HLn.out.mono ?_
              rintro e wt ⟨rfl, rfl⟩
              go_wp2_with fail
              refine HDr2.out.mono ?_
              rintro e wt ⟨⟨E, rfl⟩, HS9⟩
              go_wp2
              go_roundg (gk - 1)
              case measure => omega
              case rel => exact ⟨k + 1, by go_num, by omega, HS9⟩
            · have hlI : ¬ (0 : Int) < (ln : Int) := by omega
              have HS9 : Hid (∀ o, o < qm → EnR W wr g N q o 60 0 false none 0) := Lib.hid fun o ho => HEn.out (by omega) o (by rw [Hqn.out]; exact ho) (by omega)
              go_wp2_with fail
              refine HLn.out.mono ?_
              rintro e wt ⟨rfl, rfl⟩
              go_wp2_with fail
              go_meet
              exact HS9
          · have hkI : ¬ (k : Int) < 200 := by omega
            have HS9 : Hid (∀ o, o < qm → EnR W wr g N q o 60 0 false none 0) := Lib.hid fun o ho => HEn.out (by omega) o (by rw [Hqn.out]; exact ho) (by omega)
            go_wp2_with fail
            go_meet
            exact HS9
      case rest =>
      have HE0 := Lib.hid (hcut.out (atN who qm) (atN_lt who HLs.out.1))
      clear hcut HA
      have HAt : Hid (∀ w, Calls Try.prog 15 #[.int .i64 who, .int .i64 (qm : Int)] w fun e w' => e = .returned (.int .i64 (atN who qm : Int)) ∧ w = w') := Lib.hid (fun w => at_any who qm (by have := HLs.out.2; omega) w)
      have hon := atN_lt who HLs.out.1
      have Hon := Lib.hid hon
      generalize atN who qm = o1 at *
      clear hon
      go_wp2_with fail
      refine (HAt.out _).mono ?_
      rintro e wt ⟨rfl, rfl⟩
      go_upto_block 4 with (fail)
      go_cut [14, 15, 16, 17] from 77 (fun _a _b _c _d wx => Hid (∃ k, 0 < k ∧ EnR W wx g N q o1 (60 + k) k false none 0 ∧ k ≤ 80 ∧ EnK W wx g N q o1 (60 + k) k))
      case first =>
        go_wp2_with fail
        go_loopg [14] 80 (fun gk i wy => ∃ k : Nat, i = .int .i64 (k : Int) ∧ k + gk = 80 ∧ Hid (EnR W wy g N q o1 (60 + k) k false none 0))
        case atStart => exact ⟨0, rfl, by omega, HE0⟩
        case round =>
          clear HE0
          obtain ⟨k, rfl, hkg, HS⟩ := hrel
          by_cases hk : k < 80
          · have hkI : (k : Int) < 80 := by omega
            have HLr := Lib.hid (EnR.learned2 HS.out)
            clear HS
            go_wp2_with fail
            refine HLr.out.mono ?_
            rintro e w7 ⟨lA, lnn, lc, ok, rfl, HS7, HK7⟩
            have HSt := Lib.hid (EnR.startAny HS7.out (by omega) (by rw [Hqn.out]; exact HLs.out.2) B d val (by omega) (fun col r h => Fr.given (HVa.out.below h.bel) h.ge h.bel.size))
            rw [hml] at HSt
            clear HLr
            by_cases hok : ok = true ∧ 0 < k
            · obtain ⟨rfl, hk0⟩ := hok
              have hk0I : (0 : Int) < (k : Int) := by omega
              have HEx := Lib.hid (⟨k, hk0, HS7.out, by omega, HK7.out rfl⟩ : ∃ k, 0 < k ∧ EnR W w7 g N q o1 (60 + k) k false none 0 ∧ k ≤ 80 ∧ EnK W w7 g N q o1 (60 + k) k)
              go_wp2_with fail
              go_meet
              exact HEx
            · have hgo : (ok = false) ∨ (ok = true ∧ k = 0) := by
                cases ok with
                | false => exact .inl rfl
                | true => exact .inr ⟨rfl, by
                    by_cases e : 0 < k
                    · exact absurd ⟨rfl, e⟩ hok
                    · omega⟩
              clear hok
              rcases hgo with rfl | ⟨rfl, rfl⟩
              · go_wp2_with fail
                refine HSt.out.mono ?_
                rintro e w8 ⟨⟨bn, bd, E, rfl⟩, HT⟩
                clear HSt HS7 HK7
                obtain ⟨gkR, hgkR⟩ : ∃ z, z = gk := ⟨_, rfl⟩
                go_wp2_with fail
                go_loopg [17] 200 (fun gj jv wy => ∃ j : Nat, jv = .int .i64 (j : Int) ∧ j + gj = 200 ∧ Hid (∃ ln, EnT W wy g N q o1 (60 + k + 1) k j false none 0 ln))
                case atStart => exact ⟨0, rfl, by omega, HT⟩
                case round =>
                  clear HT
                  obtain ⟨j, rfl, hjg, HT⟩ := hrel
                  obtain ⟨ln, hT⟩ := HT.out
                  have HTl := Lib.hid hT.len
                  have HTt := Lib.hid hT.take
                  have HTe := Lib.hid (fun he => hT.end_ he)
                  clear hT HT
                  by_cases hj : j < 200
                  · have hjI : (j : Int) < 200 := by omega
                    by_cases hl : 0 < ln
                    · have hlI : (0 : Int) < (ln : Int) := by omega
                      go_wp2_with fail
                      refine HTl.out.mono ?_
                      rintro e wt ⟨rfl, rfl⟩
                      go_wp2_with fail
                      refine HTt.out.mono ?_
                      rintro e wt ⟨⟨E, rfl⟩, HT⟩
                      clear HTl HTt HTe
                      go_wp2
                      go_roundg (gk - 1)
                      case measure => omega
                      case rel => exact ⟨j + 1, by go_num, by omega, HT⟩
                    · have hlI : ¬ (0 : Int) < (ln : Int) := by omega
                      have HE := Lib.hid (HTe.out (.inr (by omega)))
                      go_wp2_with fail
                      refine HTl.out.mono ?_
                      rintro e wt ⟨rfl, rfl⟩
                      clear HTl HTt HTe
                      go_wp2
                      go_roundg (gkR - 1)
                      case measure => omega
                      case rel => exact ⟨k + 1, by go_num, by omega, HE⟩
                  · have hjI : ¬ (j : Int) < 200 := by omega
                    have HE := Lib.hid (HTe.out (.inl (by omega)))
                    clear HTl HTt HTe
                    go_wp2
                    go_roundg (gkR - 1)
                    case measure => omega
                    case rel => exact ⟨k + 1, by go_num, by omega, HE⟩
              · go_wp2_with fail
                refine HSt.out.mono ?_
                rintro e w8 ⟨⟨bn, bd, E, rfl⟩, HT⟩
                clear HSt HS7 HK7
                obtain ⟨gkR, hgkR⟩ : ∃ z, z = gk := ⟨_, rfl⟩
                go_wp2_with fail
                go_loopg [17] 200 (fun gj jv wy => ∃ j : Nat, jv = .int .i64 (j : Int) ∧ j + gj = 200 ∧ Hid (∃ ln, EnT W wy g N q o1 (60 + 0 + 1) 0 j false none 0 ln))
                case atStart => exact ⟨0, rfl, by omega, HT⟩
                case round =>
                  clear HT
                  obtain ⟨j, rfl, hjg, HT⟩ := hrel
                  obtain ⟨ln, hT⟩ := HT.out
                  have HTl := Lib.hid hT.len
                  have HTt := Lib.hid hT.take
                  have HTe := Lib.hid (fun he => hT.end_ he)
                  clear hT HT
                  by_cases hj : j < 200
                  · have hjI : (j : Int) < 200 := by omega
                    by_cases hl : 0 < ln
                    · have hlI : (0 : Int) < (ln : Int) := by omega
                      go_wp2_with fail
                      refine HTl.out.mono ?_
                      rintro e wt ⟨rfl, rfl⟩
                      go_wp2_with fail
                      refine HTt.out.mono ?_
                      rintro e wt ⟨⟨E, rfl⟩, HT⟩
                      clear HTl HTt HTe
                      go_wp2
                      go_roundg (gk - 1)
                      case measure => omega
                      case rel => exact ⟨j + 1, by go_num, by omega, HT⟩
                    · have hlI : ¬ (0 : Int) < (ln : Int) := by omega
                      have HE := Lib.hid (HTe.out (.inr (by omega)))
                      go_wp2_with fail
                      refine HTl.out.mono ?_
                      rintro e wt ⟨rfl, rfl⟩
                      clear HTl HTt HTe
                      go_wp2
                      go_roundg (gkR - 1)
                      case measure => omega
                      case rel => exact ⟨1, by go_num, by omega, HE⟩
                  · have hjI : ¬ (j : Int) < 200 := by omega
                    have HE := Lib.hid (HTe.out (.inl (by omega)))
                    clear HTl HTt HTe
                    go_wp2
                    go_roundg (gkR - 1)
                    case measure => omega
                    case rel => exact ⟨1, by go_num, by omega, HE⟩
          · obtain rfl : k = 80 := by omega
            have HEx := Lib.hid (⟨80, by omega, HS.out, by omega, EnR.knows HS.out (by omega)⟩ : ∃ k, 0 < k ∧ EnR W wr g N q o1 (60 + k) k false none 0 ∧ k ≤ 80 ∧ EnK W wr g N q o1 (60 + k) k)
            go_wp2_with fail
            go_meet
            exact HEx
      case rest =>
      obtain ⟨k1, hk1, hR1, hk80, hK1⟩ := hcut.out
      have HLr := Lib.hid (EnK.learned hK1)
      clear hcut HE0 hR1 hK1
      go_wp2_with fail
      refine HLr.out.mono ?_
      rintro e w7 ⟨vA, vn, vc, rfl, HR7⟩
      have Ho2 := Lib.hid (HR7.out.other hk1 (atN ((o1 : Int) + 1) qm) (by rw [Hqn.out]; exact atN_lt _ HLs.out.1))
      have HAt2 : Hid (∀ w, Calls Try.prog 15 #[.int .i64 ((o1 : Int) + 1), .int .i64 (qm : Int)] w fun e w' => e = .returned (.int .i64 (atN ((o1 : Int) + 1) qm : Int)) ∧ w = w') := Lib.hid (fun w => at_any ((o1 : Int) + 1) qm (by have := HLs.out.2; omega) w)
      have hob : (o1 : Int) < 12 := by have := Hon.out; have := HLs.out.2; omega
      generalize atN ((o1 : Int) + 1) qm = o2 at *
      clear HLr HR7
      go_wp2_with fail
      refine (HAt2.out _).mono ?_
      rintro e wt ⟨rfl, rfl⟩
      obtain ⟨SS, hSS⟩ : ∃ z, z = 60 + k1 := ⟨_, rfl⟩
      have HE2 : Hid (EnR W w7 g N q o2 (SS + 0) 0 true vA vn) := Lib.hid (by rw [hSS]; exact Ho2.out)
      have hSS2 : SS ≤ 140 := by omega
      clear Ho2 hSS hk1 hk80 HAt2
      go_wp2_with fail
      go_loopg [21] 80 (fun gk i wy => ∃ k : Nat, i = .int .i64 (k : Int) ∧ k + gk = 80 ∧ Hid (EnR W wy g N q o2 (SS + k) k true vA vn))
      case atStart => exact ⟨0, rfl, by omega, HE2⟩
      case round =>
        clear HE2
        obtain ⟨k, rfl, hkg, HS⟩ := hrel
        by_cases hk : k < 80
        · have hkI : (k : Int) < 80 := by omega
          have HSt := Lib.hid (EnR.startOther HS.out (by omega) (by rw [Hqn.out]; exact HLs.out.2) wr.heap.size rfl)
          clear HS
          go_wp2_with fail
          refine HSt.out.mono ?_
          rintro e w8 ⟨⟨bn, bd, E, rfl⟩, HT⟩
          clear HSt
          obtain ⟨gkR, hgkR⟩ : ∃ z, z = gk := ⟨_, rfl⟩
          go_wp2_with fail
          go_loopg [22] 200 (fun gj jv wy => ∃ j : Nat, jv = .int .i64 (j : Int) ∧ j + gj = 200 ∧ Hid (∃ ln, EnT W wy g N q o2 (SS + k + 1) k j true vA vn ln))
          case atStart => exact ⟨0, rfl, by omega, HT⟩
          case round =>
            clear HT
            obtain ⟨j, rfl, hjg, HT⟩ := hrel
            obtain ⟨ln, hT⟩ := HT.out
            have HTl := Lib.hid hT.len
            have HTt := Lib.hid hT.take
            have HTe := Lib.hid (fun he => hT.end_ he)
            clear hT HT
            by_cases hj : j < 200
            · have hjI : (j : Int) < 200 := by omega
              by_cases hl : 0 < ln
              · have hlI : (0 : Int) < (ln : Int) := by omega
                go_wp2_with fail
                refine HTl.out.mono ?_
                rintro e wt ⟨rfl, rfl⟩
                go_wp2_with fail
                refine HTt.out.mono ?_
                rintro e wt ⟨⟨E, rfl⟩, HT⟩
                clear HTl HTt HTe
                go_wp2
                go_roundg (gk - 1)
                case measure => omega
                case rel => exact ⟨j + 1, by go_num, by omega, HT⟩
              · have hlI : ¬ (0 : Int) < (ln : Int) := by omega
                have HE := Lib.hid (HTe.out (.inr (by omega)))
                go_wp2_with fail
                refine HTl.out.mono ?_
                rintro e wt ⟨rfl, rfl⟩
                clear HTl HTt HTe
                go_wp2
                go_roundg (gkR - 1)
                case measure => omega
                case rel => exact ⟨k + 1, by go_num, by omega, HE⟩
            · have hjI : ¬ (j : Int) < 200 := by omega
              have HE := Lib.hid (HTe.out (.inl (by omega)))
              clear HTl HTt HTe
              go_wp2
              go_roundg (gkR - 1)
              case measure => omega
              case rel => exact ⟨k + 1, by go_num, by omega, HE⟩
        · obtain rfl : k = 80 := by omega
          have HLr := Lib.hid (EnKn.learned2 (EnR.knows HS.out (by omega)) vc)
          clear HS
          go_wp2_with fail
          refine HLr.out.mono ?_
          rintro e w9 ⟨xA, xn, xc, rfl, HSm, HB⟩
          go_wp2_with fail
          refine HSm.out.mono ?_
          rintro e wt ⟨rfl, rfl⟩
          go_wp2_with fail
          refine (HKn.out _).mono ?_
          rintro e w4 ⟨rfl, hb4⟩
          have HB4 := Lib.hid (below_then HB.out hb4)
          clear hb4
          go_wp2
          go_ret
          exact ⟨rfl, HB4.out⟩
namespace synodEnds
set_option maxRecDepth 100000 in
theorem lifted (os : Os) (started : os.Started) (H : Type) (enc : TypeId × Value → H) :
    ReturnsInHanded {} Try.checked os 6 .any (Rows.synodEndsSpec.pre6 enc Try.prog Try.f6 Rows.synodEndsRow.domain false) (Rows.synodEndsSpec.post enc Try.prog Try.f6 false true false false) := by
  refine law_lift started (by kernel_rfl) Try.func6
    (ChangeSpec.witness6 (enc := enc) (C := Try.checked) false ⟨#[], #[.agg #[.int .i64 0, .int .i64 0, .int .i64 0, .int .i64 0, .slice none 0 0], .slice none 0 0, .int .i64 0, .slice none 0 0], []⟩ 8 (by kernel_rfl) (by kernel_rfl) (by kernel_rfl) (by kernel_rfl))
    rfl ?_ (by kernel_rfl) (by kernel_rfl) ?_
  · intro ds h
    match ds, h with
    | [_, _, _, _], _ => rfl
  intro W base args ds p g
  have hA := g.trod
  have hval := g.val
  rw [Try.params6] at hA hval
  obtain ⟨v0, vs0, d0, ds0, p0, q0, hargs, rfl, rfl, h0, r0⟩ := trodAll_cons hA
  obtain ⟨v1, vs1, d1, ds1, p1, q1, rfl, rfl, rfl, h1, r1⟩ := trodAll_cons r0
  obtain ⟨v2, vs2, d2, ds2, p2, q2, rfl, rfl, rfl, h2, r2⟩ := trodAll_cons r1
  obtain ⟨v3, vs3, d3, ds3, p3, q3, rfl, rfl, rfl, h3, r3⟩ := trodAll_cons r2
  obtain ⟨rfl, rfl, rfl⟩ := trodAll_nil r3
  obtain rfl : args = #[v0, v1, v2, v3] := by cases args; simp_all
  obtain ⟨x0, hx0, rfl⟩ := given_q (hval 0 24 v0 rfl rfl) h0
  obtain ⟨A1, n1, c1, f1, rfl, hc1, hm1, hr1⟩ := given_as11 (hval 1 25 v1 rfl rfl) h1
  obtain ⟨a2, rfl, _, _, w2⟩ := open_int Try.underlying3 (hval 2 3 v2 rfl rfl) h2
  have b2 := bounds_i64 w2
  obtain ⟨A3, n3, c3, l3, rfl, hc3, hm3, hr3⟩ := given_bytes (hval 3 31 v3 rfl rfl) h3
  exact synodEnds_walk x0 A1 n1 c1 f1 a2 A3 n3 c3 l3 W hx0 hc1 hm1 hr1 b2.1 b2.2 hc3 hm3 hr3

theorem over : Rows.synodEndsRow.holds Try.pinned (OpenSpec.ofChange Rows.synodEndsSpec) :=
  OpenClaim.holds_of_wide 6 Try.f6 rfl rfl rfl rfl rfl rfl rfl ⟨rfl, rfl, rfl, rfl, rfl⟩ rfl rfl rfl rfl rfl (by kernel_rfl) Try.func6 (by kernel_rfl)
    (of_decide_eq_true (by kernel_rfl)) (by unfold Func.isWrapper; first | (rw [if_pos (by decide +kernel)]; kernel_rfl) | (rw [if_neg (by decide +kernel)]; exact ⟨rfl, rfl⟩))
    (fun os started H enc _ => lifted os started H enc)
end synodEnds

theorem SynodEnds_proved : Rows.SynodEndsSaid := synodEnds.over
#print axioms SynodEnds_proved
end Go.Proofs.Ytjapmolmgfaocaa
