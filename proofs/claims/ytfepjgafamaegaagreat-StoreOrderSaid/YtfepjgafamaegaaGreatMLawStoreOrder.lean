/- StoreOrder is true at every acts and every stop. Conditions: none. -/
import Derived.Test.YtfepjgafamaegaaGreatMStoAll
import Derived.Test.YtfepjgafamaegaaGreatMStoI
import Derived.Deep.RegionHeld3
import Derived.BigQuiet
import Derived.Deep.QuietTactic
import Derived.Laws.Cover1
namespace Go.Proofs.YtfepjgafamaegaaGreat
open Go.ChangeShapes Go.WideShapes Go.ChangeAt Go.RowKit Go.Shelf Go.Maps

attribute [local go_sem] Oper.semAt_some
set_option maxHeartbeats 8000000 in
set_option maxRecDepth 100000 in
theorem storeOrder_walk (A : Option Addr) (n c : Nat) (f : Nat → Ac5) (stop : Int) (w : World) (_hc : n ≤ c) (_hm : c ≤ 9223372036854775807) (hA : Acts5 w w.heap.size A n f) (_hs1 : -9223372036854775808 ≤ stop) (_hs2 : stop ≤ 9223372036854775807) :
    Calls Tryz.prog 8 #[.slice A n c, .int .i64 stop] w fun e w' => e = .returned (.bool true) ∧ Below w.heap.size w w' := by
  obtain ⟨w1, hw1⟩ : ∃ w1, w1 = (w.alloc (.cells #[.int .i64 stop] 3)).alloc (.cells #[.bool false] 4) := ⟨_, rfl⟩
  have hb1 : Below w.heap.size w w1 := by rw [hw1]; exact ((Below.refl _ _).alloc (Nat.le_refl _) _).alloc (by simp) _
  have hz1 : w1.heap.size = w.heap.size + 2 := by rw [hw1]; simp
  have kS : Boxed w1 w.heap.size 3 (.int .i64 stop) := by rw [hw1]; exact (Boxed.new w 3 (.int .i64 stop)).alloc _
  have kR : Boxed w1 (w.heap.size + 1) 4 (.bool false) := by
    rw [hw1]
    have := Boxed.new (w.alloc (.cells #[.int .i64 stop] 3)) 4 (.bool false)
    simpa using this
  have HSt := sstart_any 60 w1 (by decide) (by decide)
  have HKn := Lib.hid sknown_any
  unfold StartR at HSt
  rw [fresh_open 60 (by decide)] at HSt
  have HSt : Hid (Calls Tryz.prog 23 #[.int .i64 60] w1 fun e w' => ∃ gp gd M, e = .returned (.tuple #[.pointer (some ⟨gp, 0, none⟩), .bool true]) ∧ OwnQ w1 w' gp gd M (Dk.new 60) (.live { epoch := 0, recs := [], safe := 0, gone := false } [])) := Lib.hid HSt
  have Hw1 := Lib.hid hw1
  have Hb1 := Lib.hid hb1
  have Hz1 := Lib.hid hz1
  have HkS := Lib.hid kS
  have HkR := Lib.hid kR
  have HA := Lib.hid hA
  clear hw1 hb1 hz1 kS kR hA
  refine (callsIn_wide (n := 5)).1 (callsIn_of_wp_marks Tryz.func8 rfl trivial ?_ rfl)
  simp only [Tryz.ntmps8, List.size_toArray, List.length_cons, List.length_nil, Nat.reduceAdd, Nat.reduceSub, Array.replicate_succ, Array.replicate_zero, List.push_toArray, List.append_toArray, List.nil_append, List.cons_append]
  refine wpIn_wide.2 ?_
  go_wp2_with fail
  rw [← Hw1.out]
  refine HSt.out.mono ?_
  rintro e w2 ⟨gp, gd, M, rfl, hq⟩
  obtain ⟨g, H, ho⟩ := OSt.of hq
  have hR0 : Hid (Round5 w1 w2 gp g gd 0) := Lib.hid ⟨H, _, _, _, ho, fresh_free 60 (by decide), by simp [Dk.new]⟩
  clear hq ho HSt
  have kS2 := Lib.hid (HkS.out.kept (grown_of_below hR0.out.bel none) (by simp))
  have kR2 := Lib.hid (HkR.out.kept (grown_of_below hR0.out.bel none) (by simp))
  have hz2 := hR0.out.bel.size
  go_upto_region 5 with (fail)
  go_loopg [7] 30 (fun k iv wr => ∃ i : Nat, iv = .int .i64 i ∧ i + k = 30 ∧ Hid (Round5 w1 wr gp g gd i))
  case atStart => exact ⟨0, rfl, rfl, hR0⟩
  case round =>
    obtain ⟨i, rfl, hk, HR⟩ := hrel
    have hbr : Below w.heap.size w wr := Hb1.out.trans (HR.out.bel.mono Hb1.out.size)
    have hkR := HkR.out.kept (grown_of_below HR.out.bel none) (by simp)
    have hkS := HkS.out.kept (grown_of_below HR.out.bel none) (by simp)
    have HbR := Lib.hid hbr
    have HKR := Lib.hid hkR
    have HKS := Lib.hid hkS
    clear hbr hkR hkS
    by_cases hi : i < n ∧ i < 30
    · obtain ⟨hin1, hin2⟩ := hi
      obtain ⟨b, o, rfl, hb, hact⟩ := (HA.out.below HbR.out) (by omega)
      obtain ⟨hx, d0, d1, d2, d3⟩ := hact i hin1
      clear hact
      have Hx := Lib.hid hx
      have HH := Lib.hid (sheavy_any (f i).la (f i).ln (f i).lc (f i).list wr (by have := hx.lcap; omega) (hx.list.more HbR.out.size))
      have HD : Hid (∀ W, Below wr.heap.size wr W → Calls Tryz.prog 32 #[.pointer (some ⟨g, 0, none⟩), .slice (f i).la (f i).ln (f i).lc] W fun e w' => (∃ r, e = .returned (.int .i64 r)) ∧ Round5 w1 w' gp g gd (i + 1)) := by
        have hA0 := HA.out (by omega)
        obtain ⟨b', o', _, _, hact0⟩ := hA0
        exact Lib.hid fun W hb => (HR.out.below hb).do_ (by omega) (f i) (hact0 i hin1).1 Hb1.out.size Hb1.out
      have hc1 := HR.out.c1
      generalize (f i).kind = kd at *
      clear hx
      go_wp2_with fail
      refine HH.out.mono ?_
      rintro e w3 ⟨⟨hv, rfl⟩, hb3⟩
      cases hv with
      | true =>
        go_wp2_with fail
        refine (HKn.out _).mono ?_
        rintro e w4 ⟨rfl, hb4⟩
        have hb34 := below_then hb3 hb4
        have kR4 := HKR.out.kept (grown_of_below hb34 none) (by simp)
        have q1 := kR4.cell
        have qf := kR4.frozen
        have hF : Below w.heap.size w (w4.setCell ⟨w.heap.size + 1, 0, none⟩ (.bool true)) := ((HbR.out.trans (hb34.mono HbR.out.size)).trans (below_of_grown (grown_set w4 (w.heap.size + 1) 0 _) (by have := HbR.out.size; have := hb34.size; omega) (by omega)))
        have hR5 : Boxed (w4.setCell ⟨w.heap.size + 1, 0, none⟩ (.bool true)) (w.heap.size + 1) 4 (.bool true) := kR4.set _
        have HF := Lib.hid hF
        have HR5 := Lib.hid hR5.cell
        clear hF hR5 hb34 kR4 hb3 hb4
        go_wp2
        generalize w4.setCell ⟨w.heap.size + 1, 0, none⟩ (.bool true) = w5 at *
        have q5 : w5.cell? ⟨w.heap.size + 1, 0, none⟩ = some (.bool true) := HR5.out
        refine ⟨_, (by simp [results, Tryz.results8, go_sem, q5]; try rfl), rfl, HF.out⟩
      | false =>
        have hb23 : Below w1.heap.size w1 w3 := HR.out.bel.trans (hb3.mono HR.out.bel.size)
        have hbL : b < wr.heap.size := by have := HbR.out.size; omega
        have e0 := (hb3.cell (p := ⟨b, o + i * 4, none⟩) hbL).trans d0
        have e2 := (hb3.cell (p := ⟨b, o + i * 4 + 2, none⟩) hbL).trans d2
        have hc3 := (HR.out.below hb3).c1
        have HR3 := Lib.hid (HR.out.below hb3)
        have Hb3 := Lib.hid hb3
        clear hb3 hb23 d0 d1 d2 d3 hc1
        by_cases hkd : kd ≤ 2
        · go_wp2_with fail
          refine wp_onlyN ?_
          go_region_law ((go_simp; go_at_call 32; refine (HD.out _ (by first | exact Hb3.out | exact Hb3.out.drew | exact Hb3.out.drew.drew)).mono ?_; rintro e w4 ⟨⟨r, rfl⟩, hr4⟩))
          all_goals dsimp only [onlyN]
          all_goals
            have HR4 := Lib.hid hr4
            clear hr4
            go_wp2
            go_roundg (gk - 1)
            case measure => omega
            case rel => exact ⟨i + 1, by go_num, by omega, HR4⟩
        · go_wp2
          go_roundg (gk - 1)
          case measure => omega
          case rel => exact ⟨i + 1, by go_num, by omega, Lib.hid (HR3.out.up (by omega))⟩
    · have hi' : (¬ i < n) ∨ (i < n ∧ ¬ i < 30) := by omega
      rcases hi' with hi1 | ⟨hi1, hi2⟩
      · skip
        obtain ⟨H, d, s, m, ho, hf, hw⟩ := HR.out
        have hml := hf.small (by decide)
        have hsrt := hf.srt
        have hc1 := ho.c1
        obtain ⟨N, hN⟩ : ∃ N, N = m.length := ⟨_, rfl⟩
        have HAll := Lib.hid (all_any2 wr H g gd d s m ho.st hsrt (by omega))
        have HPr : Hid (∀ W, Below wr.heap.size wr W → Calls Tryz.prog 26 #[.pointer (some ⟨g, 0, none⟩)] W fun e W' => ∃ v, e = .returned v ∧ W'.ownsRow W.heap.size 86 2 v N (prCells m) ∧ Below W.heap.size W W') :=
          Lib.hid fun W hb => by rw [hN]; exact callsIn_wide.1 (pairs_in (.pointer (some ⟨g, 0, none⟩)) m W (by omega) (fun X hX => all_any X H g gd d s m ((ho.below hb).below hX).st hsrt (by omega)))
        have Ho := Lib.hid ho
        have Hf := Lib.hid hf
        have Hw := Lib.hid hw
        have Hsrt := Lib.hid hsrt
        have Hok := Lib.hid hf.ok
        have Hml := Lib.hid hml
        have HN := Lib.hid hN
        have hml' : N ≤ 200000 := by omega
        clear ho hf hw hsrt hml hN
        go_wp2_with fail
        refine HAll.out.mono ?_
        rintro e w5 ⟨B, A5, len, cap, rfl, hB5, hl63, hP5, hBl5, hA5, hBge, hb5⟩
        have HBge := Lib.hid hBge
        have HBl5 := Lib.hid hBl5
        have c5 := (Ho.out.below hb5).c1
        have Hb5 := Lib.hid hb5
        have HB5 := Lib.hid hB5
        have HP5 := Lib.hid hP5
        have HA5 := Lib.hid hA5
        have Hl63 := Lib.hid hl63
        clear hB5 hP5 hA5 hb5 HAll hBge hBl5
        go_wp2_with fail
        refine (HPr.out _ Hb5.out).mono ?_
        rintro e w6 ⟨v, rfl, hv6, hb6⟩
        have Hv6 := Lib.hid hv6
        have Hb6 := Lib.hid hb6
        obtain ⟨Av, cv, rfl, hcv⟩ := own_shape hv6
        obtain ⟨w7, hw7⟩ : ∃ w7, w7 = w6.alloc (.cells #[.slice Av N cv] 57) := ⟨_, rfl⟩
        have hb7 : Below w6.heap.size w6 w7 := by rw [hw7]; exact (Below.refl _ _).alloc (Nat.le_refl _) _
        have kA : Boxed w7 w6.heap.size 57 (.slice Av N cv) := by rw [hw7]; exact Boxed.new _ _ _
        have hz7 : w7.heap.size = w6.heap.size + 1 := by rw [hw7]; simp
        have hbr7 : Below wr.heap.size wr w7 := below_then Hb5.out (below_then hb6 hb7)
        have ho7 := Ho.out.below hbr7
        have c7 := ho7.c1
        have a7 := kA.cell
        clear hv6 hb6
        have HL : Hid (∀ q, Calls Tryz.prog 25 #[.pointer (some ⟨g, 0, none⟩)] (w7.drewN q) fun e w' => e = .returned (.int .i64 (N : Nat)) ∧ w' = w7.drewN q) := by
          refine Lib.hid fun q => ?_
          rw [HN.out]
          obtain ⟨H0, lg, bm, h1, _, h2, _⟩ := (ho7.below (bel_drewN (Below.refl _ _) q)).st
          exact (slen_any g bm m.length _ m (w7.drewN q) h1 h2).mono fun _ _ h => ⟨h.1, h.2.symm⟩
        have hnf := not_nilFunc
        have HKA := Lib.hid kA
        have Ho7 := Lib.hid ho7
        have Hz7 := Lib.hid hz7
        have Hbr7 := Lib.hid hbr7
        have Hb7 := Lib.hid hb7
        have Hw7 := Lib.hid hw7
        clear kA ho7 hz7 hbr7 hb7
        go_wp2_with fail
        rw [← Hw7.out]
        clear hw7
        go_quiet ((first
          | (go_at_call 25; exact Calls.quiet_of_same (HL.out _))))
        obtain ⟨w8, hw8⟩ : ∃ w8, w8 = w7.drewN nq := ⟨_, rfl⟩
        rw [← hw8]
        have hb8 : Below w7.heap.size w7 w8 := by rw [hw8]; exact bel_drewN (Below.refl _ _) nq
        have ho8 := Ho7.out.below hb8
        have hKA8 : Boxed w8 w6.heap.size 57 (.slice Av N cv) := HKA.out.kept (grown_of_below hb8 none) (by simp)
        have hz8 : w6.heap.size + 1 ≤ w8.heap.size := by have := hb8.size; have := Hz7.out; omega
        have hv8 := own_below (own_below Hv6.out Hb7.out (fun k hk => (Hv6.out.lt k hk).2)) hb8 (fun k hk => by have := (Hv6.out.lt k hk).2; have := Hz7.out; omega)
        have hbr8 : Below wr.heap.size wr w8 := below_then Hbr7.out hb8
        have Hb78 := Lib.hid hb8
        have Ho8 := Lib.hid ho8
        have HKA8 := Lib.hid hKA8
        have Hz8 := Lib.hid hz8
        have Hv8 := Lib.hid hv8
        have Hbr8 := Lib.hid hbr8
        clear hw8 hb8 ho8 hKA8 hz8 hv8 hbr8 HL a7 c7
        go_upto_region 16 with (fail)
        obtain ⟨ir, hir⟩ : ∃ z, z = i := ⟨_, rfl⟩
        obtain ⟨wo, hwo⟩ : ∃ z, z = wr := ⟨_, rfl⟩
        obtain ⟨ko, hko⟩ : ∃ z, z = gk := ⟨_, rfl⟩
        subst hwo
        subst hko
        go_loopg [10] N (fun k iv w9 => ∃ j : Nat, iv = .int .i64 j ∧ j + k = N ∧ Hid (Below w8.heap.size w8 w9))
        case atStart => exact ⟨0, rfl, by omega, Lib.hid (Below.refl _ _)⟩
        case round =>
          obtain ⟨j, rfl, hj, HB9⟩ := hrel
          obtain ⟨w9, hw9⟩ : ∃ z, z = wr := ⟨_, rfl⟩
          subst hw9
          have ho9 := Ho8.out.below HB9.out
          have kA9 := HKA8.out.kept (grown_of_below HB9.out none) (by simp)
          have hv9 := own_below Hv8.out HB9.out (fun k hk => (Hv8.out.lt k hk).2)
          have a9 := kA9.cell
          have c9 := ho9.c1
          by_cases hjn : j < N
          · have hjm : j < m.length := by rw [← HN.out]; exact hjn
            have hrd := PRd.of_own hv9
            obtain ⟨R, o, rfl, hRl, r0, r1⟩ := hrd.2 j hjm
            have HG : Hid (∀ W, Below w9.heap.size w9 W → Calls Tryz.prog 28 #[.pointer (some ⟨g, 0, none⟩), sV m[j].1] W fun e w' => e = .returned (.tuple #[sV m[j].2, .bool true]) ∧ Below W.heap.size W w') :=
              Lib.hid fun W hb => (ho9.below hb).get Hsrt.out Hok.out j hjm
            have r0 : w9.cell? ⟨R, o + j * 2, none⟩ = some (sV m[j].1) := r0
            have r1 : w9.cell? ⟨R, o + j * 2 + 1, none⟩ = some (sV m[j].2) := r1
            have hord : 0 < j → ∃ pk, w9.cell? ⟨R, o + (j - 1) * 2, none⟩ = some (sV pk) ∧ Op.bytesLess pk m[j].1 = true := by
              intro h0
              obtain ⟨R', o', e', _, u0, _⟩ := hrd.2 (j - 1) (by omega)
              injection e' with e'
              injection e' with e1 e2
              subst e1 e2
              exact ⟨_, u0, by rw [bytesLess_lessB]; exact (List.pairwise_iff_getElem.1 Hsrt.out) (j - 1) j (by omega) hjm (by omega)⟩
            generalize m[j].1 = key at *
            generalize m[j].2 = val at *
            have Hord := Lib.hid hord
            have Ho9 := Lib.hid ho9
            have HkA9 := Lib.hid kA9
            have HRl : Hid (R < w9.heap.size) := Lib.hid hRl
            clear hord ho9 hrd kA9 hv9 hRl
            have HC9 : Hid (∀ W, Below w9.heap.size w9 W → (W.cell? ⟨gp, 1, none⟩ = some (.pointer (some ⟨g, 0, none⟩)) ∧ W.cell? ⟨w6.heap.size, 0, none⟩ = some (.slice (some ⟨R, o, none⟩) N cv) ∧ W.cell? ⟨R, o + j * 2, none⟩ = some (sV key)) ∧ Below w9.heap.size w9 W) :=
              Lib.hid fun W hb => ⟨⟨(Ho9.out.below hb).c1, (HkA9.out.kept (grown_of_below hb none) (by simp)).cell, (hb.cell (p := ⟨R, o + j * 2, none⟩) HRl.out).trans r0⟩, hb⟩
            go_wp2_with fail
            refine wp_onlyN ?_
            go_region_held3 (fun w' => (w'.cell? ⟨gp, 1, none⟩ = some (.pointer (some ⟨g, 0, none⟩)) ∧ w'.cell? ⟨w6.heap.size, 0, none⟩ = some (.slice (some ⟨R, o, none⟩) N cv) ∧ w'.cell? ⟨R, o + j * 2, none⟩ = some (sV key)) ∧ Below w9.heap.size w9 w') (first | (refine HC9.out _ ?_; (repeat' (first | assumption | exact Below.refl _ _ | exact Nat.le_refl _ | apply Below.drew)); done) | go_keep)
              (first
                | (go_at_call 28; refine (HG.out _ (by (repeat' (first | assumption | exact Below.refl _ _ | apply Below.drew)))).mono ?_; rintro e w10 ⟨rfl, hb10⟩; have hd10 : Below w9.heap.size w9 w10 := below_then (by (repeat' (first | assumption | exact Below.refl _ _ | apply Below.drew))) hb10; have hk10 := HC9.out w10 hd10))
            all_goals dsimp only [onlyN]
            all_goals
              have l9 : Below w9.heap.size w9 w10 := hd10
              have l1 : w10.cell? ⟨w6.heap.size, 0, none⟩ = some (.slice (some ⟨R, o, none⟩) N cv) := (HC9.out w10 l9).1.2.1
              have l2 : w10.cell? ⟨R, o + j * 2, none⟩ = some (sV key) := (HC9.out w10 l9).1.2.2
              have l3 : w10.cell? ⟨R, o + j * 2 + 1, none⟩ = some (sV val) := (l9.cell (p := ⟨R, o + j * 2 + 1, none⟩) HRl.out).trans r1
              have Hl9 := Lib.hid l9
              clear hd10 hk10 hb10 l9
              by_cases hj0 : j = 0
              · subst hj0
                go_wp2_with fail
                refine wp_onlyN ?_
                go_quiet (fail)
                all_goals dsimp only [onlyN]
                all_goals try dsimp only [onlyN]
                go_wp2
                go_roundg (gk - 1)
                case measure => omega
                case rel => exact ⟨0 + 1, by go_num, by omega, Lib.hid (bel_drewN (below_then HB9.out Hl9.out) _)⟩
              · obtain ⟨pk, p0, hbl⟩ := Hord.out (by omega)
                have p1 : w10.cell? ⟨R, o + (j - 1) * 2, none⟩ = some (sV pk) := (Hl9.out.cell (p := ⟨R, o + (j - 1) * 2, none⟩) HRl.out).trans p0
                have hi1' : IntKind.i64.wrap ((j : Int) - 1) = (j : Int) - 1 := by rw [IntKind.wrap_i64]; omega
                have hi2 : ((j : Int) - 1).toNat = j - 1 := by omega
                have hi3 : (j : Int) - 1 < (N : Int) := by omega
                have hi4 : (0 : Int) ≤ (j : Int) - 1 := by omega
                have hi5 : (0 : Int) < (j : Int) := by omega
                have hi6 : (j : Int) < (N : Int) := by omega
                have hi7 : 0 < j := by omega
                have hi8 : (1 : Int) ≤ (j : Int) := by omega
                clear p0
                go_wp2_with fail
                refine wp_onlyN ?_
                go_quiet (fail)
                all_goals try dsimp only [onlyN]
                go_wp2
                go_roundg (gk - 1)
                case measure => omega
                case rel => exact ⟨j + 1, by go_num, by omega, Lib.hid (bel_drewN (below_then HB9.out Hl9.out) _)⟩
          · have hjN : j = N := by omega
            subst hjN
            have hbC : Below w9.heap.size w9 (w9.alloc (.cells #[sV [110, 101, 119], sV [49], .bool false] 88)) := (Below.refl _ _).alloc (Nat.le_refl _) _
            have ho10 := ho9.below hbC
            have hH9 : ∀ k, H k → k < w9.heap.size := fun k e => by
              obtain ⟨H0, lg, bm, q1, q2, q3, q4, q5, q6, q7, q8, q9⟩ := ho9.st
              exact q9 k e
            have HDo := Lib.hid (ho10.do_ Hf.out (by decide) (by have := Hw.out; omega) (some ⟨w9.heap.size, 0, none⟩) 1 1 [⟨[110, 101, 119], [49], false⟩] (by decide) (by decide) (fun X hK => by
              have h0 := chrd_one w9 [110, 101, 119] [49]
              refine ⟨h0.1, fun i hi => ?_⟩
              obtain ⟨b', o', e', hlt, u0, u1, u2⟩ := h0.2 i hi
              injection e' with e'
              injection e' with e1 e2
              subst e1 e2
              have hnot : ¬ H w9.heap.size := fun e => by have := hH9 _ e; omega
              have hblk := hK.block w9.heap.size (by simp) hnot
              exact ⟨_, _, rfl, Nat.lt_of_lt_of_le hlt hK.size, (World.cell?_of_block (a := ⟨w9.heap.size, 0 + i * 3, none⟩) hblk).trans u0, (World.cell?_of_block (a := ⟨w9.heap.size, 0 + i * 3 + 1, none⟩) hblk).trans u1, (World.cell?_of_block (a := ⟨w9.heap.size, 0 + i * 3 + 2, none⟩) hblk).trans u2⟩))
            generalize (doS s m d [⟨[110, 101, 119], [49], false⟩]).1 = r at *
            have HbC := Lib.hid hbC
            have HH9 := Lib.hid hH9
            have Hv9 := Lib.hid hv9
            have HkA9 := Lib.hid kA9
            clear hbC ho10 hH9 hv9 kA9
            go_wp2_with fail
            refine HDo.out.mono ?_
            rintro e w11 ⟨rfl, H', ho11, hm11⟩
            have hb19 : Below wo.heap.size wo w9 := below_then Hbr8.out HB9.out
            have hK911 : Kp H w9 w11 := (Kp.of_below HbC.out).trans hm11.kp
            have hz9 := HB9.out.size
            have hz8 := Hz8.out
            have hz5 := Hb5.out.size
            have hz6 := Hb6.out.size
            have hzo := HbR.out.size
            have hnH : ∀ k, wo.heap.size ≤ k → ¬ H k := fun k h1 h2 => by
              obtain ⟨H0, lg, bm, q1, q2, q3, q4, q5, q6, q7, q8, q9⟩ := Ho.out.st
              have := q9 k h2
              omega
            have hlo : ∀ k, k < w1.heap.size → ¬ H k := fun k h1 h2 => by have := Ho.out.ge k h2; omega
            have hz1 := Hz1.out
            have kpB : ∀ {k : Nat} {t : TypeId} {v : Value}, Boxed w9 k t v → ¬ H k → Boxed w11 k t v := fun {k t v} h1 h2 => Bk.kp (F := H) h1 hK911 h2
            have s11 := kpB (HKS.out.kept (grown_of_below hb19 none) (by simp)) (hlo _ (by omega))
            have r11 := kpB (HKR.out.kept (grown_of_below hb19 none) (by simp)) (hlo _ (by omega))
            have a11 := kpB HkA9.out (hnH _ (by omega))
            have v11 := own_kp Hv9.out hK911 (fun k hk => hnH k (by have := (Hv9.out.lt k hk).1; omega))
            have hb59 : Below w5.heap.size w5 w9 := below_then Hb6.out (below_then Hb7.out (below_then Hb78.out HB9.out))
            have hB11 := cell_kp ((hb59.cell (p := ⟨B, 0, none⟩) HBl5.out).trans HB5.out) hK911 (hnH B HBge.out)
            have hP11 : PRd w11 w11.heap.size A5 len m := ((HP5.out.below hb59).more hb59.size).kp hK911 (Nat.le_refl _) hK911.size (fun b o e => hnH b (HA5.out b o e))
            have hbw11 : Below w.heap.size w w11 := (HbR.out.trans (hb19.mono hzo)).trans (hK911.below (fun k e => by have := Ho.out.ge k e; omega) (by have := hb19.size; omega))
            have hBl11 : B < w11.heap.size := by have := HBl5.out; have := hb59.size; have := hK911.size; omega
            have hz11 := hK911.size
            obtain ⟨w12, hw12⟩ : ∃ w12, w12 = w11.alloc (.cells #[.int .i64 0] 3) := ⟨_, rfl⟩
            have hb12 : Below w11.heap.size w11 w12 := by rw [hw12]; exact (Below.refl _ _).alloc (Nat.le_refl _) _
            have hz12 : w12.heap.size = w11.heap.size + 1 := by rw [hw12]; simp
            have kN : Boxed w12 w11.heap.size 3 (.int .i64 0) := by rw [hw12]; exact Boxed.new _ _ _
            have HkS12 := Lib.hid (s11.kept (grown_of_below hb12 none) (by simp))
            have HkR12 := Lib.hid (r11.kept (grown_of_below hb12 none) (by simp))
            have HkA12 := Lib.hid (a11.kept (grown_of_below hb12 none) (by simp))
            have HV12 := Lib.hid (PRd.of_own (own_below v11 hb12 (fun k hk => (v11.lt k hk).2)))
            have HAvR : Hid (∀ b o, Av = some ⟨b, o, none⟩ → b < w11.heap.size) := by
              refine Lib.hid fun b o e => ?_
              rcases v11.2 with ⟨hv, _⟩ | ⟨gg, cap, cur, hv, _, hh, _⟩
              · injection hv with e1; rw [e] at e1; cases e1
              · injection hv with e1
                rw [e] at e1
                injection e1 with e1
                injection e1 with e1
                subst e1
                exact (Array.getElem?_eq_some_iff.1 hh).1
            have HB12 := Lib.hid ((hb12.cell (p := ⟨B, 0, none⟩) hBl11).trans hB11)
            have HP12 := Lib.hid ((hP11.below hb12).more hb12.size)
            have HAx : Hid (∀ b o, A5 = some ⟨b, o, none⟩ → 0 < m.length → b < w11.heap.size) := by
              refine Lib.hid fun b o e h0 => ?_
              obtain ⟨b', o', e', hlt, _⟩ := hP11.2 0 h0
              rw [e] at e'
              injection e' with e'
              injection e' with e'
              omega
            have Hbw12 := Lib.hid (hbw11.trans (hb12.mono hbw11.size))
            have HBl12 : Hid (B < w12.heap.size) := Lib.hid (by omega)
            have Hw12 := Lib.hid hw12
            have Hz12 := Lib.hid hz12
            have HkN := Lib.hid kN
            have Hz6 : Hid (w6.heap.size < w11.heap.size ∧ w.heap.size + 1 < w11.heap.size) := Lib.hid ⟨by omega, by have := Ho.out.bel.size; have := hb19.size; omega⟩
            clear hb19 hK911 hz9 hz8 hz5 hz6 hzo hnH hlo hz1 kpB s11 r11 a11 v11 hb59 hB11 hP11 hbw11 hBl11 hz11 hw12 hb12 hz12 kN ho11 hm11
            go_wp2_with fail
            rw [← Hw12.out]
            refine (wpIn_wide (n := 5)).1 ?_
            change Code.wpIn _ _ _ _ _ ⟨?T, _⟩ _
            refine wpIn_rangeFunc_ownG rfl (by decide) (gf := 81) (lb := #[.pointer (some ⟨B, 0, none⟩)]) rfl trivial (enters_of Tryz.func81 (by kernel_rfl) rfl)
              (iter_stops2 Fence.wide 4 trivial rfl (by decide) B w12.heap.size w11.heap.size A5 len cap m Hl63.out w12 HBl12.out (Nat.le_refl _) HB12.out HP12.out (fun h0 b o e => by have := HAx.out b o e h0; omega)) KX.trans (fun W l o o' hl ho _ _ => ⟨by simp [World.putObj], fun k hk _ => World.putObj_heap_other (by omega)⟩) (Below.refl _ _) (fun _ => rfl)
              (fun pre W => Boxed W w11.heap.size 3 (.int .i64 (pre.length : Int)) ∧ KX w11.heap.size w12.heap.size w12 W ∧ Below w.heap.size w W)
              (fun cd xs W => (cd = .ret ∧ ¬ xs <+: m) ∨ (cd = .exit 4 ∧ (xs.length : Int) = stop ∧ KX w11.heap.size w12.heap.size w12 W ∧ Boxed W w11.heap.size 3 (.int .i64 (xs.length : Int)) ∧ Below w.heap.size w W))
              ?hI ?hIx ⟨?h0a, ?h0b, Hbw12.out⟩
              (fun x => ⟨(((?T).setIfInBounds 137 (sV x.1)).setIfInBounds 138 (sV x.2)).setIfInBounds 14 (sV x.1) |>.setIfInBounds 15 (sV x.2), []⟩) ?assign ?body ?done ?stop
            case hI =>
              rintro xs W W' row ⟨h1, h2, h4⟩ hg hr
              refine ⟨h1.kept hg (fun e => ?_), ⟨Nat.le_trans h2.size hg.size, fun k hk hne => ?_⟩, h4.grown hg h4.size (fun k e => by have := (hr k e).1; have := Hbw12.out.size; omega)⟩
              · obtain ⟨_, ob, q1, q2⟩ := hr _ e.symm
                rw [show W.heap[w11.heap.size]? = _ from h1] at q1
                cases q1
                cases q2
              · rw [hg.block k (Nat.lt_of_lt_of_le hk h2.size) (fun e => by have := (hr _ e.symm).1; omega)]
                exact h2.block k hk hne
            case hIx =>
              rintro cd xs W W' row (⟨h1, h2⟩ | ⟨h0, h3, h2, h1, h4⟩) hg hr
              · exact .inl ⟨h1, h2⟩
              · refine .inr ⟨h0, h3, ⟨Nat.le_trans h2.size hg.size, fun k hk hne => ?_⟩, h1.kept hg (fun e => ?_), h4.grown hg h4.size (fun k e => by have := (hr k e).1; have := Hbw12.out.size; omega)⟩
                · rw [hg.block k (Nat.lt_of_lt_of_le hk h2.size) (fun e => by have := (hr _ e.symm).1; omega)]
                  exact h2.block k hk hne
                · obtain ⟨_, ob, q1, q2⟩ := hr _ e.symm
                  rw [show W.heap[w11.heap.size]? = _ from h1] at q1
                  cases q1
                  cases q2
            case h0a => exact HkN.out
            case h0b => exact KX.refl _ _ _
            case assign =>
              intro l x W K hK
              gi_wp2
              exact hK
            case body =>
              rintro l pre x W ⟨hn, hkx, hbW⟩ hlt
              have HbW := Lib.hid hbW
              clear hbW
              obtain ⟨x1, x2⟩ := x
              have hml2 : m.length = len := HP12.out.1
              have hpm : pre.length < m.length := by omega
              have hz6' := Hz6.out
              have hz12' := Hz12.out
              have hbx : ∀ {k : Nat} {t : TypeId} {v : Value}, Boxed w12 k t v → k < w11.heap.size → Boxed W k t v := fun {k t v} h1 h2 => (hkx.block k (by omega) (by omega)).trans h1
              have kA := hbx HkA12.out hz6'.1
              have kS := hbx HkS12.out (by omega)
              have kR := hbx HkR12.out hz6'.2
              obtain ⟨R, o, rfl, hRl, r0, r1⟩ := (HV12.out.keep hkx (fun b o e => by have := HAvR.out b o e; omega)).2 pre.length hpm
              have q1 := hn.cell
              have q2 := kA.cell
              have q3 := kS.cell
              have q4 := hn.frozen
              have q5 := kR.cell
              have q6 := kR.frozen
              have hpN : (pre.length : Int) < (j : Int) := by have := HN.out; omega
              obtain ⟨⟨y1, y2⟩, hy⟩ : ∃ y, m[pre.length]'hpm = y := ⟨_, rfl⟩
              rw [hy] at r0 r1
              obtain ⟨pl, hpl⟩ : ∃ pl, pl = pre.length := ⟨_, rfl⟩
              rw [← hpl] at q1 r0 r1 hpN
              have r0 : W.cell? ⟨R, o + pl * 2, none⟩ = some (sV y1) := r0
              have r1 : W.cell? ⟨R, o + pl * 2 + 1, none⟩ = some (sV y2) := r1
              have Hpl := Lib.hid hpl
              have Hy := Lib.hid hy
              have Hn := Lib.hid hn
              have Hkx := Lib.hid hkx
              have HkA := Lib.hid kA
              have HkR := Lib.hid kR
              clear hpl hy hn hkx kA kS kR hbx
              obtain ⟨nx, hnx⟩ : ∃ nx, nx = (pl : Int) + 1 := ⟨_, rfl⟩
              have hwr : IntKind.i64.wrap ((pl : Int) + 1) = nx := by rw [IntKind.wrap_i64, hnx]; have := Hml.out; have := HN.out; omega
              have hlen1 : ((pre ++ [(x1, x2)]).length : Int) = nx := by rw [List.length_append, hnx, Hpl.out]; rfl
              have Hlen1 := Lib.hid hlen1
              have HzN : Hid (w11.heap.size < w12.heap.size ∧ w.heap.size + 1 < w12.heap.size) := Lib.hid ⟨by omega, by omega⟩
              have hne1 : w11.heap.size ≠ w.heap.size := by omega
              have hne2 : w.heap.size ≠ w11.heap.size := by omega
              have HzB : Hid (w.heap.size ≤ w11.heap.size) := Lib.hid (by omega)
              clear hz12' hz6' hlen1 hnx
              by_cases hxy : x1 = y1 ∧ x2 = y2
              · obtain ⟨rfl, rfl⟩ := hxy
                have hkf : KeepsFrom w12.heap.size W (W.setCell ⟨w11.heap.size, 0, none⟩ (.int .i64 nx)) := KeepsFrom.of_grownBy (grown_set W w11.heap.size 0 _) (fun j e => by injection e with e; have := HzN.out.1; omega)
                have hkk : KX w11.heap.size w12.heap.size W (W.setCell ⟨w11.heap.size, 0, none⟩ (.int .i64 nx)) := ⟨by simp, fun k hk hne => Below.heap_setCell _ _ _ _ hne⟩
                have hbn : Boxed (W.setCell ⟨w11.heap.size, 0, none⟩ (.int .i64 nx)) w11.heap.size 3 (.int .i64 ((pre ++ [(x1, x2)]).length : Int)) := by rw [Hlen1.out]; exact Hn.out.set _
                have Hkf := Lib.hid hkf
                have Hkk := Lib.hid hkk
                have Hbn := Lib.hid hbn
                have Hbb : Hid (Below w.heap.size w (W.setCell ⟨w11.heap.size, 0, none⟩ (.int .i64 nx))) := Lib.hid (HbW.out.trans (below_of_grown (grown_set W w11.heap.size 0 _) HbW.out.size (by have := HzB.out; omega)))
                clear hkf hkk hbn
                by_cases hst : stop = nx
                · subst hst
                  gi_wp2
                  exact ⟨Hkf.out,   .inr ⟨rfl, Hlen1.out, Hkx.out.trans Hkk.out, Hbn.out, Hbb.out⟩⟩
                · have hst' : ¬ nx = stop := fun e => hst e.symm
                  gi_wp2
                  exact ⟨Hkf.out, Hkk.out, Hbn.out, Hkx.out.trans Hkk.out, Hbb.out⟩
              · have hcon : ¬ (sV y1 = sV x1 ∧ sV y2 = sV x2) := fun h => by
                  have e1 : y1 = x1 := by have := h.1; unfold sV at this; injection this with this; injection this with this; simpa using this
                  have e2 : y2 = x2 := by have := h.2; unfold sV at this; injection this with this; injection this with this; simpa using this
                  exact hxy ⟨e1.symm, e2.symm⟩
                gi_wp2
                all_goals first
                  | (exfalso; exact hcon ⟨by rw [‹y1 = x1›], by rw [‹y2 = x2›]⟩)
                  | skip
                all_goals
                  refine ⟨KeepsFrom.of_grownBy (grown_set W (w.heap.size + 1) 0 _) (fun j e => by injection e with e; have := HzN.out.2; omega), .inl ⟨rfl, fun hp => ?_⟩⟩
                  have h1 := hp.getElem (i := pre.length) (by simp)
                  rw [Hy.out] at h1
                  simp only [List.getElem_concat_length] at h1
                  injection h1 with h1 h2
                  exact hxy ⟨h1, h2⟩
            case done =>
              rintro D ys W hD rfl ⟨hn, hkx, hbW⟩ hK
              have hz12' := Hz12.out
              have hz6' := Hz6.out
              have hbx : ∀ {k : Nat} {t : TypeId} {v : Value}, Boxed w12 k t v → k < w11.heap.size → Boxed W k t v := fun {k t v} h1 h2 => (hkx.block k (by omega) (by omega)).trans h1
              have kA := hbx HkA12.out hz6'.1
              have kS := hbx HkS12.out (by omega)
              have kR := hbx HkR12.out hz6'.2
              have hDw : w.heap.size + 1 < D := by omega
              have hDl : D < W.heap.size := (Array.getElem?_eq_some_iff.1 hK).1
              have hn' := hn
              rw [← HN.out] at hn'
              have q1 := hn'.cell
              clear hn'
              have q2 := kA.cell
              have q3 := kS.cell
              have HKN := Lib.hid (HKn.out W)
              have HkR := Lib.hid kR
              have HK := Lib.hid hK
              have HbW := Lib.hid hbW
              have HDw := Lib.hid hDw
              have HDl := Lib.hid hDl
              clear hn kA kS kR hK hkx hbx hD hz12' hz6' hbW hDw hDl
              go_wp2_with fail
              refine HKN.out.mono ?_
              rintro e W2 ⟨rfl, hb2⟩
              have kR2 := HkR.out.kept (grown_of_below hb2 none) (by simp)
              have s1 := kR2.cell
              have s2 := kR2.frozen
              have hDne : D ≠ w.heap.size + 1 := by have := HDw.out; omega
              have hK2 : (W2.setCell ⟨w.heap.size + 1, 0, none⟩ (.bool true)).heap[D]? = some (.deferred (some [])) := by
                rw [Below.heap_setCell _ _ _ _ hDne, hb2.block D HDl.out]
                exact HK.out
              have hF : ∀ ob, Below w.heap.size w ((W2.setCell ⟨w.heap.size + 1, 0, none⟩ (.bool true)).putObj D ob) := fun ob => by
                have h1 : Below w.heap.size w W2 := HbW.out.trans (hb2.mono HbW.out.size)
                have h2 := h1.trans (below_of_grown (grown_set W2 (w.heap.size + 1) 0 (.bool true)) h1.size (by omega))
                exact h2.trans (below_of_grown (grownBy_putObj' _ D ob) h2.size (by have := HDw.out; omega))
              have hR5 : ∀ ob, ((W2.setCell ⟨w.heap.size + 1, 0, none⟩ (.bool true)).putObj D ob).cell? ⟨w.heap.size + 1, 0, none⟩ = some (.bool true) := fun ob => by
                rw [World.cell?_of_block (a := ⟨w.heap.size + 1, 0, none⟩) (World.putObj_heap_other (fun e => hDne e.symm))]
                exact (kR2.set (.bool true)).cell
              have HF := Lib.hid hF
              have HK2 := Lib.hid hK2
              have HR5 := Lib.hid hR5
              clear hF hK2 hR5 hb2 kR2
              go_wp2
              refine ⟨by simp, .inl ⟨_, _, rfl, run_takeDeferred HK2.out, ?_⟩⟩
              have q5 := HR5.out (.deferred none)
              exact ⟨_, (by simp [results, Tryz.results8, go_sem, HR5.out]; try rfl), rfl, HF.out _⟩
            case stop =>
              rintro D cd pre W hD hpre (⟨rfl, hno⟩ | ⟨rfl, hst, hkx, hn, hbW⟩) hK
              · exact absurd hpre hno
              have hz12' := Hz12.out
              have hz6' := Hz6.out
              have hbx : ∀ {k : Nat} {t : TypeId} {v : Value}, Boxed w12 k t v → k < w11.heap.size → Boxed W k t v := fun {k t v} h1 h2 => (hkx.block k (by omega) (by omega)).trans h1
              have kA := hbx HkA12.out hz6'.1
              have kS := hbx HkS12.out (by omega)
              have kR := hbx HkR12.out hz6'.2
              have hDw : w.heap.size + 1 < D := by omega
              have hDl : D < W.heap.size := (Array.getElem?_eq_some_iff.1 hK).1
              rw [hst] at hn
              have q1 := hn.cell
              clear hst
              have q2 := kA.cell
              have q3 := kS.cell
              have HKN := Lib.hid (HKn.out W)
              have HkR := Lib.hid kR
              have HK := Lib.hid hK
              have HbW := Lib.hid hbW
              have HDw := Lib.hid hDw
              have HDl := Lib.hid hDl
              clear hn kA kS kR hK hkx hbx hD hz12' hz6' hbW hDw hDl
              refine wpIn_wide.2 ?_
              go_wp2_with fail
              all_goals (
              refine HKN.out.mono ?_
              rintro e W2 ⟨rfl, hb2⟩
              have kR2 := HkR.out.kept (grown_of_below hb2 none) (by simp)
              have s1 := kR2.cell
              have s2 := kR2.frozen
              have hDne : D ≠ w.heap.size + 1 := by have := HDw.out; omega
              have hK2 : (W2.setCell ⟨w.heap.size + 1, 0, none⟩ (.bool true)).heap[D]? = some (.deferred (some [])) := by
                rw [Below.heap_setCell _ _ _ _ hDne, hb2.block D HDl.out]
                exact HK.out
              have hF : ∀ ob, Below w.heap.size w ((W2.setCell ⟨w.heap.size + 1, 0, none⟩ (.bool true)).putObj D ob) := fun ob => by
                have h1 : Below w.heap.size w W2 := HbW.out.trans (hb2.mono HbW.out.size)
                have h2 := h1.trans (below_of_grown (grown_set W2 (w.heap.size + 1) 0 (.bool true)) h1.size (by omega))
                exact h2.trans (below_of_grown (grownBy_putObj' _ D ob) h2.size (by have := HDw.out; omega))
              have hR5 : ∀ ob, ((W2.setCell ⟨w.heap.size + 1, 0, none⟩ (.bool true)).putObj D ob).cell? ⟨w.heap.size + 1, 0, none⟩ = some (.bool true) := fun ob => by
                rw [World.cell?_of_block (a := ⟨w.heap.size + 1, 0, none⟩) (World.putObj_heap_other (fun e => hDne e.symm))]
                exact (kR2.set (.bool true)).cell
              have HF := Lib.hid hF
              have HK2 := Lib.hid hK2
              have HR5 := Lib.hid hR5
              clear hF hK2 hR5 hb2 kR2
              go_wp2
              refine ⟨by simp, .inl ⟨_, _, rfl, run_takeDeferred HK2.out, ?_⟩⟩
              have q5 := HR5.out (.deferred none)
              exact ⟨_, (by simp [results, Tryz.results8, go_sem, HR5.out]; try rfl), rfl, HF.out _⟩
              )
      · skip
        obtain ⟨H, d, s, m, ho, hf, hw⟩ := HR.out
        have hml := hf.small (by decide)
        have hsrt := hf.srt
        have hc1 := ho.c1
        obtain ⟨N, hN⟩ : ∃ N, N = m.length := ⟨_, rfl⟩
        have HAll := Lib.hid (all_any2 wr H g gd d s m ho.st hsrt (by omega))
        have HPr : Hid (∀ W, Below wr.heap.size wr W → Calls Tryz.prog 26 #[.pointer (some ⟨g, 0, none⟩)] W fun e W' => ∃ v, e = .returned v ∧ W'.ownsRow W.heap.size 86 2 v N (prCells m) ∧ Below W.heap.size W W') :=
          Lib.hid fun W hb => by rw [hN]; exact callsIn_wide.1 (pairs_in (.pointer (some ⟨g, 0, none⟩)) m W (by omega) (fun X hX => all_any X H g gd d s m ((ho.below hb).below hX).st hsrt (by omega)))
        have Ho := Lib.hid ho
        have Hf := Lib.hid hf
        have Hw := Lib.hid hw
        have Hsrt := Lib.hid hsrt
        have Hok := Lib.hid hf.ok
        have Hml := Lib.hid hml
        have HN := Lib.hid hN
        have hml' : N ≤ 200000 := by omega
        clear ho hf hw hsrt hml hN
        go_wp2_with fail
        refine HAll.out.mono ?_
        rintro e w5 ⟨B, A5, len, cap, rfl, hB5, hl63, hP5, hBl5, hA5, hBge, hb5⟩
        have HBge := Lib.hid hBge
        have HBl5 := Lib.hid hBl5
        have c5 := (Ho.out.below hb5).c1
        have Hb5 := Lib.hid hb5
        have HB5 := Lib.hid hB5
        have HP5 := Lib.hid hP5
        have HA5 := Lib.hid hA5
        have Hl63 := Lib.hid hl63
        clear hB5 hP5 hA5 hb5 HAll hBge hBl5
        go_wp2_with fail
        refine (HPr.out _ Hb5.out).mono ?_
        rintro e w6 ⟨v, rfl, hv6, hb6⟩
        have Hv6 := Lib.hid hv6
        have Hb6 := Lib.hid hb6
        obtain ⟨Av, cv, rfl, hcv⟩ := own_shape hv6
        obtain ⟨w7, hw7⟩ : ∃ w7, w7 = w6.alloc (.cells #[.slice Av N cv] 57) := ⟨_, rfl⟩
        have hb7 : Below w6.heap.size w6 w7 := by rw [hw7]; exact (Below.refl _ _).alloc (Nat.le_refl _) _
        have kA : Boxed w7 w6.heap.size 57 (.slice Av N cv) := by rw [hw7]; exact Boxed.new _ _ _
        have hz7 : w7.heap.size = w6.heap.size + 1 := by rw [hw7]; simp
        have hbr7 : Below wr.heap.size wr w7 := below_then Hb5.out (below_then hb6 hb7)
        have ho7 := Ho.out.below hbr7
        have c7 := ho7.c1
        have a7 := kA.cell
        clear hv6 hb6
        have HL : Hid (∀ q, Calls Tryz.prog 25 #[.pointer (some ⟨g, 0, none⟩)] (w7.drewN q) fun e w' => e = .returned (.int .i64 (N : Nat)) ∧ w' = w7.drewN q) := by
          refine Lib.hid fun q => ?_
          rw [HN.out]
          obtain ⟨H0, lg, bm, h1, _, h2, _⟩ := (ho7.below (bel_drewN (Below.refl _ _) q)).st
          exact (slen_any g bm m.length _ m (w7.drewN q) h1 h2).mono fun _ _ h => ⟨h.1, h.2.symm⟩
        have hnf := not_nilFunc
        have HKA := Lib.hid kA
        have Ho7 := Lib.hid ho7
        have Hz7 := Lib.hid hz7
        have Hbr7 := Lib.hid hbr7
        have Hb7 := Lib.hid hb7
        have Hw7 := Lib.hid hw7
        clear kA ho7 hz7 hbr7 hb7
        go_wp2_with fail
        rw [← Hw7.out]
        clear hw7
        go_quiet ((first
          | (go_at_call 25; exact Calls.quiet_of_same (HL.out _))))
        obtain ⟨w8, hw8⟩ : ∃ w8, w8 = w7.drewN nq := ⟨_, rfl⟩
        rw [← hw8]
        have hb8 : Below w7.heap.size w7 w8 := by rw [hw8]; exact bel_drewN (Below.refl _ _) nq
        have ho8 := Ho7.out.below hb8
        have hKA8 : Boxed w8 w6.heap.size 57 (.slice Av N cv) := HKA.out.kept (grown_of_below hb8 none) (by simp)
        have hz8 : w6.heap.size + 1 ≤ w8.heap.size := by have := hb8.size; have := Hz7.out; omega
        have hv8 := own_below (own_below Hv6.out Hb7.out (fun k hk => (Hv6.out.lt k hk).2)) hb8 (fun k hk => by have := (Hv6.out.lt k hk).2; have := Hz7.out; omega)
        have hbr8 : Below wr.heap.size wr w8 := below_then Hbr7.out hb8
        have Hb78 := Lib.hid hb8
        have Ho8 := Lib.hid ho8
        have HKA8 := Lib.hid hKA8
        have Hz8 := Lib.hid hz8
        have Hv8 := Lib.hid hv8
        have Hbr8 := Lib.hid hbr8
        clear hw8 hb8 ho8 hKA8 hz8 hv8 hbr8 HL a7 c7
        go_upto_region 16 with (fail)
        obtain ⟨ir, hir⟩ : ∃ z, z = i := ⟨_, rfl⟩
        obtain ⟨wo, hwo⟩ : ∃ z, z = wr := ⟨_, rfl⟩
        obtain ⟨ko, hko⟩ : ∃ z, z = gk := ⟨_, rfl⟩
        subst hwo
        subst hko
        go_loopg [10] N (fun k iv w9 => ∃ j : Nat, iv = .int .i64 j ∧ j + k = N ∧ Hid (Below w8.heap.size w8 w9))
        case atStart => exact ⟨0, rfl, by omega, Lib.hid (Below.refl _ _)⟩
        case round =>
          obtain ⟨j, rfl, hj, HB9⟩ := hrel
          obtain ⟨w9, hw9⟩ : ∃ z, z = wr := ⟨_, rfl⟩
          subst hw9
          have ho9 := Ho8.out.below HB9.out
          have kA9 := HKA8.out.kept (grown_of_below HB9.out none) (by simp)
          have hv9 := own_below Hv8.out HB9.out (fun k hk => (Hv8.out.lt k hk).2)
          have a9 := kA9.cell
          have c9 := ho9.c1
          by_cases hjn : j < N
          · have hjm : j < m.length := by rw [← HN.out]; exact hjn
            have hrd := PRd.of_own hv9
            obtain ⟨R, o, rfl, hRl, r0, r1⟩ := hrd.2 j hjm
            have HG : Hid (∀ W, Below w9.heap.size w9 W → Calls Tryz.prog 28 #[.pointer (some ⟨g, 0, none⟩), sV m[j].1] W fun e w' => e = .returned (.tuple #[sV m[j].2, .bool true]) ∧ Below W.heap.size W w') :=
              Lib.hid fun W hb => (ho9.below hb).get Hsrt.out Hok.out j hjm
            have r0 : w9.cell? ⟨R, o + j * 2, none⟩ = some (sV m[j].1) := r0
            have r1 : w9.cell? ⟨R, o + j * 2 + 1, none⟩ = some (sV m[j].2) := r1
            have hord : 0 < j → ∃ pk, w9.cell? ⟨R, o + (j - 1) * 2, none⟩ = some (sV pk) ∧ Op.bytesLess pk m[j].1 = true := by
              intro h0
              obtain ⟨R', o', e', _, u0, _⟩ := hrd.2 (j - 1) (by omega)
              injection e' with e'
              injection e' with e1 e2
              subst e1 e2
              exact ⟨_, u0, by rw [bytesLess_lessB]; exact (List.pairwise_iff_getElem.1 Hsrt.out) (j - 1) j (by omega) hjm (by omega)⟩
            generalize m[j].1 = key at *
            generalize m[j].2 = val at *
            have Hord := Lib.hid hord
            have Ho9 := Lib.hid ho9
            have HkA9 := Lib.hid kA9
            have HRl : Hid (R < w9.heap.size) := Lib.hid hRl
            clear hord ho9 hrd kA9 hv9 hRl
            have HC9 : Hid (∀ W, Below w9.heap.size w9 W → (W.cell? ⟨gp, 1, none⟩ = some (.pointer (some ⟨g, 0, none⟩)) ∧ W.cell? ⟨w6.heap.size, 0, none⟩ = some (.slice (some ⟨R, o, none⟩) N cv) ∧ W.cell? ⟨R, o + j * 2, none⟩ = some (sV key)) ∧ Below w9.heap.size w9 W) :=
              Lib.hid fun W hb => ⟨⟨(Ho9.out.below hb).c1, (HkA9.out.kept (grown_of_below hb none) (by simp)).cell, (hb.cell (p := ⟨R, o + j * 2, none⟩) HRl.out).trans r0⟩, hb⟩
            go_wp2_with fail
            refine wp_onlyN ?_
            go_region_held3 (fun w' => (w'.cell? ⟨gp, 1, none⟩ = some (.pointer (some ⟨g, 0, none⟩)) ∧ w'.cell? ⟨w6.heap.size, 0, none⟩ = some (.slice (some ⟨R, o, none⟩) N cv) ∧ w'.cell? ⟨R, o + j * 2, none⟩ = some (sV key)) ∧ Below w9.heap.size w9 w') (first | (refine HC9.out _ ?_; (repeat' (first | assumption | exact Below.refl _ _ | exact Nat.le_refl _ | apply Below.drew)); done) | go_keep)
              (first
                | (go_at_call 28; refine (HG.out _ (by (repeat' (first | assumption | exact Below.refl _ _ | apply Below.drew)))).mono ?_; rintro e w10 ⟨rfl, hb10⟩; have hd10 : Below w9.heap.size w9 w10 := below_then (by (repeat' (first | assumption | exact Below.refl _ _ | apply Below.drew))) hb10; have hk10 := HC9.out w10 hd10))
            all_goals dsimp only [onlyN]
            all_goals
              have l9 : Below w9.heap.size w9 w10 := hd10
              have l1 : w10.cell? ⟨w6.heap.size, 0, none⟩ = some (.slice (some ⟨R, o, none⟩) N cv) := (HC9.out w10 l9).1.2.1
              have l2 : w10.cell? ⟨R, o + j * 2, none⟩ = some (sV key) := (HC9.out w10 l9).1.2.2
              have l3 : w10.cell? ⟨R, o + j * 2 + 1, none⟩ = some (sV val) := (l9.cell (p := ⟨R, o + j * 2 + 1, none⟩) HRl.out).trans r1
              have Hl9 := Lib.hid l9
              clear hd10 hk10 hb10 l9
              by_cases hj0 : j = 0
              · subst hj0
                go_wp2_with fail
                refine wp_onlyN ?_
                go_quiet (fail)
                all_goals dsimp only [onlyN]
                all_goals try dsimp only [onlyN]
                go_wp2
                go_roundg (gk - 1)
                case measure => omega
                case rel => exact ⟨0 + 1, by go_num, by omega, Lib.hid (bel_drewN (below_then HB9.out Hl9.out) _)⟩
              · obtain ⟨pk, p0, hbl⟩ := Hord.out (by omega)
                have p1 : w10.cell? ⟨R, o + (j - 1) * 2, none⟩ = some (sV pk) := (Hl9.out.cell (p := ⟨R, o + (j - 1) * 2, none⟩) HRl.out).trans p0
                have hi1' : IntKind.i64.wrap ((j : Int) - 1) = (j : Int) - 1 := by rw [IntKind.wrap_i64]; omega
                have hi2 : ((j : Int) - 1).toNat = j - 1 := by omega
                have hi3 : (j : Int) - 1 < (N : Int) := by omega
                have hi4 : (0 : Int) ≤ (j : Int) - 1 := by omega
                have hi5 : (0 : Int) < (j : Int) := by omega
                have hi6 : (j : Int) < (N : Int) := by omega
                have hi7 : 0 < j := by omega
                have hi8 : (1 : Int) ≤ (j : Int) := by omega
                clear p0
                go_wp2_with fail
                refine wp_onlyN ?_
                go_quiet (fail)
                all_goals try dsimp only [onlyN]
                go_wp2
                go_roundg (gk - 1)
                case measure => omega
                case rel => exact ⟨j + 1, by go_num, by omega, Lib.hid (bel_drewN (below_then HB9.out Hl9.out) _)⟩
          · have hjN : j = N := by omega
            subst hjN
            have hbC : Below w9.heap.size w9 (w9.alloc (.cells #[sV [110, 101, 119], sV [49], .bool false] 88)) := (Below.refl _ _).alloc (Nat.le_refl _) _
            have ho10 := ho9.below hbC
            have hH9 : ∀ k, H k → k < w9.heap.size := fun k e => by
              obtain ⟨H0, lg, bm, q1, q2, q3, q4, q5, q6, q7, q8, q9⟩ := ho9.st
              exact q9 k e
            have HDo := Lib.hid (ho10.do_ Hf.out (by decide) (by have := Hw.out; omega) (some ⟨w9.heap.size, 0, none⟩) 1 1 [⟨[110, 101, 119], [49], false⟩] (by decide) (by decide) (fun X hK => by
              have h0 := chrd_one w9 [110, 101, 119] [49]
              refine ⟨h0.1, fun i hi => ?_⟩
              obtain ⟨b', o', e', hlt, u0, u1, u2⟩ := h0.2 i hi
              injection e' with e'
              injection e' with e1 e2
              subst e1 e2
              have hnot : ¬ H w9.heap.size := fun e => by have := hH9 _ e; omega
              have hblk := hK.block w9.heap.size (by simp) hnot
              exact ⟨_, _, rfl, Nat.lt_of_lt_of_le hlt hK.size, (World.cell?_of_block (a := ⟨w9.heap.size, 0 + i * 3, none⟩) hblk).trans u0, (World.cell?_of_block (a := ⟨w9.heap.size, 0 + i * 3 + 1, none⟩) hblk).trans u1, (World.cell?_of_block (a := ⟨w9.heap.size, 0 + i * 3 + 2, none⟩) hblk).trans u2⟩))
            generalize (doS s m d [⟨[110, 101, 119], [49], false⟩]).1 = r at *
            have HbC := Lib.hid hbC
            have HH9 := Lib.hid hH9
            have Hv9 := Lib.hid hv9
            have HkA9 := Lib.hid kA9
            clear hbC ho10 hH9 hv9 kA9
            go_wp2_with fail
            refine HDo.out.mono ?_
            rintro e w11 ⟨rfl, H', ho11, hm11⟩
            have hb19 : Below wo.heap.size wo w9 := below_then Hbr8.out HB9.out
            have hK911 : Kp H w9 w11 := (Kp.of_below HbC.out).trans hm11.kp
            have hz9 := HB9.out.size
            have hz8 := Hz8.out
            have hz5 := Hb5.out.size
            have hz6 := Hb6.out.size
            have hzo := HbR.out.size
            have hnH : ∀ k, wo.heap.size ≤ k → ¬ H k := fun k h1 h2 => by
              obtain ⟨H0, lg, bm, q1, q2, q3, q4, q5, q6, q7, q8, q9⟩ := Ho.out.st
              have := q9 k h2
              omega
            have hlo : ∀ k, k < w1.heap.size → ¬ H k := fun k h1 h2 => by have := Ho.out.ge k h2; omega
            have hz1 := Hz1.out
            have kpB : ∀ {k : Nat} {t : TypeId} {v : Value}, Boxed w9 k t v → ¬ H k → Boxed w11 k t v := fun {k t v} h1 h2 => Bk.kp (F := H) h1 hK911 h2
            have s11 := kpB (HKS.out.kept (grown_of_below hb19 none) (by simp)) (hlo _ (by omega))
            have r11 := kpB (HKR.out.kept (grown_of_below hb19 none) (by simp)) (hlo _ (by omega))
            have a11 := kpB HkA9.out (hnH _ (by omega))
            have v11 := own_kp Hv9.out hK911 (fun k hk => hnH k (by have := (Hv9.out.lt k hk).1; omega))
            have hb59 : Below w5.heap.size w5 w9 := below_then Hb6.out (below_then Hb7.out (below_then Hb78.out HB9.out))
            have hB11 := cell_kp ((hb59.cell (p := ⟨B, 0, none⟩) HBl5.out).trans HB5.out) hK911 (hnH B HBge.out)
            have hP11 : PRd w11 w11.heap.size A5 len m := ((HP5.out.below hb59).more hb59.size).kp hK911 (Nat.le_refl _) hK911.size (fun b o e => hnH b (HA5.out b o e))
            have hbw11 : Below w.heap.size w w11 := (HbR.out.trans (hb19.mono hzo)).trans (hK911.below (fun k e => by have := Ho.out.ge k e; omega) (by have := hb19.size; omega))
            have hBl11 : B < w11.heap.size := by have := HBl5.out; have := hb59.size; have := hK911.size; omega
            have hz11 := hK911.size
            obtain ⟨w12, hw12⟩ : ∃ w12, w12 = w11.alloc (.cells #[.int .i64 0] 3) := ⟨_, rfl⟩
            have hb12 : Below w11.heap.size w11 w12 := by rw [hw12]; exact (Below.refl _ _).alloc (Nat.le_refl _) _
            have hz12 : w12.heap.size = w11.heap.size + 1 := by rw [hw12]; simp
            have kN : Boxed w12 w11.heap.size 3 (.int .i64 0) := by rw [hw12]; exact Boxed.new _ _ _
            have HkS12 := Lib.hid (s11.kept (grown_of_below hb12 none) (by simp))
            have HkR12 := Lib.hid (r11.kept (grown_of_below hb12 none) (by simp))
            have HkA12 := Lib.hid (a11.kept (grown_of_below hb12 none) (by simp))
            have HV12 := Lib.hid (PRd.of_own (own_below v11 hb12 (fun k hk => (v11.lt k hk).2)))
            have HAvR : Hid (∀ b o, Av = some ⟨b, o, none⟩ → b < w11.heap.size) := by
              refine Lib.hid fun b o e => ?_
              rcases v11.2 with ⟨hv, _⟩ | ⟨gg, cap, cur, hv, _, hh, _⟩
              · injection hv with e1; rw [e] at e1; cases e1
              · injection hv with e1
                rw [e] at e1
                injection e1 with e1
                injection e1 with e1
                subst e1
                exact (Array.getElem?_eq_some_iff.1 hh).1
            have HB12 := Lib.hid ((hb12.cell (p := ⟨B, 0, none⟩) hBl11).trans hB11)
            have HP12 := Lib.hid ((hP11.below hb12).more hb12.size)
            have HAx : Hid (∀ b o, A5 = some ⟨b, o, none⟩ → 0 < m.length → b < w11.heap.size) := by
              refine Lib.hid fun b o e h0 => ?_
              obtain ⟨b', o', e', hlt, _⟩ := hP11.2 0 h0
              rw [e] at e'
              injection e' with e'
              injection e' with e'
              omega
            have Hbw12 := Lib.hid (hbw11.trans (hb12.mono hbw11.size))
            have HBl12 : Hid (B < w12.heap.size) := Lib.hid (by omega)
            have Hw12 := Lib.hid hw12
            have Hz12 := Lib.hid hz12
            have HkN := Lib.hid kN
            have Hz6 : Hid (w6.heap.size < w11.heap.size ∧ w.heap.size + 1 < w11.heap.size) := Lib.hid ⟨by omega, by have := Ho.out.bel.size; have := hb19.size; omega⟩
            clear hb19 hK911 hz9 hz8 hz5 hz6 hzo hnH hlo hz1 kpB s11 r11 a11 v11 hb59 hB11 hP11 hbw11 hBl11 hz11 hw12 hb12 hz12 kN ho11 hm11
            go_wp2_with fail
            rw [← Hw12.out]
            refine (wpIn_wide (n := 5)).1 ?_
            change Code.wpIn _ _ _ _ _ ⟨?T2, _⟩ _
            refine wpIn_rangeFunc_ownG rfl (by decide) (gf := 81) (lb := #[.pointer (some ⟨B, 0, none⟩)]) rfl trivial (enters_of Tryz.func81 (by kernel_rfl) rfl)
              (iter_stops2 Fence.wide 4 trivial rfl (by decide) B w12.heap.size w11.heap.size A5 len cap m Hl63.out w12 HBl12.out (Nat.le_refl _) HB12.out HP12.out (fun h0 b o e => by have := HAx.out b o e h0; omega)) KX.trans (fun W l o o' hl ho _ _ => ⟨by simp [World.putObj], fun k hk _ => World.putObj_heap_other (by omega)⟩) (Below.refl _ _) (fun _ => rfl)
              (fun pre W => Boxed W w11.heap.size 3 (.int .i64 (pre.length : Int)) ∧ KX w11.heap.size w12.heap.size w12 W ∧ Below w.heap.size w W)
              (fun cd xs W => (cd = .ret ∧ ¬ xs <+: m) ∨ (cd = .exit 4 ∧ (xs.length : Int) = stop ∧ KX w11.heap.size w12.heap.size w12 W ∧ Boxed W w11.heap.size 3 (.int .i64 (xs.length : Int)) ∧ Below w.heap.size w W))
              ?hI2 ?hIx2 ⟨?h0a2, ?h0b2, Hbw12.out⟩
              (fun x => ⟨(((?T2).setIfInBounds 137 (sV x.1)).setIfInBounds 138 (sV x.2)).setIfInBounds 14 (sV x.1) |>.setIfInBounds 15 (sV x.2), []⟩) ?assign2 ?body2 ?done2 ?stop2
            case hI2 =>
              rintro xs W W' row ⟨h1, h2, h4⟩ hg hr
              refine ⟨h1.kept hg (fun e => ?_), ⟨Nat.le_trans h2.size hg.size, fun k hk hne => ?_⟩, h4.grown hg h4.size (fun k e => by have := (hr k e).1; have := Hbw12.out.size; omega)⟩
              · obtain ⟨_, ob, q1, q2⟩ := hr _ e.symm
                rw [show W.heap[w11.heap.size]? = _ from h1] at q1
                cases q1
                cases q2
              · rw [hg.block k (Nat.lt_of_lt_of_le hk h2.size) (fun e => by have := (hr _ e.symm).1; omega)]
                exact h2.block k hk hne
            case hIx2 =>
              rintro cd xs W W' row (⟨h1, h2⟩ | ⟨h0, h3, h2, h1, h4⟩) hg hr
              · exact .inl ⟨h1, h2⟩
              · refine .inr ⟨h0, h3, ⟨Nat.le_trans h2.size hg.size, fun k hk hne => ?_⟩, h1.kept hg (fun e => ?_), h4.grown hg h4.size (fun k e => by have := (hr k e).1; have := Hbw12.out.size; omega)⟩
                · rw [hg.block k (Nat.lt_of_lt_of_le hk h2.size) (fun e => by have := (hr _ e.symm).1; omega)]
                  exact h2.block k hk hne
                · obtain ⟨_, ob, q1, q2⟩ := hr _ e.symm
                  rw [show W.heap[w11.heap.size]? = _ from h1] at q1
                  cases q1
                  cases q2
            case h0a2 => exact HkN.out
            case h0b2 => exact KX.refl _ _ _
            case assign2 =>
              intro l x W K hK
              gi_wp2
              exact hK
            case body2 =>
              rintro l pre x W ⟨hn, hkx, hbW⟩ hlt
              have HbW := Lib.hid hbW
              clear hbW
              obtain ⟨x1, x2⟩ := x
              have hml2 : m.length = len := HP12.out.1
              have hpm : pre.length < m.length := by omega
              have hz6' := Hz6.out
              have hz12' := Hz12.out
              have hbx : ∀ {k : Nat} {t : TypeId} {v : Value}, Boxed w12 k t v → k < w11.heap.size → Boxed W k t v := fun {k t v} h1 h2 => (hkx.block k (by omega) (by omega)).trans h1
              have kA := hbx HkA12.out hz6'.1
              have kS := hbx HkS12.out (by omega)
              have kR := hbx HkR12.out hz6'.2
              obtain ⟨R, o, rfl, hRl, r0, r1⟩ := (HV12.out.keep hkx (fun b o e => by have := HAvR.out b o e; omega)).2 pre.length hpm
              have q1 := hn.cell
              have q2 := kA.cell
              have q3 := kS.cell
              have q4 := hn.frozen
              have q5 := kR.cell
              have q6 := kR.frozen
              have hpN : (pre.length : Int) < (j : Int) := by have := HN.out; omega
              obtain ⟨⟨y1, y2⟩, hy⟩ : ∃ y, m[pre.length]'hpm = y := ⟨_, rfl⟩
              rw [hy] at r0 r1
              obtain ⟨pl, hpl⟩ : ∃ pl, pl = pre.length := ⟨_, rfl⟩
              rw [← hpl] at q1 r0 r1 hpN
              have r0 : W.cell? ⟨R, o + pl * 2, none⟩ = some (sV y1) := r0
              have r1 : W.cell? ⟨R, o + pl * 2 + 1, none⟩ = some (sV y2) := r1
              have Hpl := Lib.hid hpl
              have Hy := Lib.hid hy
              have Hn := Lib.hid hn
              have Hkx := Lib.hid hkx
              have HkA := Lib.hid kA
              have HkR := Lib.hid kR
              clear hpl hy hn hkx kA kS kR hbx
              obtain ⟨nx, hnx⟩ : ∃ nx, nx = (pl : Int) + 1 := ⟨_, rfl⟩
              have hwr : IntKind.i64.wrap ((pl : Int) + 1) = nx := by rw [IntKind.wrap_i64, hnx]; have := Hml.out; have := HN.out; omega
              have hlen1 : ((pre ++ [(x1, x2)]).length : Int) = nx := by rw [List.length_append, hnx, Hpl.out]; rfl
              have Hlen1 := Lib.hid hlen1
              have HzN : Hid (w11.heap.size < w12.heap.size ∧ w.heap.size + 1 < w12.heap.size) := Lib.hid ⟨by omega, by omega⟩
              have hne1 : w11.heap.size ≠ w.heap.size := by omega
              have hne2 : w.heap.size ≠ w11.heap.size := by omega
              have HzB : Hid (w.heap.size ≤ w11.heap.size) := Lib.hid (by omega)
              clear hz12' hz6' hlen1 hnx
              by_cases hxy : x1 = y1 ∧ x2 = y2
              · obtain ⟨rfl, rfl⟩ := hxy
                have hkf : KeepsFrom w12.heap.size W (W.setCell ⟨w11.heap.size, 0, none⟩ (.int .i64 nx)) := KeepsFrom.of_grownBy (grown_set W w11.heap.size 0 _) (fun j e => by injection e with e; have := HzN.out.1; omega)
                have hkk : KX w11.heap.size w12.heap.size W (W.setCell ⟨w11.heap.size, 0, none⟩ (.int .i64 nx)) := ⟨by simp, fun k hk hne => Below.heap_setCell _ _ _ _ hne⟩
                have hbn : Boxed (W.setCell ⟨w11.heap.size, 0, none⟩ (.int .i64 nx)) w11.heap.size 3 (.int .i64 ((pre ++ [(x1, x2)]).length : Int)) := by rw [Hlen1.out]; exact Hn.out.set _
                have Hkf := Lib.hid hkf
                have Hkk := Lib.hid hkk
                have Hbn := Lib.hid hbn
                have Hbb : Hid (Below w.heap.size w (W.setCell ⟨w11.heap.size, 0, none⟩ (.int .i64 nx))) := Lib.hid (HbW.out.trans (below_of_grown (grown_set W w11.heap.size 0 _) HbW.out.size (by have := HzB.out; omega)))
                clear hkf hkk hbn
                by_cases hst : stop = nx
                · subst hst
                  gi_wp2
                  exact ⟨Hkf.out,   .inr ⟨rfl, Hlen1.out, Hkx.out.trans Hkk.out, Hbn.out, Hbb.out⟩⟩
                · have hst' : ¬ nx = stop := fun e => hst e.symm
                  gi_wp2
                  exact ⟨Hkf.out, Hkk.out, Hbn.out, Hkx.out.trans Hkk.out, Hbb.out⟩
              · have hcon : ¬ (sV y1 = sV x1 ∧ sV y2 = sV x2) := fun h => by
                  have e1 : y1 = x1 := by have := h.1; unfold sV at this; injection this with this; injection this with this; simpa using this
                  have e2 : y2 = x2 := by have := h.2; unfold sV at this; injection this with this; injection this with this; simpa using this
                  exact hxy ⟨e1.symm, e2.symm⟩
                gi_wp2
                all_goals first
                  | (exfalso; exact hcon ⟨by rw [‹y1 = x1›], by rw [‹y2 = x2›]⟩)
                  | skip
                all_goals
                  refine ⟨KeepsFrom.of_grownBy (grown_set W (w.heap.size + 1) 0 _) (fun j e => by injection e with e; have := HzN.out.2; omega), .inl ⟨rfl, fun hp => ?_⟩⟩
                  have h1 := hp.getElem (i := pre.length) (by simp)
                  rw [Hy.out] at h1
                  simp only [List.getElem_concat_length] at h1
                  injection h1 with h1 h2
                  exact hxy ⟨h1, h2⟩
            case done2 =>
              rintro D ys W hD rfl ⟨hn, hkx, hbW⟩ hK
              have hz12' := Hz12.out
              have hz6' := Hz6.out
              have hbx : ∀ {k : Nat} {t : TypeId} {v : Value}, Boxed w12 k t v → k < w11.heap.size → Boxed W k t v := fun {k t v} h1 h2 => (hkx.block k (by omega) (by omega)).trans h1
              have kA := hbx HkA12.out hz6'.1
              have kS := hbx HkS12.out (by omega)
              have kR := hbx HkR12.out hz6'.2
              have hDw : w.heap.size + 1 < D := by omega
              have hDl : D < W.heap.size := (Array.getElem?_eq_some_iff.1 hK).1
              have hn' := hn
              rw [← HN.out] at hn'
              have q1 := hn'.cell
              clear hn'
              have q2 := kA.cell
              have q3 := kS.cell
              have HKN := Lib.hid (HKn.out W)
              have HkR := Lib.hid kR
              have HK := Lib.hid hK
              have HbW := Lib.hid hbW
              have HDw := Lib.hid hDw
              have HDl := Lib.hid hDl
              clear hn kA kS kR hK hkx hbx hD hz12' hz6' hbW hDw hDl
              go_wp2_with fail
              refine HKN.out.mono ?_
              rintro e W2 ⟨rfl, hb2⟩
              have kR2 := HkR.out.kept (grown_of_below hb2 none) (by simp)
              have s1 := kR2.cell
              have s2 := kR2.frozen
              have hDne : D ≠ w.heap.size + 1 := by have := HDw.out; omega
              have hK2 : (W2.setCell ⟨w.heap.size + 1, 0, none⟩ (.bool true)).heap[D]? = some (.deferred (some [])) := by
                rw [Below.heap_setCell _ _ _ _ hDne, hb2.block D HDl.out]
                exact HK.out
              have hF : ∀ ob, Below w.heap.size w ((W2.setCell ⟨w.heap.size + 1, 0, none⟩ (.bool true)).putObj D ob) := fun ob => by
                have h1 : Below w.heap.size w W2 := HbW.out.trans (hb2.mono HbW.out.size)
                have h2 := h1.trans (below_of_grown (grown_set W2 (w.heap.size + 1) 0 (.bool true)) h1.size (by omega))
                exact h2.trans (below_of_grown (grownBy_putObj' _ D ob) h2.size (by have := HDw.out; omega))
              have hR5 : ∀ ob, ((W2.setCell ⟨w.heap.size + 1, 0, none⟩ (.bool true)).putObj D ob).cell? ⟨w.heap.size + 1, 0, none⟩ = some (.bool true) := fun ob => by
                rw [World.cell?_of_block (a := ⟨w.heap.size + 1, 0, none⟩) (World.putObj_heap_other (fun e => hDne e.symm))]
                exact (kR2.set (.bool true)).cell
              have HF := Lib.hid hF
              have HK2 := Lib.hid hK2
              have HR5 := Lib.hid hR5
              clear hF hK2 hR5 hb2 kR2
              go_wp2
              refine ⟨by simp, .inl ⟨_, _, rfl, run_takeDeferred HK2.out, ?_⟩⟩
              have q5 := HR5.out (.deferred none)
              exact ⟨_, (by simp [results, Tryz.results8, go_sem, HR5.out]; try rfl), rfl, HF.out _⟩
            case stop2 =>
              rintro D cd pre W hD hpre (⟨rfl, hno⟩ | ⟨rfl, hst, hkx, hn, hbW⟩) hK
              · exact absurd hpre hno
              have hz12' := Hz12.out
              have hz6' := Hz6.out
              have hbx : ∀ {k : Nat} {t : TypeId} {v : Value}, Boxed w12 k t v → k < w11.heap.size → Boxed W k t v := fun {k t v} h1 h2 => (hkx.block k (by omega) (by omega)).trans h1
              have kA := hbx HkA12.out hz6'.1
              have kS := hbx HkS12.out (by omega)
              have kR := hbx HkR12.out hz6'.2
              have hDw : w.heap.size + 1 < D := by omega
              have hDl : D < W.heap.size := (Array.getElem?_eq_some_iff.1 hK).1
              rw [hst] at hn
              have q1 := hn.cell
              clear hst
              have q2 := kA.cell
              have q3 := kS.cell
              have HKN := Lib.hid (HKn.out W)
              have HkR := Lib.hid kR
              have HK := Lib.hid hK
              have HbW := Lib.hid hbW
              have HDw := Lib.hid hDw
              have HDl := Lib.hid hDl
              clear hn kA kS kR hK hkx hbx hD hz12' hz6' hbW hDw hDl
              refine wpIn_wide.2 ?_
              go_wp2_with fail
              all_goals (
              refine HKN.out.mono ?_
              rintro e W2 ⟨rfl, hb2⟩
              have kR2 := HkR.out.kept (grown_of_below hb2 none) (by simp)
              have s1 := kR2.cell
              have s2 := kR2.frozen
              have hDne : D ≠ w.heap.size + 1 := by have := HDw.out; omega
              have hK2 : (W2.setCell ⟨w.heap.size + 1, 0, none⟩ (.bool true)).heap[D]? = some (.deferred (some [])) := by
                rw [Below.heap_setCell _ _ _ _ hDne, hb2.block D HDl.out]
                exact HK.out
              have hF : ∀ ob, Below w.heap.size w ((W2.setCell ⟨w.heap.size + 1, 0, none⟩ (.bool true)).putObj D ob) := fun ob => by
                have h1 : Below w.heap.size w W2 := HbW.out.trans (hb2.mono HbW.out.size)
                have h2 := h1.trans (below_of_grown (grown_set W2 (w.heap.size + 1) 0 (.bool true)) h1.size (by omega))
                exact h2.trans (below_of_grown (grownBy_putObj' _ D ob) h2.size (by have := HDw.out; omega))
              have hR5 : ∀ ob, ((W2.setCell ⟨w.heap.size + 1, 0, none⟩ (.bool true)).putObj D ob).cell? ⟨w.heap.size + 1, 0, none⟩ = some (.bool true) := fun ob => by
                rw [World.cell?_of_block (a := ⟨w.heap.size + 1, 0, none⟩) (World.putObj_heap_other (fun e => hDne e.symm))]
                exact (kR2.set (.bool true)).cell
              have HF := Lib.hid hF
              have HK2 := Lib.hid hK2
              have HR5 := Lib.hid hR5
              clear hF hK2 hR5 hb2 kR2
              go_wp2
              refine ⟨by simp, .inl ⟨_, _, rfl, run_takeDeferred HK2.out, ?_⟩⟩
              have q5 := HR5.out (.deferred none)
              exact ⟨_, (by simp [results, Tryz.results8, go_sem, HR5.out]; try rfl), rfl, HF.out _⟩
              )

namespace storeOrder
set_option maxRecDepth 100000 in
theorem lifted (os : Os) (started : os.Started) (H : Type) (enc : TypeId × Value → H) :
    ReturnsInHanded {} Tryz.checked os 8 .any (Rows.storeOrderSpec.pre6 enc Tryz.prog Tryz.f8 Rows.storeOrderRow.domain false) (Rows.storeOrderSpec.post enc Tryz.prog Tryz.f8 false true false false) := by
  refine law_lift started (by kernel_rfl) Tryz.func8
    (ChangeSpec.witness6 (enc := enc) (C := Tryz.checked) false ⟨#[], #[.slice none 0 0, .int .i64 0], []⟩ 8 (by kernel_rfl) (by kernel_rfl) (by kernel_rfl) (by kernel_rfl))
    rfl ?_ (by kernel_rfl) (by kernel_rfl) ?_
  · intro ds h
    match ds, h with
    | [_, _], _ => rfl
  intro W base args ds p g
  have hA := g.trod
  have hval := g.val
  rw [Tryz.params8] at hA hval
  obtain ⟨v0, vs0, d0, ds0, p0, q0, hargs, rfl, rfl, h0, r0⟩ := trodAll_cons hA
  obtain ⟨v1, vs1, d1, ds1, p1, q1, rfl, rfl, rfl, h1, r1⟩ := trodAll_cons r0
  obtain ⟨rfl, rfl, rfl⟩ := trodAll_nil r1
  obtain rfl : args = #[v0, v1] := by cases args; simp_all
  obtain ⟨A0, n0, c0, f0, rfl, hc0, hm0, hr0⟩ := given_acts5 (hval 0 42 v0 rfl rfl) h0
  obtain ⟨a1, rfl, _, _, w1⟩ := open_int Tryz.underlying3 (hval 1 3 v1 rfl rfl) h1
  have b1 := bounds_i64 w1
  exact storeOrder_walk A0 n0 c0 f0 a1 W hc0 hm0 hr0 b1.1 b1.2

theorem over : Rows.storeOrderRow.holds Tryz.pinned (OpenSpec.ofChange Rows.storeOrderSpec) :=
  OpenClaim.holds_of_wide 8 Tryz.f8 rfl rfl rfl rfl rfl rfl rfl ⟨rfl, rfl, rfl, rfl, rfl⟩ rfl rfl rfl rfl rfl (by kernel_rfl) Tryz.func8 (by kernel_rfl)
    (of_decide_eq_true (by kernel_rfl)) (by unfold Func.isWrapper; first | (rw [if_pos (by decide +kernel)]; kernel_rfl) | (rw [if_neg (by decide +kernel)]; exact ⟨rfl, rfl⟩))
    (fun os started H enc _ => lifted os started H enc)
end storeOrder

theorem StoreOrder_proved : Rows.StoreOrderSaid := storeOrder.over
#print axioms StoreOrder_proved
end Go.Proofs.YtfepjgafamaegaaGreat
