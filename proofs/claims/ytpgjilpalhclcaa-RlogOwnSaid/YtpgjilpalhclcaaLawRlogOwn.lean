/- RlogOwn: what comes out is its owner's; a log that is not there answers so. -/
import Derived.Test.YtpgjilpalhclcaaRlOx
namespace Go.Proofs.Ytpgjilpalhclcaa
open Go.ChangeShapes Go.WideShapes Go.ChangeAt Go.RowKit

set_option maxHeartbeats 8000000 in
set_option maxRecDepth 100000 in
theorem rlogOwn_walk (A : Option Addr) (n c : Nat) (f : Nat → Option Addr × Nat × Nat × List UInt8) (W : World) (hc1 : n ≤ c) (hc2 : c ≤ 9223372036854775807) (hA : Lsr W W.heap.size A n f) :
    Calls Try.prog 9 #[.slice A n c] W fun e W' => e = .returned (.bool true) ∧ Below W.heap.size W W' := by
  obtain ⟨i0, hi0, hz0, hz1, hz2⟩ := info_parts Try.infoBytes
  have HKn := Lib.hid (fun w => known12_any w)
  have HN := Lib.hid (ol_new W)
  have HAc : Hid (∀ w, Below W.heap.size W w → ∀ k, k < n → ∃ b o, A = some ⟨b, o, none⟩ ∧ w.cell? ⟨b, o + k, none⟩ = some (.slice (f k).1 (f k).2.1 (f k).2.2.1) ∧ Rd w W.heap.size (f k).1 (f k).2.1 (f k).2.2.2) := Lib.hid fun w hb k hk => by
    obtain ⟨b, o, e, _, hi⟩ := (hA.below hb) (by omega)
    obtain ⟨q0, _, _, q3⟩ := hi k hk
    exact ⟨b, o, e, q0, q3⟩
  obtain ⟨val, hval⟩ : ∃ val : Nat → List UInt8, val = fun j => (f j).2.2.2 := ⟨_, rfl⟩
  have HVal : Hid (∀ j, val j = (f j).2.2.2) := Lib.hid fun j => by rw [hval]
  clear hA hval
  go_enter Try.func9, Try.ntmps9
  go_wp2_with fail
  refine HN.out.mono ?_
  rintro e w2 ⟨g, F, rfl, HO⟩
  have HS0 : Hid (∃ F, OL W w2 F g ⟨0, rowN val 0⟩) := Lib.hid ⟨F, HO.out⟩
  clear HO HN
  go_upto_block 0 with (fail)
  go_cut [4, 5] from 20 (fun a b wx => ∃ i : Nat, a = .int .i64 (i : Int) ∧ b = .int .i64 (i : Int) ∧ i ≤ 30 ∧ i ≤ n ∧ Hid ((∃ F, OL W wx F g ⟨0, rowN val i⟩) ∧ ∀ j, j < i → (val j).length ≤ 100))
  case first =>
    go_wp2
    go_loopg [4, 5] n (fun gk a b wr => ∃ i : Nat, a = .int .i64 (i : Int) ∧ b = .int .i64 (i : Int) ∧ i + gk = n ∧ i ≤ 30 ∧ Hid (∃ F, OL W wr F g ⟨0, rowN val i⟩) ∧ Hid (∀ j, j < i → (val j).length ≤ 100))
    case atStart => exact ⟨0, rfl, rfl, by omega, by omega, HS0, Lib.hid fun j hj => by omega⟩
    case round =>
      obtain ⟨i, rfl, rfl, hig, hi30, HS, HV⟩ := hrel
      by_cases hlt : i < n ∧ i < 30
      · obtain ⟨hin, hi1⟩ := hlt
        have m1 : (i : Int) < (n : Int) := by omega
        have m2 : (i : Int) < 30 := by omega
        have m0 : ¬ (i : Int) < 0 := by omega
        have e5 : IntKind.i64.wrap ((i : Int) + 1) = ((i + 1 : Nat) : Int) := by rw [IntKind.wrap_i64]; omega
        obtain ⟨F, ho⟩ := HS.out
        obtain ⟨b, o, rfl, a0, hrd⟩ := HAc.out wr ho.2.2 i hin
        have hvi := HVal.out i
        rw [← hvi] at hrd
        have hvl := hrd.1
        have HLe := Lib.hid (fun (h100 : (f i).2.1 ≤ 100) => (by
          have := ho.learn (i + 1) ((i + 1 : Nat) : Int) rfl (by omega) (f i).2.2.1 (hrd.more ho.2.2.size) (by omega)
          rw [rowN_learn (by omega) (by omega)] at this
          exact this : Calls Try.prog 24 #[.pointer (some ⟨g, 0, none⟩), .int .u64 ((i + 1 : Nat) : Int), .slice (f i).1 (f i).2.1 (f i).2.2.1] wr fun e w' => e = .returned (.int .i64 0) ∧ Hid (∃ F', OL W w' F' g ⟨0, rowN val (i + 1)⟩ ∧ Mv F F' wr w')))
        have HB := Lib.hid ho.2.2
        have Hvl := Lib.hid hvl
        clear ho hrd HS hvl hvi
        generalize (f i).1 = vA at *
        generalize (f i).2.1 = vn at *
        generalize (f i).2.2.1 = vc at *
        obtain ⟨T, hT⟩ : ∃ T, T = i + 1 := ⟨_, rfl⟩
        rw [← hT] at e5 HLe
        have e6 : IntKind.u64.wrap (T : Int) = (T : Int) := by rw [IntKind.wrap_u64]; omega
        have HT := Lib.hid hT
        clear hT
        by_cases h100 : vn ≤ 100
        · have x1 : ¬ (100 : Int) < (vn : Int) := by omega
          have HLe2 := Lib.hid (HLe.out h100)
          clear HLe
          go_wp2_with fail
          refine HLe2.out.mono ?_
          rintro e w6 ⟨rfl, HX⟩
          have HS6 : Hid (∃ F, OL W w6 F g ⟨0, rowN val T⟩) := Lib.hid (by
            obtain ⟨F', ho, _⟩ := HX.out
            exact ⟨F', ho⟩)
          have HV6 : Hid (∀ j, j < T → (val j).length ≤ 100) := Lib.hid fun j hj => by
            have := HT.out
            by_cases e : j = i
            · subst e; rw [Hvl.out]; exact h100
            · exact HV.out j (by omega)
          clear HLe2 HX
          go_wp2
          go_roundg (gk - 1)
          case measure => omega
          case rel => exact ⟨T, rfl, rfl, by have := HT.out; omega, by have := HT.out; omega, HS6, HV6⟩
        · have x1 : (100 : Int) < (vn : Int) := by omega
          clear HLe
          go_wp2_with fail
          refine (HKn.out _).mono ?_
          rintro e wc ⟨rfl, hb4⟩
          have HB4 := Lib.hid (below_then HB.out hb4)
          clear hb4
          go_wp2
          go_ret
          exact ⟨rfl, HB4.out⟩
      · have hlt' : ¬ i < n ∨ (i < n ∧ ¬ i < 30) := by omega
        clear hlt
        rcases hlt' with h | ⟨h, h'⟩
        · have m1 : ¬ (i : Int) < (n : Int) := by omega
          go_wp2_with fail
          go_meet
          exact ⟨i, rfl, rfl, hi30, by omega, Lib.hid ⟨HS.out, HV.out⟩⟩
        · have m1 : (i : Int) < (n : Int) := by omega
          have m2 : ¬ (i : Int) < 30 := by omega
          go_wp2_with fail
          go_meet
          exact ⟨i, rfl, rfl, hi30, by omega, Lib.hid ⟨HS.out, HV.out⟩⟩
  case rest =>
  obtain ⟨N, rfl, rfl, hN30, hNn, HX⟩ := hcut
  have HTo : Hid (∃ F, OL W _ F g ⟨0, rowN val N⟩) := Lib.hid HX.out.1
  obtain ⟨F2, hof⟩ := HTo.out
  have HTl := Lib.hid (own_told hof hN30)
  have HVN := Lib.hid HX.out.2
  clear hof HTo HX HS0
  go_wp2_with fail
  refine HTl.out.mono ?_
  clear HTl
  rintro e w5 ⟨xA, xc, rfl, H5⟩
  go_wp2_with fail
  refine H5.out.mono ?_
  clear H5
  rintro e w6 ⟨yA, yc, rfl, H6⟩
  go_wp2_with fail
  refine H6.out.mono ?_
  clear H6
  rintro e w7 ⟨zA, zc, rfl, H7⟩
  obtain ⟨b0, b1, b2, ex, ey, ez, hOT⟩ := H7.out
  have HOT := Lib.hid hOT
  have HM0 : Hid (OwM w7 ex ey ez 0 (.slice none 0 0) w7) := Lib.hid ⟨by simpa [mix3] using World.ownsRow_nil _ _ _ _, Below.refl _ _⟩
  have HCl : Hid (∀ wr, Below w7.heap.size w7 wr → ∀ i, i < N → ∃ Rx Ry Rz, xA = some ⟨Rx, 0, none⟩ ∧ yA = some ⟨Ry, 0, none⟩ ∧ zA = some ⟨Rz, 0, none⟩ ∧
      wr.cell? ⟨Rx, i * 2 + 1, none⟩ = some (s3W (ex.getD i (⟨0, []⟩, (none, 0, 0))).2) ∧ wr.cell? ⟨Ry, i * 2 + 1, none⟩ = some (s3W (ey.getD i (⟨0, []⟩, (none, 0, 0))).2) ∧ wr.cell? ⟨Rz, i * 2 + 1, none⟩ = some (s3W (ez.getD i (⟨0, []⟩, (none, 0, 0))).2) ∧ Rx < w7.heap.size ∧ Ry < w7.heap.size ∧ Rz < w7.heap.size) := Lib.hid fun wr hb i hi => by
    obtain ⟨Rx, _, e1, h1, _, q1, _⟩ := (hOT.cx.up hb).cell i hi
    obtain ⟨Ry, _, e2, h2, _, q2, _⟩ := (hOT.cy.up hb).cell i hi
    obtain ⟨Rz, _, e3, h3, _, q3, _⟩ := (hOT.cz.up hb).cell i hi
    injection e1 with e1 _ _
    injection e2 with e2 _ _
    injection e3 with e3 _ _
    subst e1 e2 e3
    have g1 : ex.getD i (⟨0, []⟩, (none, 0, 0)) = ex[i] := by simp [List.getD, h1]
    have g2 : ey.getD i (⟨0, []⟩, (none, 0, 0)) = ey[i] := by simp [List.getD, h2]
    have g3 : ez.getD i (⟨0, []⟩, (none, 0, 0)) = ez[i] := by simp [List.getD, h3]
    rw [g1, g2, g3]
    exact ⟨Rx, Ry, Rz, rfl, rfl, rfl, q1, q2, q3, (hOT.cx.own.lt Rx rfl).2, (hOT.cy.own.lt Ry rfl).2, (hOT.cz.own.lt Rz rfl).2⟩
  clear hOT H7
  go_wp2
  go_loopg [9, 10] N (fun gk a b wr => ∃ i : Nat, b = .int .i64 (i : Int) ∧ i + gk = N ∧ (∃ A c, a = .slice A (i * 3) c) ∧ Hid (OwM w7 ex ey ez i a wr))
  case atStart => exact ⟨0, rfl, by omega, ⟨none, 0, rfl⟩, HM0⟩
  case round =>
    obtain ⟨i, rfl, hig, ⟨Aa, ca, rfl⟩, HM⟩ := hrel
    by_cases hi : i < N
    · obtain ⟨Rx, Ry, Rz, rfl, rfl, rfl, q1, q2, q3, l1, l2, l3⟩ := HCl.out wr HM.out.2 i hi
      have m1 : (i : Int) < (N : Int) := by omega
      have m0 : ¬ (i : Int) < 0 := by omega
      have e5 : IntKind.i64.wrap ((i : Int) + 1) = ((i + 1 : Nat) : Int) := by rw [IntKind.wrap_i64]; omega
      have HK3 : Hid (∀ w8, Below w7.heap.size w7 w8 → w8.cell? ⟨Rx, i * 2 + 1, none⟩ = some (s3W (ex.getD i (⟨0, []⟩, (none, 0, 0))).2) ∧ w8.cell? ⟨Ry, i * 2 + 1, none⟩ = some (s3W (ey.getD i (⟨0, []⟩, (none, 0, 0))).2) ∧ w8.cell? ⟨Rz, i * 2 + 1, none⟩ = some (s3W (ez.getD i (⟨0, []⟩, (none, 0, 0))).2)) := Lib.hid fun w8 hb => by
        obtain ⟨Rx', Ry', Rz', e1, e2, e3, j1, j2, j3, _⟩ := HCl.out w8 hb i hi
        injection e1 with e1
        injection e1 with e1
        injection e2 with e2
        injection e2 with e2
        injection e3 with e3
        injection e3 with e3
        subst e1 e2 e3
        exact ⟨j1, j2, j3⟩
      obtain ⟨vx, hvx⟩ : ∃ v, v = (ex.getD i (⟨0, []⟩, (none, 0, 0))).2 := ⟨_, rfl⟩
      obtain ⟨vy, hvy⟩ : ∃ v, v = (ey.getD i (⟨0, []⟩, (none, 0, 0))).2 := ⟨_, rfl⟩
      obtain ⟨vz, hvz⟩ : ∃ v, v = (ez.getD i (⟨0, []⟩, (none, 0, 0))).2 := ⟨_, rfl⟩
      have HSuc : Hid (mix3 ex ey ez (i + 1) = mix3 ex ey ez i ++ [s3W vx, s3W vy, s3W vz]) := Lib.hid (by rw [mix3_succ, ← hvx, ← hvy, ← hvz])
      rw [← hvx, ← hvy, ← hvz] at HK3
      rw [← hvx] at q1
      rw [← hvy] at q2
      rw [← hvz] at q3
      clear hvx hvy hvz
      obtain ⟨xA1, xN1, xC1⟩ := vx
      obtain ⟨yA1, yN1, yC1⟩ := vy
      obtain ⟨zA1, zN1, zC1⟩ := vz
      unfold s3W at q1 q2 q3 HSuc HK3
      dsimp only at q1 q2 q3 HSuc HK3
      have Q1 := Lib.hid (And.intro q1 (And.intro q2 q3))
      have HXa : Hid (∀ q o, ((wr.drewN q).alloc o).ownsRow w7.heap.size 33 1 (.slice Aa (i * 3) ca) (i * 3) (mix3 ex ey ez i)) := Lib.hid fun q o => (show (wr.drewN q).ownsRow w7.heap.size 33 1 (.slice Aa (i * 3) ca) (i * 3) (mix3 ex ey ez i) from HM.out.1).alloc o
      have HBa : Hid (∀ q o, Below w7.heap.size w7 ((wr.drewN q).alloc o)) := Lib.hid fun q o => (bel_drewN HM.out.2 q).alloc HM.out.2.size o
      have Hls : Hid (w7.heap.size ≤ wr.heap.size ∧ Rx < w7.heap.size ∧ Ry < w7.heap.size ∧ Rz < w7.heap.size) := Lib.hid ⟨HM.out.2.size, l1, l2, l3⟩
      clear HM HM0 l1 l2 l3
      go_wp2_with fail
      go_region_held3 (fun w' => w'.cell? ⟨Rx, i * 2 + 1, none⟩ = some (.slice xA1 xN1 xC1) ∧ w'.cell? ⟨Ry, i * 2 + 1, none⟩ = some (.slice yA1 yN1 yC1) ∧ w'.cell? ⟨Rz, i * 2 + 1, none⟩ = some (.slice zA1 zN1 zC1)) (first | exact ⟨q1, q2, q3⟩ | exact ⟨k1, k2, k3⟩ | go_keep)
        (first | ((refine step_append_app _ rfl _ _ 50 (by rfl) w7.heap.size 33 i0 (.slice none 0 0) 1 24 Try.underlying50 hi0 hz0 hz1 hz2 rfl _ (i * 3) _ (by rfl) (HXa.out 1 _) (some ⟨wr.heap.size, 0, none⟩) 3 3 [.slice xA1 xN1 xC1, .slice yA1 yN1 yC1, .slice zA1 zN1 zC1] (by rfl) rfl (by intro e; cases e) (new_cells (wr.drewN 1) _ 33 rfl) (by intro u hu; simp at hu; rcases hu with rfl | rfl | rfl <;> rfl) (by unfold maxLen; omega) (by omega) (HBa.out 1 _).size ?_); intro v' w8 ha; (have hb8 := ha.below (HBa.out 1 _) (HBa.out 1 _).size (own_block_ge (HXa.out 1 (.cells #[] 0)))); (obtain ⟨k1, k2, k3⟩ := HK3.out w8 hb8)))
      have HM8 : Hid (OwM w7 ex ey ez (i + 1) v' w8) := Lib.hid ⟨by
        have := ha.own
        rw [← HSuc.out] at this
        rw [Nat.succ_mul]
        exact this, hb8⟩
      obtain ⟨A8, c8, rfl, _⟩ := own_shape HM8.out.1
      clear ha hb8 k1 k2 k3 q1 q2 q3 HXa HBa
      go_wp2
      go_roundg (gk - 1)
      case measure => omega
      case rel => exact ⟨i + 1, by go_num, by omega, ⟨A8, c8, rfl⟩, HM8⟩
    · obtain rfl : i = N := by omega
      have m1 : ¬ (i : Int) < (i : Int) := by omega
      have HOw := Lib.hid (HOT.out.own HM.out hN30 HVN.out)
      clear HOT HM HM0 HCl
      go_wp2_with fail
      refine HOw.out.mono ?_
      clear HOw
      rintro e w8 ⟨rfl, H8⟩
      go_wp2_with fail
      refine H8.out.mono ?_
      clear H8
      rintro e w9 ⟨A9, c9, rfl, HB9, HX9⟩
      go_wp2
      go_loopg [12] i (fun gk a wr => ∃ j : Nat, a = .int .i64 (j : Int) ∧ j + gk = i ∧ Hid (Below w9.heap.size w9 wr))
      case atStart => exact ⟨0, rfl, by omega, Lib.hid (Below.refl _ _)⟩
      case round =>
        obtain ⟨j, rfl, hjg, HW⟩ := hrel
        by_cases hj : j < i
        · obtain ⟨R, s, rfl, q0, hr⟩ := HX9.out j hj
          replace q0 := (HW.out.cell (p := ⟨R, j * 2 + 1, none⟩) (World.block_lt_of_cell? w9 _ q0)).trans q0
          replace hr := hr.up HW.out
          obtain ⟨b, o, rfl, q1, hr2⟩ := HAc.out wr (below_then HB9.out HW.out) j (by omega)
          rw [← HVal.out j] at hr2
          have HSm : Hid (∀ q, Calls Try.prog 27 #[.slice s.1 s.2.1 s.2.2, .slice (f j).1 (f j).2.1 (f j).2.2.1] (wr.drewN q) fun e w' => e = .returned (.bool true) ∧ w' = wr.drewN q) := Lib.hid fun q => by
            refine (same_any s.1 (f j).1 s.2.1 (f j).2.1 s.2.2 (f j).2.2.1 _ _ (val j) (val j) (wr.drewN q) (hr.drewN q) (hr2.drewN q)).mono ?_
            rintro e w' ⟨rfl, rfl⟩
            exact ⟨by simp, rfl⟩
          have m1 : (j : Int) < (i : Int) := by omega
          have m0 : ¬ (j : Int) < 0 := by omega
          have m3 : (j : Int) < (n : Int) := by omega
          have e5 : IntKind.i64.wrap ((j : Int) + 1) = ((j + 1 : Nat) : Int) := by rw [IntKind.wrap_i64]; omega
          obtain ⟨sA, sN, sC⟩ := s
          unfold s3W at q0
          dsimp only at q0 HSm
          clear hr hr2
          generalize (f j).1 = vA at *
          generalize (f j).2.1 = vn at *
          generalize (f j).2.2.1 = vc at *
          go_wp2_with fail
          go_quiet ((go_at_call 27; exact Calls.quiet_of_same (HSm.out _)))
          go_wp2
          go_roundg (gk - 1)
          case measure => omega
          case rel => exact ⟨j + 1, by go_num, by omega, Lib.hid (bel_drewN HW.out _)⟩
        · obtain rfl : j = i := by omega
          have m1 : ¬ (j : Int) < (j : Int) := by omega
          have n1 := Lib.hid (eapply_nil wr)
          unfold enV s3W at n1
          dsimp only at n1
          have n2 : Hid (∀ w, Calls Try.prog 24 #[.pointer none, .int .u64 1, .slice none 0 0] w fun e w' => e = .returned (.int .i64 1) ∧ w = w') := Lib.hid fun w => elearn_nil none 0 0 1 w
          have n3 := Lib.hid (fun w => eapplied_nil w)
          have n4 := Lib.hid (fun w => enext_nil w)
          have n5 := Lib.hid (fun w => etop_nil w)
          have n6 := Lib.hid (fun w => eholes_nil 9 w)
          have n7 : Hid (∀ w, Calls Try.prog 20 #[.pointer none, .int .u64 0, .int .i64 9] w fun e w' => e = .returned (.slice none 0 0) ∧ w = w') := Lib.hid fun w => ecatch_nil 0 9 w
          have n8 : Hid (∀ w, Calls Try.prog 31 #[.pointer none, .int .u64 9] w fun e w' => e = .returned (.int .i64 0) ∧ w = w') := Lib.hid fun w => etrim_nil 9 w
          have n9 : Hid (∀ w, Calls Try.prog 29 #[.pointer none, .int .u64 9] w fun e w' => e = .returned (.bool false) ∧ w = w') := Lib.hid fun w => einstall_nil 9 w
          have HBw := Lib.hid (below_then HB9.out HW.out)
          clear HX9 HB9
          go_wp2_with fail
          refine n1.out.mono ?_
          rintro e wa ⟨rfl, hba⟩
          have HBa := Lib.hid (below_then HBw.out hba)
          clear hba
          go_wp2_with fail
          refine (n2.out _).mono ?_
          rintro e w ⟨rfl, rfl⟩
          go_wp2_with fail
          refine (n3.out _).mono ?_
          rintro e w ⟨rfl, rfl⟩
          go_wp2_with fail
          refine (n4.out _).mono ?_
          rintro e w ⟨rfl, rfl⟩
          go_wp2_with fail
          refine (n5.out _).mono ?_
          rintro e w ⟨rfl, rfl⟩
          go_wp2_with fail
          refine (n6.out _).mono ?_
          rintro e w ⟨rfl, rfl⟩
          go_wp2_with fail
          refine (n7.out _).mono ?_
          rintro e w ⟨rfl, rfl⟩
          go_wp2_with fail
          refine (n8.out _).mono ?_
          rintro e w ⟨rfl, rfl⟩
          go_wp2_with fail
          refine (n9.out _).mono ?_
          rintro e w ⟨rfl, rfl⟩
          go_wp2_with fail
          refine (HKn.out _).mono ?_
          rintro e wc ⟨rfl, hb4⟩
          have HB4 := Lib.hid (below_then (below_then HBa.out (bel1L wa _)) hb4)
          clear hb4
          go_wp2
          go_ret
          exact ⟨rfl, HB4.out⟩
namespace rlogOwn
set_option maxRecDepth 100000 in
theorem lifted (os : Os) (started : os.Started) (H : Type) (enc : TypeId × Value → H) :
    ReturnsInHanded {} Try.checked os 9 .any (Rows.rlogOwnSpec.pre6 enc Try.prog Try.f9 Rows.rlogOwnRow.domain false) (Rows.rlogOwnSpec.post enc Try.prog Try.f9 false true false false) := by
  refine law_lift started (by kernel_rfl) Try.func9
    (ChangeSpec.witness6 (enc := enc) (C := Try.checked) false ⟨#[], #[.slice none 0 0], []⟩ 8 (by kernel_rfl) (by kernel_rfl) (by kernel_rfl) (by kernel_rfl))
    rfl ?_ (by kernel_rfl) (by kernel_rfl) ?_
  · intro ds h
    match ds, h with
    | [_], _ => rfl
  intro W base args ds p g
  have hA := g.trod
  have hval := g.val
  rw [Try.params9] at hA hval
  obtain ⟨v0, vs0, d0, ds0, p0, q0, hargs, rfl, rfl, h0, r0⟩ := trodAll_cons hA
  obtain ⟨rfl, rfl, rfl⟩ := trodAll_nil r0
  obtain rfl : args = #[v0] := by cases args; simp_all
  obtain ⟨A0, n0, c0, f0, rfl, hc0, hm0, hr0⟩ := given_lsr (hval 0 50 v0 rfl rfl) h0
  exact rlogOwn_walk A0 n0 c0 f0 W hc0 hm0 hr0

theorem over : Rows.rlogOwnRow.holds Try.pinned (OpenSpec.ofChange Rows.rlogOwnSpec) :=
  OpenClaim.holds_of_wide 9 Try.f9 rfl rfl rfl rfl rfl rfl rfl ⟨rfl, rfl, rfl, rfl, rfl⟩ rfl rfl rfl rfl rfl (by kernel_rfl) Try.func9 (by kernel_rfl)
    (of_decide_eq_true (by kernel_rfl)) (by unfold Func.isWrapper; first | (rw [if_pos (by decide +kernel)]; kernel_rfl) | (rw [if_neg (by decide +kernel)]; exact ⟨rfl, rfl⟩))
    (fun os started H enc _ => lifted os started H enc)
end rlogOwn

theorem RlogOwn_proved : Rows.RlogOwnSaid := rlogOwn.over
#print axioms RlogOwn_proved
end Go.Proofs.Ytpgjilpalhclcaa
