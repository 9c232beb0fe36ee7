/- OnceDoes: each answer, all that is remembered, and what was counted, are what the chapter says. -/
import Derived.Test.YtgippbbbfpkhhaaOnH
import Derived.Test.YtgippbbbfpkhhaaOnKn
import Derived.Test.YtgippbbbfpkhhaaLaw
import Derived.Test.YtgippbbbfpkhhaaOnGv
import Derived.BigQuiet
import Derived.Deep.QuietTactic
import Derived.Deep.CutRange
import Derived.Deep.RegionHeld3
namespace Go.Proofs.Ytgippbbbfpkhhaa
open Go.ChangeShapes Go.WideShapes Go.ChangeAt Go.RowKit Go.Maps

set_option maxHeartbeats 16000000 in
set_option maxRecDepth 100000 in
theorem onceDoes_walk (a0 : Int) (A1 : Option Addr) (n1 c1 : Nat) (f1 : Nat → Gl) (W : World) (_h0 : -9223372036854775808 ≤ a0) (_h1 : a0 ≤ 9223372036854775807) (hc1 : n1 ≤ c1) (hm1 : c1 ≤ 9223372036854775807) (hr1 : As13 W W.heap.size A1 n1 f1) :
    Calls Try.prog 3 #[.int .i64 a0, .slice A1 n1 c1] W fun e w' => e = .returned (.bool true) ∧ Below W.heap.size W w' := by
  have HLg := Lib.hid (long13_any hr1 ⟨hc1, hm1⟩)
  have HKn := Lib.hid (fun w => known13_any w)
  have HA1 : Hid (∀ w, Below W.heap.size W w → ∀ i, i < n1 → ∃ b o, A1 = some ⟨b, o, none⟩ ∧ (f1 i).Ok W W.heap.size ∧ w.cell? ⟨b, o + i * 4, none⟩ = some (.int .i64 (f1 i).kind) ∧ w.cell? ⟨b, o + i * 4 + 1, none⟩ = some (.int .u64 ((f1 i).id : Int)) ∧ w.cell? ⟨b, o + i * 4 + 2, none⟩ = some (.int .u64 ((f1 i).num : Int)) ∧ w.cell? ⟨b, o + i * 4 + 3, none⟩ = some (.slice (f1 i).A (f1 i).n (f1 i).c)) := Lib.hid fun w hb i hi => by
    obtain ⟨b, o, e, _, h⟩ := (hr1.below hb) (by omega)
    obtain ⟨_, h1, h2, h3, h4⟩ := h i hi
    obtain ⟨_, _, _, _, h'⟩ := hr1 (by omega)
    exact ⟨b, o, e, (h' i hi).1, h1, h2, h3, h4⟩
  clear hr1 hc1 hm1
  by_cases hm : 1 ≤ a0 ∧ a0 ≤ 64
  case neg =>
    have HN1 := Lib.hid (cnew_bad a0 W (by omega))
    have HN2 := Lib.hid (rnew_bad a0 W (by omega))
    clear hm _h0 _h1
    go_enter Try.func3, Try.ntmps3
    go_wp2_with fail
    refine HLg.out.mono ?_
    clear HLg
    rintro e w1 ⟨bl, rfl, rfl, hsmall1⟩
    clear hsmall1
    cases bl with
    | true =>
      go_wp2_with fail
      refine (HKn.out _).mono ?_
      rintro e w3 ⟨rfl, hb2⟩
      have HB2 := Lib.hid hb2
      clear hb2
      go_wp2
      go_ret
      exact ⟨rfl, HB2.out⟩
    | false =>
      go_wp2_with fail
      refine HN1.out.mono ?_
      rintro e w2 ⟨rfl, rfl⟩
      go_wp2_with fail
      refine HN2.out.mono ?_
      rintro e w3 ⟨rfl, rfl⟩
      go_wp2_with fail
      refine (HKn.out _).mono ?_
      rintro e w4 ⟨rfl, hb2⟩
      have HB2 := Lib.hid hb2
      clear hb2
      go_wp2
      go_ret
      exact ⟨rfl, HB2.out⟩
  case pos =>
  obtain ⟨M, rfl⟩ : ∃ M : Nat, a0 = (M : Int) := ⟨a0.toNat, by omega⟩
  have HNew := Lib.hid (SD.new M W (by omega))
  clear hm _h0 _h1
  go_enter Try.func3, Try.ntmps3
  go_wp2_with fail
  refine HLg.out.mono ?_
  clear HLg
  rintro e w1 ⟨bl, rfl, rfl, hsmall1⟩
  cases bl with
  | true =>
    clear hsmall1
    go_wp2_with fail
    refine (HKn.out _).mono ?_
    rintro e w3 ⟨rfl, hb2⟩
    have HB2 := Lib.hid hb2
    clear hb2
    go_wp2
    go_ret
    exact ⟨rfl, HB2.out⟩
  | false =>
  have HSm1 := Lib.hid (hsmall1 rfl)
  clear hsmall1
  go_wp2_with fail
  refine HNew.out.mono ?_
  clear HNew
  rintro e w2 ⟨g, rfl, HN2⟩
  go_wp2_with fail
  refine HN2.out.mono ?_
  clear HN2
  rintro e w3 ⟨g2, rfl, HS0⟩
  go_wp2_with fail
  go_loopg [5, 9] n1 (fun gk tv a wr => ∃ i g : Nat, .pointer (some ⟨g, 0, none⟩) = tv ∧ a = .int .i64 (i : Int) ∧ i + gk = n1 ∧ Hid (SD W g g2 wr))
  case atStart => exact ⟨0, g, rfl, rfl, by omega, HS0⟩
  case round =>
    clear HS0
    obtain ⟨i, g, rfl, rfl, hig, HS⟩ := hrel
    by_cases hlt : i < n1 ∧ i < 150
    · obtain ⟨hin, hi2⟩ := hlt
      have m1 : (i : Int) < (n1 : Int) := by omega
      have m2 : (i : Int) < 150 := by omega
      have m0 : ¬ (i : Int) < 0 := by omega
      have e5 : IntKind.i64.wrap ((i : Int) + 1) = ((i + 1 : Nat) : Int) := by rw [IntKind.wrap_i64]; omega
      obtain ⟨b, o, rfl, hOk, q0, q1, q2, q3⟩ := HA1.out wr HS.out.bel i hin
      have hsm := HSm1.out i hin (by omega)
      obtain ⟨⟨kind, id, num, val, vA, vn, vc⟩, hx⟩ : ∃ x, x = f1 i := ⟨_, rfl⟩
      rw [← hx] at hOk q0 q1 q2 q3 hsm
      obtain ⟨hk64, hid64, hnum64, hcap, hval⟩ := hOk
      dsimp only at q0 q1 q2 q3 hsm hk64 hid64 hnum64 hcap hval
      clear hx
      obtain ⟨wx, hwx⟩ : ∃ wx, wx = wr.alloc (.cells #[.int .i64 kind, .int .u64 (id : Int), .int .u64 (num : Int), .slice vA vn vc] 35) := ⟨_, rfl⟩
      obtain ⟨bx, hbx⟩ : ∃ bx, bx = wr.heap.size := ⟨_, rfl⟩
      have hkx : Bk wx bx 35 #[.int .i64 kind, .int .u64 (id : Int), .int .u64 (num : Int), .slice vA vn vc] := by rw [hwx, hbx]; exact Bk.new wr _ _
      have HBg := Lib.hid (HS.out.begin id num 35 #[.int .i64 kind, .int .u64 (id : Int), .int .u64 (num : Int), .slice vA vn vc] hid64 hnum64)
      have HEn := Lib.hid (HS.out.lent id num vA vn vc val 35 #[.int .i64 kind, .int .u64 (id : Int), .int .u64 (num : Int), .slice vA vn vc] hid64 hval hsm)
      have HSv := Lib.hid (HS.out.saves 35 #[.int .i64 kind, .int .u64 (id : Int), .int .u64 (num : Int), .slice vA vn vc])
      rw [← hwx] at HBg HEn HSv
      try rw [← hbx] at HBg
      try rw [← hbx] at HEn
      have x0 : wx.cell? ⟨bx, 0, none⟩ = some (.int .i64 kind) := hkx.cell 0
      have x1 : wx.cell? ⟨bx, 1, none⟩ = some (.int .u64 (id : Int)) := hkx.cell 1
      have x2 : wx.cell? ⟨bx, 2, none⟩ = some (.int .u64 (num : Int)) := hkx.cell 2
      have x3 : wx.cell? ⟨bx, 3, none⟩ = some (.slice vA vn vc) := hkx.cell 3
      have HWx := Lib.hid hwx
      have HBx := Lib.hid hbx
      clear hwx hbx hkx hval hcap hk64 HS
      go_upto_region 13 with (fail)
      rw [← HWx.out]
      try rw [← HBx.out]
      clear q0 q1 q2 q3 HWx
      by_cases h0 : kind = 0
      · subst h0
        as_aux_lemma =>
          clear HEn HSv
          go_wp2_with fail
          refine HBg.out.mono ?_
          clear HBg
          rintro e w5 ⟨K, A, m, c, E, rfl, HK5, HP5⟩
          clear x0 x1 x2 x3
          have y1 : w5.cell? ⟨bx, 1, none⟩ = some (.int .u64 (id : Int)) := HK5.out.cell 1
          have y2 : w5.cell? ⟨bx, 2, none⟩ = some (.int .u64 (num : Int)) := HK5.out.cell 2
          go_wp2_with fail
          refine HP5.out.mono ?_
          clear HP5
          rintro e w6 ⟨Ar, nr, cr, rfl, HSm, HSp⟩
          clear y1 y2 HK5
          have n3 : (K != K) = false := by simp
          have n4 : (E != E) = false := by simp
          go_wp2_with (go_at_call 15; refine HSm.out.mono ?_; rintro e w' ⟨rfl, rfl⟩)
          refine HSp.out.mono ?_
          clear HSp HSm
          rintro e w7 ⟨rfl, HS7⟩
          have HC := Lib.hid HS7.out.counts
          clear HS7
          go_wp2_with fail
          refine HC.out.mono ?_
          clear HC
          rintro e wk ⟨nb, na, Ax, nx, cx, rfl, HCc, HCl, HSk⟩
          go_upto_region 41 with (fail)
          go_cut [200] from 57 to 200 (fun cv wx => cv = .bool false ∧ Hid (SD W g g2 wx))
          case first =>
            have n1 : (nb != nb) = false := by simp
            have n2 : (na != na) = false := by simp
            go_region_held3 (fun W' => (W'.cell? ⟨g2, 1, none⟩ = some (.slice Ax nx cx) ∧ W'.cell? ⟨g2, 2, none⟩ = some (.int .i64 nb) ∧ W'.cell? ⟨g2, 3, none⟩ = some (.int .i64 na)) ∧ Below wk.heap.size wk W') (first | (refine HCc.out _ ?_; (repeat' (first | assumption | exact Below.refl _ _ | exact Nat.le_refl _ | apply Below.drew)); done) | go_keep)
              (first
                | (go_at_call 26; (with_reducible refine (HCl.out _ (by (repeat' (first | assumption | exact Below.refl _ _ | exact Nat.le_refl _ | apply Below.drew | exact bel_drewN (Below.refl _ _) _)))).mono ?_); (rintro e V1 ⟨A5, c5, rfl, hv1, HSm⟩); (have hd1 : Below wk.heap.size wk V1 := below_then (by (repeat' (first | assumption | exact Below.refl _ _ | exact Nat.le_refl _ | apply Below.drew | exact bel_drewN (Below.refl _ _) _))) hv1); (have hk1 := HCc.out V1 hd1))
                | (go_at_call 25; (with_reducible refine (HSm.out _ (by (repeat' (first | assumption | exact Below.refl _ _ | exact Nat.le_refl _ | apply Below.drew | exact bel_drewN (Below.refl _ _) _)))).mono ?_); (rintro e V2 ⟨rfl, hv2⟩); (have hd2 : Below wk.heap.size wk V2 := below_then (below_then hd1 (by (repeat' (first | assumption | exact Below.refl _ _ | exact Nat.le_refl _ | apply Below.drew | exact bel_drewN (Below.refl _ _) _)))) hv2); (have hk2 := HCc.out V2 hd2)))
            all_goals
              rename_i hH
              obtain ⟨_, hbW⟩ := hH
              go_wp2_with fail
              go_meet
              exact ⟨rfl, Lib.hid (HSk.out.below hbW)⟩
          case rest =>
          obtain ⟨rfl, HSz⟩ := hcut
          clear HCc HCl HSk
          go_wp2
          go_roundg (gk - 1)
          case measure => omega
          case rel => exact ⟨i + 1, g, rfl, by go_num, by omega, HSz⟩
      by_cases h1 : kind = 1
      · subst h1
        as_aux_lemma =>
          clear HEn HSv
          go_wp2_with fail
          refine HBg.out.mono ?_
          clear HBg
          rintro e w5 ⟨K, A, m, c, E, rfl, HK5, HP5⟩
          clear x0 x1 x2 x3
          have y1 : w5.cell? ⟨bx, 1, none⟩ = some (.int .u64 (id : Int)) := HK5.out.cell 1
          have y2 : w5.cell? ⟨bx, 2, none⟩ = some (.int .u64 (num : Int)) := HK5.out.cell 2
          go_wp2_with fail
          refine HP5.out.mono ?_
          clear HP5
          rintro e w6 ⟨Ar, nr, cr, rfl, HSm, HSp⟩
          clear y1 y2 HK5
          have n3 : (K != K) = false := by simp
          have n4 : (E != E) = false := by simp
          go_wp2_with (go_at_call 15; refine HSm.out.mono ?_; rintro e w' ⟨rfl, rfl⟩)
          refine HSp.out.mono ?_
          clear HSp HSm
          rintro e w7 ⟨rfl, HS7⟩
          have HC := Lib.hid HS7.out.counts
          clear HS7
          go_wp2_with fail
          refine HC.out.mono ?_
          clear HC
          rintro e wk ⟨nb, na, Ax, nx, cx, rfl, HCc, HCl, HSk⟩
          go_upto_region 41 with (fail)
          go_cut [200] from 57 to 200 (fun cv wx => cv = .bool false ∧ Hid (SD W g g2 wx))
          case first =>
            have n1 : (nb != nb) = false := by simp
            have n2 : (na != na) = false := by simp
            go_region_held3 (fun W' => (W'.cell? ⟨g2, 1, none⟩ = some (.slice Ax nx cx) ∧ W'.cell? ⟨g2, 2, none⟩ = some (.int .i64 nb) ∧ W'.cell? ⟨g2, 3, none⟩ = some (.int .i64 na)) ∧ Below wk.heap.size wk W') (first | (refine HCc.out _ ?_; (repeat' (first | assumption | exact Below.refl _ _ | exact Nat.le_refl _ | apply Below.drew)); done) | go_keep)
              (first
                | (go_at_call 26; (with_reducible refine (HCl.out _ (by (repeat' (first | assumption | exact Below.refl _ _ | exact Nat.le_refl _ | apply Below.drew | exact bel_drewN (Below.refl _ _) _)))).mono ?_); (rintro e V1 ⟨A5, c5, rfl, hv1, HSm⟩); (have hd1 : Below wk.heap.size wk V1 := below_then (by (repeat' (first | assumption | exact Below.refl _ _ | exact Nat.le_refl _ | apply Below.drew | exact bel_drewN (Below.refl _ _) _))) hv1); (have hk1 := HCc.out V1 hd1))
                | (go_at_call 25; (with_reducible refine (HSm.out _ (by (repeat' (first | assumption | exact Below.refl _ _ | exact Nat.le_refl _ | apply Below.drew | exact bel_drewN (Below.refl _ _) _)))).mono ?_); (rintro e V2 ⟨rfl, hv2⟩); (have hd2 : Below wk.heap.size wk V2 := below_then (below_then hd1 (by (repeat' (first | assumption | exact Below.refl _ _ | exact Nat.le_refl _ | apply Below.drew | exact bel_drewN (Below.refl _ _) _)))) hv2); (have hk2 := HCc.out V2 hd2)))
            all_goals
              rename_i hH
              obtain ⟨_, hbW⟩ := hH
              go_wp2_with fail
              go_meet
              exact ⟨rfl, Lib.hid (HSk.out.below hbW)⟩
          case rest =>
          obtain ⟨rfl, HSz⟩ := hcut
          clear HCc HCl HSk
          go_wp2
          go_roundg (gk - 1)
          case measure => omega
          case rel => exact ⟨i + 1, g, rfl, by go_num, by omega, HSz⟩
      by_cases h2 : kind = 2
      · subst h2
        as_aux_lemma =>
          clear HEn HSv
          go_wp2_with fail
          refine HBg.out.mono ?_
          clear HBg
          rintro e w5 ⟨K, A, m, c, E, rfl, HK5, HP5⟩
          clear x0 x1 x2 x3
          have y1 : w5.cell? ⟨bx, 1, none⟩ = some (.int .u64 (id : Int)) := HK5.out.cell 1
          have y2 : w5.cell? ⟨bx, 2, none⟩ = some (.int .u64 (num : Int)) := HK5.out.cell 2
          go_wp2_with fail
          refine HP5.out.mono ?_
          clear HP5
          rintro e w6 ⟨Ar, nr, cr, rfl, HSm, HSp⟩
          clear y1 y2 HK5
          have n3 : (K != K) = false := by simp
          have n4 : (E != E) = false := by simp
          go_wp2_with (go_at_call 15; refine HSm.out.mono ?_; rintro e w' ⟨rfl, rfl⟩)
          refine HSp.out.mono ?_
          clear HSp HSm
          rintro e w7 ⟨rfl, HS7⟩
          have HC := Lib.hid HS7.out.counts
          clear HS7
          go_wp2_with fail
          refine HC.out.mono ?_
          clear HC
          rintro e wk ⟨nb, na, Ax, nx, cx, rfl, HCc, HCl, HSk⟩
          go_upto_region 41 with (fail)
          go_cut [200] from 57 to 200 (fun cv wx => cv = .bool false ∧ Hid (SD W g g2 wx))
          case first =>
            have n1 : (nb != nb) = false := by simp
            have n2 : (na != na) = false := by simp
            go_region_held3 (fun W' => (W'.cell? ⟨g2, 1, none⟩ = some (.slice Ax nx cx) ∧ W'.cell? ⟨g2, 2, none⟩ = some (.int .i64 nb) ∧ W'.cell? ⟨g2, 3, none⟩ = some (.int .i64 na)) ∧ Below wk.heap.size wk W') (first | (refine HCc.out _ ?_; (repeat' (first | assumption | exact Below.refl _ _ | exact Nat.le_refl _ | apply Below.drew)); done) | go_keep)
              (first
                | (go_at_call 26; (with_reducible refine (HCl.out _ (by (repeat' (first | assumption | exact Below.refl _ _ | exact Nat.le_refl _ | apply Below.drew | exact bel_drewN (Below.refl _ _) _)))).mono ?_); (rintro e V1 ⟨A5, c5, rfl, hv1, HSm⟩); (have hd1 : Below wk.heap.size wk V1 := below_then (by (repeat' (first | assumption | exact Below.refl _ _ | exact Nat.le_refl _ | apply Below.drew | exact bel_drewN (Below.refl _ _) _))) hv1); (have hk1 := HCc.out V1 hd1))
                | (go_at_call 25; (with_reducible refine (HSm.out _ (by (repeat' (first | assumption | exact Below.refl _ _ | exact Nat.le_refl _ | apply Below.drew | exact bel_drewN (Below.refl _ _) _)))).mono ?_); (rintro e V2 ⟨rfl, hv2⟩); (have hd2 : Below wk.heap.size wk V2 := below_then (below_then hd1 (by (repeat' (first | assumption | exact Below.refl _ _ | exact Nat.le_refl _ | apply Below.drew | exact bel_drewN (Below.refl _ _) _)))) hv2); (have hk2 := HCc.out V2 hd2)))
            all_goals
              rename_i hH
              obtain ⟨_, hbW⟩ := hH
              go_wp2_with fail
              go_meet
              exact ⟨rfl, Lib.hid (HSk.out.below hbW)⟩
          case rest =>
          obtain ⟨rfl, HSz⟩ := hcut
          clear HCc HCl HSk
          go_wp2
          go_roundg (gk - 1)
          case measure => omega
          case rel => exact ⟨i + 1, g, rfl, by go_num, by omega, HSz⟩
      by_cases h3 : kind = 3
      · subst h3
        as_aux_lemma =>
          clear HBg HSv
          go_wp2_with fail
          refine HEn.out.mono ?_
          clear HEn
          rintro e w5 ⟨gv, cap, rfl, HK5, HP5⟩
          clear x0 x1 x2 x3
          have y1 : w5.cell? ⟨bx, 1, none⟩ = some (.int .u64 (id : Int)) := HK5.out.cell 1
          have y2 : w5.cell? ⟨bx, 2, none⟩ = some (.int .u64 (num : Int)) := HK5.out.cell 2
          go_wp2_with fail
          refine HP5.out.mono ?_
          clear HP5
          rintro e w6 ⟨r, rfl, HK6, HP6⟩
          clear y1 y2 HK5
          have z1 : w6.cell? ⟨bx, 1, none⟩ = some (.int .u64 (id : Int)) := HK6.out.cell 1
          have z2 : w6.cell? ⟨bx, 2, none⟩ = some (.int .u64 (num : Int)) := HK6.out.cell 2
          have z3 : w6.cell? ⟨bx, 3, none⟩ = some (.slice vA vn vc) := HK6.out.cell 3
          go_wp2_with fail
          refine HP6.out.mono ?_
          clear HP6
          rintro e w7 ⟨rfl, HK7, HWh, HSp⟩
          clear z1 z2 z3 HK6
          have v3 : w7.cell? ⟨bx, 3, none⟩ = some (.slice vA vn vc) := HK7.out.cell 3
          go_wp2_with fail
          refine HWh.out.mono ?_
          clear HWh
          rintro e w8 ⟨rfl, rfl⟩
          go_wp2_with fail
          refine HSp.out.mono ?_
          clear HSp v3 HK7
          rintro e w9 ⟨rfl, HS9⟩
          have n3 : (r != r) = false := by simp
          have HC := Lib.hid HS9.out.counts
          clear HS9
          go_wp2_with fail
          refine HC.out.mono ?_
          clear HC
          rintro e wk ⟨nb, na, Ax, nx, cx, rfl, HCc, HCl, HSk⟩
          go_upto_region 41 with (fail)
          go_cut [200] from 57 to 200 (fun cv wx => cv = .bool false ∧ Hid (SD W g g2 wx))
          case first =>
            have n1 : (nb != nb) = false := by simp
            have n2 : (na != na) = false := by simp
            go_region_held3 (fun W' => (W'.cell? ⟨g2, 1, none⟩ = some (.slice Ax nx cx) ∧ W'.cell? ⟨g2, 2, none⟩ = some (.int .i64 nb) ∧ W'.cell? ⟨g2, 3, none⟩ = some (.int .i64 na)) ∧ Below wk.heap.size wk W') (first | (refine HCc.out _ ?_; (repeat' (first | assumption | exact Below.refl _ _ | exact Nat.le_refl _ | apply Below.drew)); done) | go_keep)
              (first
                | (go_at_call 26; (with_reducible refine (HCl.out _ (by (repeat' (first | assumption | exact Below.refl _ _ | exact Nat.le_refl _ | apply Below.drew | exact bel_drewN (Below.refl _ _) _)))).mono ?_); (rintro e V1 ⟨A5, c5, rfl, hv1, HSm⟩); (have hd1 : Below wk.heap.size wk V1 := below_then (by (repeat' (first | assumption | exact Below.refl _ _ | exact Nat.le_refl _ | apply Below.drew | exact bel_drewN (Below.refl _ _) _))) hv1); (have hk1 := HCc.out V1 hd1))
                | (go_at_call 25; (with_reducible refine (HSm.out _ (by (repeat' (first | assumption | exact Below.refl _ _ | exact Nat.le_refl _ | apply Below.drew | exact bel_drewN (Below.refl _ _) _)))).mono ?_); (rintro e V2 ⟨rfl, hv2⟩); (have hd2 : Below wk.heap.size wk V2 := below_then (below_then hd1 (by (repeat' (first | assumption | exact Below.refl _ _ | exact Nat.le_refl _ | apply Below.drew | exact bel_drewN (Below.refl _ _) _)))) hv2); (have hk2 := HCc.out V2 hd2)))
            all_goals
              rename_i hH
              obtain ⟨_, hbW⟩ := hH
              go_wp2_with fail
              go_meet
              exact ⟨rfl, Lib.hid (HSk.out.below hbW)⟩
          case rest =>
          obtain ⟨rfl, HSz⟩ := hcut
          clear HCc HCl HSk
          go_wp2
          go_roundg (gk - 1)
          case measure => omega
          case rel => exact ⟨i + 1, g, rfl, by go_num, by omega, HSz⟩
      by_cases h4 : kind = 4
      · subst h4
        as_aux_lemma =>
          clear HBg HSv
          go_wp2_with fail
          refine HEn.out.mono ?_
          clear HEn
          rintro e w5 ⟨gv, cap, rfl, HK5, HP5⟩
          clear x0 x1 x2 x3
          have y1 : w5.cell? ⟨bx, 1, none⟩ = some (.int .u64 (id : Int)) := HK5.out.cell 1
          have y2 : w5.cell? ⟨bx, 2, none⟩ = some (.int .u64 (num : Int)) := HK5.out.cell 2
          go_wp2_with fail
          refine HP5.out.mono ?_
          clear HP5
          rintro e w6 ⟨r, rfl, HK6, HP6⟩
          clear y1 y2 HK5
          have z1 : w6.cell? ⟨bx, 1, none⟩ = some (.int .u64 (id : Int)) := HK6.out.cell 1
          have z2 : w6.cell? ⟨bx, 2, none⟩ = some (.int .u64 (num : Int)) := HK6.out.cell 2
          have z3 : w6.cell? ⟨bx, 3, none⟩ = some (.slice vA vn vc) := HK6.out.cell 3
          go_wp2_with fail
          refine HP6.out.mono ?_
          clear HP6
          rintro e w7 ⟨rfl, HK7, HWh, HSp⟩
          clear z1 z2 z3 HK6
          have v3 : w7.cell? ⟨bx, 3, none⟩ = some (.slice vA vn vc) := HK7.out.cell 3
          go_wp2_with fail
          refine HWh.out.mono ?_
          clear HWh
          rintro e w8 ⟨rfl, rfl⟩
          go_wp2_with fail
          refine HSp.out.mono ?_
          clear HSp v3 HK7
          rintro e w9 ⟨rfl, HS9⟩
          have n3 : (r != r) = false := by simp
          have HC := Lib.hid HS9.out.counts
          clear HS9
          go_wp2_with fail
          refine HC.out.mono ?_
          clear HC
          rintro e wk ⟨nb, na, Ax, nx, cx, rfl, HCc, HCl, HSk⟩
          go_upto_region 41 with (fail)
          go_cut [200] from 57 to 200 (fun cv wx => cv = .bool false ∧ Hid (SD W g g2 wx))
          case first =>
            have n1 : (nb != nb) = false := by simp
            have n2 : (na != na) = false := by simp
            go_region_held3 (fun W' => (W'.cell? ⟨g2, 1, none⟩ = some (.slice Ax nx cx) ∧ W'.cell? ⟨g2, 2, none⟩ = some (.int .i64 nb) ∧ W'.cell? ⟨g2, 3, none⟩ = some (.int .i64 na)) ∧ Below wk.heap.size wk W') (first | (refine HCc.out _ ?_; (repeat' (first | assumption | exact Below.refl _ _ | exact Nat.le_refl _ | apply Below.drew)); done) | go_keep)
              (first
                | (go_at_call 26; (with_reducible refine (HCl.out _ (by (repeat' (first | assumption | exact Below.refl _ _ | exact Nat.le_refl _ | apply Below.drew | exact bel_drewN (Below.refl _ _) _)))).mono ?_); (rintro e V1 ⟨A5, c5, rfl, hv1, HSm⟩); (have hd1 : Below wk.heap.size wk V1 := below_then (by (repeat' (first | assumption | exact Below.refl _ _ | exact Nat.le_refl _ | apply Below.drew | exact bel_drewN (Below.refl _ _) _))) hv1); (have hk1 := HCc.out V1 hd1))
                | (go_at_call 25; (with_reducible refine (HSm.out _ (by (repeat' (first | assumption | exact Below.refl _ _ | exact Nat.le_refl _ | apply Below.drew | exact bel_drewN (Below.refl _ _) _)))).mono ?_); (rintro e V2 ⟨rfl, hv2⟩); (have hd2 : Below wk.heap.size wk V2 := below_then (below_then hd1 (by (repeat' (first | assumption | exact Below.refl _ _ | exact Nat.le_refl _ | apply Below.drew | exact bel_drewN (Below.refl _ _) _)))) hv2); (have hk2 := HCc.out V2 hd2)))
            all_goals
              rename_i hH
              obtain ⟨_, hbW⟩ := hH
              go_wp2_with fail
              go_meet
              exact ⟨rfl, Lib.hid (HSk.out.below hbW)⟩
          case rest =>
          obtain ⟨rfl, HSz⟩ := hcut
          clear HCc HCl HSk
          go_wp2
          go_roundg (gk - 1)
          case measure => omega
          case rel => exact ⟨i + 1, g, rfl, by go_num, by omega, HSz⟩
      have p0 : (kind == 0) = false := by simpa using h0
      have p1 : (kind == 1) = false := by simpa using h1
      have p2 : (kind == 2) = false := by simpa using h2
      have p3 : (kind == 3) = false := by simpa using h3
      have p4 : (kind == 4) = false := by simpa using h4
      as_aux_lemma =>
        clear HBg HEn
        go_wp2_with fail
        refine HSv.out.mono ?_
        clear HSv
        rintro e w5 ⟨A, m, c, rfl, HP5⟩
        clear x0 x1 x2 x3
        go_wp2_with fail
        refine HP5.out.mono ?_
        clear HP5
        rintro e w6 ⟨A2, m2, c2, rfl, HSm, HLd⟩
        go_wp2_with (go_at_call 15; refine HSm.out.mono ?_; rintro e w' ⟨rfl, rfl⟩)
        refine HLd.out.mono ?_
        clear HLd HSm
        rintro e w7 ⟨g', rfl, f2, ⟨t2, d2⟩, f3, ⟨t3, d3⟩, HS7⟩
        have HC := Lib.hid HS7.out.counts
        clear HS7
        go_wp2_with fail
        refine HC.out.mono ?_
        clear HC
        rintro e wk ⟨nb, na, Ax, nx, cx, rfl, HCc, HCl, HSk⟩
        go_upto_region 41 with (fail)
        go_cut [200] from 57 to 200 (fun cv wx => cv = .bool false ∧ Hid (SD W g' g2 wx))
        case first =>
          have n1 : (nb != nb) = false := by simp
          have n2 : (na != na) = false := by simp
          go_region_held3 (fun W' => (W'.cell? ⟨g2, 1, none⟩ = some (.slice Ax nx cx) ∧ W'.cell? ⟨g2, 2, none⟩ = some (.int .i64 nb) ∧ W'.cell? ⟨g2, 3, none⟩ = some (.int .i64 na)) ∧ Below wk.heap.size wk W') (first | (refine HCc.out _ ?_; (repeat' (first | assumption | exact Below.refl _ _ | exact Nat.le_refl _ | apply Below.drew)); done) | go_keep)
            (first
              | (go_at_call 26; (with_reducible refine (HCl.out _ (by (repeat' (first | assumption | exact Below.refl _ _ | exact Nat.le_refl _ | apply Below.drew | exact bel_drewN (Below.refl _ _) _)))).mono ?_); (rintro e V1 ⟨A5, c5, rfl, hv1, HSm⟩); (have hd1 : Below wk.heap.size wk V1 := below_then (by (repeat' (first | assumption | exact Below.refl _ _ | exact Nat.le_refl _ | apply Below.drew | exact bel_drewN (Below.refl _ _) _))) hv1); (have hk1 := HCc.out V1 hd1))
              | (go_at_call 25; (with_reducible refine (HSm.out _ (by (repeat' (first | assumption | exact Below.refl _ _ | exact Nat.le_refl _ | apply Below.drew | exact bel_drewN (Below.refl _ _) _)))).mono ?_); (rintro e V2 ⟨rfl, hv2⟩); (have hd2 : Below wk.heap.size wk V2 := below_then (below_then hd1 (by (repeat' (first | assumption | exact Below.refl _ _ | exact Nat.le_refl _ | apply Below.drew | exact bel_drewN (Below.refl _ _) _)))) hv2); (have hk2 := HCc.out V2 hd2)))
          all_goals
            rename_i hH
            obtain ⟨_, hbW⟩ := hH
            go_wp2_with fail
            go_meet
            exact ⟨rfl, Lib.hid (HSk.out.below hbW)⟩
        case rest =>
        obtain ⟨rfl, HSz⟩ := hcut
        clear HCc HCl HSk
        go_wp2
        go_roundg (gk - 1)
        case measure => omega
        case rel => exact ⟨i + 1, g', rfl, by go_num, by omega, HSz⟩
    · have hlt' : ¬ i < n1 ∨ (i < n1 ∧ ¬ i < 150) := by omega
      clear hlt
      have HB0 := Lib.hid HS.out.bel
      clear HS
      rcases hlt' with h | ⟨h, h'⟩
      · have m1 : ¬ (i : Int) < (n1 : Int) := by omega
        go_wp2_with fail
        refine (HKn.out _).mono ?_
        rintro e wq ⟨rfl, hb4⟩
        have HB4 := Lib.hid (below_then HB0.out hb4)
        clear hb4
        go_wp2
        go_ret
        exact ⟨rfl, HB4.out⟩
      · have m1 : (i : Int) < (n1 : Int) := by omega
        have m2 : ¬ (i : Int) < 150 := by omega
        go_wp2_with fail
        refine (HKn.out _).mono ?_
        rintro e wq ⟨rfl, hb4⟩
        have HB4 := Lib.hid (below_then HB0.out hb4)
        clear hb4
        go_wp2
        go_ret
        exact ⟨rfl, HB4.out⟩
namespace onceDoes
set_option maxRecDepth 100000 in
theorem lifted (os : Os) (started : os.Started) (H : Type) (enc : TypeId × Value → H) :
    ReturnsInHanded {} Try.checked os 3 .any (Rows.onceDoesSpec.pre6 enc Try.prog Try.f3 Rows.onceDoesRow.domain false) (Rows.onceDoesSpec.post enc Try.prog Try.f3 false true false false) := by
  refine law_lift started (by kernel_rfl) Try.func3
    (ChangeSpec.witness6 (enc := enc) (C := Try.checked) false ⟨#[], #[.int .i64 0, .slice none 0 0], []⟩ 8 (by kernel_rfl) (by kernel_rfl) (by kernel_rfl) (by kernel_rfl))
    rfl ?_ (by kernel_rfl) (by kernel_rfl) ?_
  · intro ds h
    match ds, h with
    | [_, _], _ => rfl
  intro W base args ds p g
  have hA := g.trod
  have hval := g.val
  rw [Try.params3] at hA hval
  obtain ⟨v0, vs0, d0, ds0, p0, q0, hargs, rfl, rfl, h0, r0⟩ := trodAll_cons hA
  obtain ⟨v1, vs1, d1, ds1, p1, q1, rfl, rfl, rfl, h1, r1⟩ := trodAll_cons r0
  obtain ⟨rfl, rfl, rfl⟩ := trodAll_nil r1
  obtain rfl : args = #[v0, v1] := by cases args; simp_all
  obtain ⟨a0, rfl, _, _, w0⟩ := open_int Try.underlying3 (hval 0 3 v0 rfl rfl) h0
  have b0 := bounds_i64 w0
  obtain ⟨A1, n1, c1, f1, rfl, hc1, hm1, hr1⟩ := given_as13 (hval 1 22 v1 rfl rfl) h1
  exact onceDoes_walk a0 A1 n1 c1 f1 W b0.1 b0.2 hc1 hm1 hr1

theorem over : Rows.onceDoesRow.holds Try.pinned (OpenSpec.ofChange Rows.onceDoesSpec) :=
  OpenClaim.holds_of_wide 3 Try.f3 rfl rfl rfl rfl rfl rfl rfl ⟨rfl, rfl, rfl, rfl, rfl⟩ rfl rfl rfl rfl rfl (by kernel_rfl) Try.func3 (by kernel_rfl)
    (of_decide_eq_true (by kernel_rfl)) (by unfold Func.isWrapper; first | (rw [if_pos (by decide +kernel)]; kernel_rfl) | (rw [if_neg (by decide +kernel)]; exact ⟨rfl, rfl⟩))
    (fun os started H enc _ => lifted os started H enc)
end onceDoes

theorem OnceDoes_proved : Rows.OnceDoesSaid := onceDoes.over
#print axioms OnceDoes_proved
end Go.Proofs.Ytgippbbbfpkhhaa
