/- BeatPlays: for every input law14.BeatPlays answers true: New refuses what the document refuses, and beside every life the view answers as the document's. Conditions: the library's table lies where the program's text lays it (the card ties it). -/
import Derived.Test.YtmdjdnibblebcaaDoorBtPl
import Derived.Test.YtmdjdnibblebcaaDoorLawT
import Derived.Test.YtmdjdnibblebcaaDoorDActs
namespace Go.Proofs.YtmdjdnibblebcaaDoor
open Go.RowKit Go.ChangeShapes Go.WideShapes Go.ChangeAt

set_option maxRecDepth 100000 in
set_option maxHeartbeats 8000000 in
theorem beatPlays_walk (A : Option Addr) (n c : Nat) (l : List Int) (me : Int) (pat : Int) (A3 : Option Addr) (n3 c3 : Nat) (l3 : List Int) (home : Int) (w : World) (_ : n ≤ c) (_ : c ≤ 9223372036854775807) (hr : RdI w w.heap.size A n l)
    (_ : -9223372036854775808 ≤ me) (_ : me ≤ 9223372036854775807) (_ : -9223372036854775808 ≤ pat) (_ : pat ≤ 9223372036854775807) (hc3 : n3 ≤ c3) (hm3 : c3 ≤ 9223372036854775807) (hr3 : RdI w w.heap.size A3 n3 l3) (_ : -9223372036854775808 ≤ home) (_ : home ≤ 9223372036854775807) (hT : Tz w) :
    Calls Tryd.prog 3 #[.slice A n c, .int .i64 me, .int .i64 pat, .slice A3 n3 c3, .int .i64 home] w fun e w' => e = .returned (.bool true) ∧ Below w.heap.size w w' := by
  have HT := Lib.hid hT
  have HR := Lib.hid hr
  have HR3 := Lib.hid hr3
  have HL3 := Lib.hid hr3.1
  by_cases h40 : 40 < n
  · have m1 : (40 : Int) < (n : Int) := by omega
    have HK := Lib.hid (known14_any w hT)
    clear hT hr hr3
    go_enter Tryd.func3, Tryd.ntmps3
    go_wp2_with fail
    refine HK.out.mono ?_
    rintro e w1 ⟨rfl, hb⟩
    go_wp2
    go_ret
    exact ⟨rfl, hb⟩
  have m1 : ¬ (40 : Int) < (n : Int) := by omega
  cases hg : rightN l me pat with
  | false =>
    have HV := Lib.hid (new_bad A n c w l me pat (by omega) hr hg)
    have HQ : Hid (∀ W', Below w.heap.size w W' → Calls Tryd.prog 12 #[.slice A n c, .int .i64 me, .int .i64 pat] W' fun e w' => e = .returned (.tuple #[.pointer none, .int .i64 2]) ∧ Below w.heap.size w w') := Lib.hid fun W' hb => by
      refine (rnew_any A n c W' l me pat (by omega) (hr.up hb)).mono ?_
      intro e w' h
      unfold RNewE at h
      rw [if_neg (by rw [hg]; simp)] at h
      exact ⟨h.1, below_then hb h.2⟩
    clear hT hr hr3 hg
    go_enter Tryd.func3, Tryd.ntmps3
    go_wp2_with fail
    refine HV.out.mono ?_
    rintro e w1 ⟨rfl, hb1⟩
    have H2 := Lib.hid (HQ.out w1 hb1)
    clear HV HQ
    go_wp2_with fail
    refine H2.out.mono ?_
    rintro e w2 ⟨rfl, hb2⟩
    have HK := Lib.hid (known14_any w2 (HT.out.below hb2 HT.out.lt))
    clear H2 hb1
    go_wp2_with fail
    refine HK.out.mono ?_
    rintro e w3 ⟨rfl, hb3⟩
    have hb4 := below_then hb2 hb3
    clear HK hb2 hb3
    go_wp2
    go_ret
    exact ⟨rfl, hb4⟩
  | true =>
  have hgi := hg
  unfold rightN at hgi
  simp only [Bool.and_eq_true, decide_eq_true_eq, Bool.not_eq_true'] at hgi
  obtain ⟨⟨⟨⟨⟨⟨g1, g2⟩, g3⟩, g4⟩, g5⟩, g6⟩, g7⟩ := hgi
  obtain ⟨meN, rfl⟩ := Int.eq_ofNat_of_zero_le g4
  obtain ⟨patN, rfl⟩ := Int.eq_ofNat_of_zero_le (show 0 ≤ pat by omega)
  have HV := Lib.hid (new_ok A n c w l meN patN hr hg)
  have HQ : Hid (∀ g b c9 W', PV W' g b c9 (mkV l meN patN) → w.heap.size ≤ g → w.heap.size ≤ b → Below w.heap.size w W' → Calls Tryd.prog 12 #[.slice A n c, .int .i64 (meN : Int), .int .i64 (patN : Int)] W' fun e w' =>
      ∃ q s2 cs t2 ct, e = .returned (.tuple #[.pointer (some ⟨q, 0, none⟩), .int .i64 0]) ∧ Hid (PlS w w' g b c9 q s2 cs t2 ct (mkV l meN patN) (mkV l meN patN) 0)) := Lib.hid fun g b c9 W' hp e1 e2 hb => by
    refine (rnew_any A n c W' l meN patN (by omega) (hr.up hb)).mono ?_
    intro e w' h
    unfold RNewE at h
    rw [if_pos hg] at h
    obtain ⟨q, s2, cs, t2, ct, h9, rfl, H⟩ := h
    obtain ⟨k1, k2, k3, k4, k5⟩ := H.out
    rw [Int.toNat_natCast, Int.toNat_natCast] at k1
    have hlt := hp.lt
    have hsz := hb.size
    exact ⟨q, s2, cs, t2, ct, rfl, Lib.hid ⟨hp.below k5, ⟨0, h9, k1⟩, below_then hb k5, ⟨e1, e2, by omega, by omega, by omega⟩, ⟨by omega, by omega, by omega, by omega, by omega, by omega⟩⟩⟩
  obtain ⟨v0, hv0⟩ : ∃ v0, v0 = mkV l meN patN := ⟨_, rfl⟩
  unfold NewE at HV
  rw [← hv0] at HV HQ
  clear hT hr hr3 hg hv0 g1 g2 g3 g4 g5 g6 g7
  go_enter Tryd.func3, Tryd.ntmps3
  go_wp2_with fail
  refine HV.out.mono ?_
  rintro e w1 ⟨g, b, c9, rfl, H1⟩
  have H2 := Lib.hid (HQ.out g b c9 w1 H1.out.1 H1.out.2.1 H1.out.2.2.1 H1.out.2.2.2)
  clear HV HQ H1
  go_wp2_with fail
  refine H2.out.mono ?_
  rintro e w2 ⟨q, s2, cs, t2, ct, rfl, HP⟩
  clear H2
  go_upto_region 9 with (fail)
  go_wp2_with fail
  go_loopg [15] (min n3 300) (fun gk a wr => ∃ i : Nat, a = .int .i64 (i : Int) ∧ i + gk = min n3 300 ∧ ∃ v now, Hid (PlS w wr g b c9 q s2 cs t2 ct v v now ∧ now ≤ i))
  case atStart => exact ⟨0, rfl, by omega, _, _, Lib.hid ⟨HP.out, Nat.le_refl _⟩⟩
  case round =>
    clear HP
    obtain ⟨i, rfl, hig, v, now, HI⟩ := hrel
    by_cases hin : i < min n3 300
    · have i1 : (i : Int) < (n3 : Int) := by omega
      have i2 : (i : Int) < 300 := by omega
      have i0 : ¬ (i : Int) < 0 := by omega
      have e1 : IntKind.i64.wrap ((i : Int) + 1) = ((i + 1 : Nat) : Int) := by rw [IntKind.wrap_i64]; omega
      have hil : i < l3.length := by rw [HL3.out]; omega
      have HRc : Hid (∃ b9 o9, A3 = some ⟨b9, o9, none⟩ ∧ ∀ W', Below w.heap.size w W' → W'.cell? ⟨b9, o9 + i, none⟩ = some (.int .i64 l3[i])) := Lib.hid (by
        obtain ⟨b9, o9, e9, hb9, hc9⟩ := HR3.out.2.2 (by omega)
        exact ⟨b9, o9, e9, fun W' hb => (hb.cell (p := ⟨b9, o9 + i, none⟩) hb9).trans (hc9 i hil)⟩)
      obtain ⟨b9, o9, rfl, hQ⟩ := HRc.out
      obtain ⟨x, hx⟩ : ∃ x, x = l3[i] := ⟨_, rfl⟩
      rw [← hx] at hQ
      have HQ := Lib.hid hQ
      have q0 := HQ.out wr HI.out.1.bel
      obtain ⟨gko, hgko⟩ : ∃ z, z = gk := ⟨_, rfl⟩
      subst hgko
      clear hx HRc hQ
      go_upto_if 70 with (fail)
      go_cut [10, 16, 17] from 56 to 149 (fun _r _e _f wx => ∃ v2 now2, Hid (PlS w wx g b c9 q s2 cs t2 ct v2 v2 now2 ∧ now2 ≤ i + 1))
      case first =>
        by_cases hx0 : x < 0
        · have HC1 := Lib.hid HI.out.1.tickB
          go_wp2_with fail
          refine HC1.out.mono ?_
          rintro e w5 ⟨rfl, H5⟩
          have HC2 := Lib.hid (H5.out.tickR (by have := HI.out.2; omega))
          clear HC1
          go_wp2_with fail
          refine HC2.out.mono ?_
          rintro e w6 ⟨rfl, H6⟩
          clear HC2
          go_wp2
          go_meet
          exact ⟨_, _, Lib.hid ⟨H6.out, by have := HI.out.2; omega⟩⟩
        · have HC1 := Lib.hid (HI.out.1.hearB x)
          obtain ⟨y, hy⟩ : ∃ y : Int, y = if 0 ≤ x ∧ x < (v.n : Int) then (0 : Int) else 2 := ⟨_, rfl⟩
          rw [← hy] at HC1
          go_wp2_with fail
          refine HC1.out.mono ?_
          rintro e w5 ⟨rfl, H5⟩
          have HC2 := Lib.hid (H5.out.hearR x)
          rw [← hy] at HC2
          have q1 := HQ.out w5 H5.out.bel
          have hyy : (y != y) = false := by simp
          clear HC1 hy q0
          go_wp2_with fail
          refine HC2.out.mono ?_
          rintro e w6 ⟨rfl, H6⟩
          clear HC2 q1
          go_wp2
          go_meet
          exact ⟨_, _, Lib.hid ⟨H6.out, by have := HI.out.2; omega⟩⟩
      case rest =>
      obtain ⟨v2, now2, HS⟩ := hcut
      clear q0 HI
      have HO := Lib.hid (HS.out.1.orderB HT.out home)
      go_wp2_with fail
      refine HO.out.mono ?_
      rintro e wx ⟨Ax, cx, rfl, H5⟩
      have HO2 := Lib.hid (H5.out.1.orderR home H5.out.2)
      clear HO
      go_wp2_with fail
      refine HO2.out.mono ?_
      rintro e wy ⟨ky, cy, rfl, HX⟩
      have HUb := Lib.hid HX.out.upB
      have HUr := Lib.hid HX.out.upR
      have HCb := Lib.hid HX.out.calmB
      have HCr := Lib.hid HX.out.calmR
      have HSb := Lib.hid (HX.out.sinceB x)
      have HSr := Lib.hid (HX.out.sinceR x)
      have HZb := Lib.hid (HX.out.sinceB 0)
      have HZr := Lib.hid (HX.out.sinceR 0)
      have HLb := Lib.hid (HX.out.leadB HT.out)
      have HSx := Lib.hid (HX.out.sameX cx cy)
      have HNp : Hid (0 < (v2.order home).length) := Lib.hid (List.length_pos_iff.2 (Vw.order_ne HX.out.s.pv.ok home))
      have HFin : Hid (∀ W', Below wy.heap.size wy W' → PlS w W' g b c9 q s2 cs t2 ct v2 v2 now2 ∧ now2 ≤ i + 1) := Lib.hid fun W' hb => ⟨(HX.out.below hb).s, HS.out.2⟩
      obtain ⟨N, hN⟩ : ∃ N, N = (v2.order home).length := ⟨_, rfl⟩
      obtain ⟨U, hU⟩ : ∃ U : Nat, U = v2.up := ⟨_, rfl⟩
      obtain ⟨C, hC⟩ : ∃ C : Nat, C = v2.calm := ⟨_, rfl⟩
      obtain ⟨X1, hX1⟩ : ∃ X1 : Int, X1 = v2.sinceI x := ⟨_, rfl⟩
      obtain ⟨X2, hX2⟩ : ∃ X2 : Int, X2 = v2.sinceI 0 := ⟨_, rfl⟩
      obtain ⟨Y, hY⟩ : ∃ Y : Nat, Y = v2.lead home := ⟨_, rfl⟩
      have HCc : Hid (∀ W', Below wy.heap.size wy W' → (W'.cell? ⟨b9, o9 + i, none⟩ = some (.int .i64 x) ∧ W'.cell? ⟨ky, 0, none⟩ = some (.int .i64 (Y : Int))) ∧ Below wy.heap.size wy W') := Lib.hid fun W' hb =>
        ⟨⟨HQ.out W' (HX.out.s.bel.trans (hb.mono HX.out.s.bel.size)), by rw [hY]; exact (HX.out.below hb).c0⟩, hb⟩
      rw [← hN] at HSx HNp
      rw [← hN]
      rw [← hU] at HUb HUr
      rw [← hC] at HCb HCr
      rw [← hX1] at HSb HSr
      rw [← hX2] at HZb HZr
      rw [← hY] at HLb
      have p1 : ((U : Int) != (U : Int)) = false := by simp
      have p2 : ((C : Int) != (C : Int)) = false := by simp
      have p3 : (X1 != X1) = false := by simp
      have p4 : (X2 != X2) = false := by simp
      have p5 : ((Y : Int) != (Y : Int)) = false := by simp
      have p6 : ((N : Int) == 0) = false := by have := HNp.out; simp; omega
      have p7 : 0 < N := HNp.out
      have p8 : (0 : Int) < (N : Int) := by omega
      clear HO2 H5 HX HS hN hU hC hX1 hX2 hY HNp
      go_wp2_with fail
      go_region_held3 (fun W' => (W'.cell? ⟨b9, o9 + i, none⟩ = some (.int .i64 x) ∧ W'.cell? ⟨ky, 0, none⟩ = some (.int .i64 (Y : Int))) ∧ Below wy.heap.size wy W') (first | (refine HCc.out _ ?_; (repeat' (first | assumption | exact Below.refl _ _ | exact Nat.le_refl _ | apply Below.drew)); done) | go_keep)
        (first
          | (go_at_call 19; (with_reducible refine (HUb.out _ (by (repeat' (first | assumption | exact Below.refl _ _ | exact Nat.le_refl _ | apply Below.drew | exact bel_drewN (Below.refl _ _) _)))).mono ?_); (rintro e V1 ⟨rfl, hd1⟩); (have hk1 := HCc.out V1 hd1))
          | (go_at_call 20; (with_reducible refine (HUr.out _ (by (repeat' (first | assumption | exact Below.refl _ _ | exact Nat.le_refl _ | apply Below.drew | exact bel_drewN (Below.refl _ _) _)))).mono ?_); (rintro e V2 ⟨rfl, hd2⟩); (have hk2 := HCc.out V2 hd2))
          | (go_at_call 21; (with_reducible refine (HCb.out _ (by (repeat' (first | assumption | exact Below.refl _ _ | exact Nat.le_refl _ | apply Below.drew | exact bel_drewN (Below.refl _ _) _)))).mono ?_); (rintro e V3 ⟨rfl, hd3⟩); (have hk3 := HCc.out V3 hd3))
          | (go_at_call 22; (with_reducible refine (HCr.out _ (by (repeat' (first | assumption | exact Below.refl _ _ | exact Nat.le_refl _ | apply Below.drew | exact bel_drewN (Below.refl _ _) _)))).mono ?_); (rintro e V4 ⟨rfl, hd4⟩); (have hk4 := HCc.out V4 hd4))
          | (go_at_call 23; (with_reducible refine (HSb.out _ (by (repeat' (first | assumption | exact Below.refl _ _ | exact Nat.le_refl _ | apply Below.drew | exact bel_drewN (Below.refl _ _) _)))).mono ?_); (rintro e V5 ⟨rfl, hd5⟩); (have hk5 := HCc.out V5 hd5))
          | (go_at_call 24; (with_reducible refine (HSr.out _ (by (repeat' (first | assumption | exact Below.refl _ _ | exact Nat.le_refl _ | apply Below.drew | exact bel_drewN (Below.refl _ _) _)))).mono ?_); (rintro e V6 ⟨rfl, hd6⟩); (have hk6 := HCc.out V6 hd6))
          | (go_at_call 23; (with_reducible refine (HZb.out _ (by (repeat' (first | assumption | exact Below.refl _ _ | exact Nat.le_refl _ | apply Below.drew | exact bel_drewN (Below.refl _ _) _)))).mono ?_); (rintro e V7 ⟨rfl, hd7⟩); (have hk7 := HCc.out V7 hd7))
          | (go_at_call 24; (with_reducible refine (HZr.out _ (by (repeat' (first | assumption | exact Below.refl _ _ | exact Nat.le_refl _ | apply Below.drew | exact bel_drewN (Below.refl _ _) _)))).mono ?_); (rintro e V8 ⟨rfl, hd8⟩); (have hk8 := HCc.out V8 hd8))
          | (go_at_call 25; (with_reducible refine (HSx.out _ (by (repeat' (first | assumption | exact Below.refl _ _ | exact Nat.le_refl _ | apply Below.drew | exact bel_drewN (Below.refl _ _) _)))).mono ?_); (rintro e V9 ⟨rfl, hd9⟩); (have hk9 := HCc.out V9 hd9))
          | (go_at_call 26; (with_reducible refine (HLb.out _ (by (repeat' (first | assumption | exact Below.refl _ _ | exact Nat.le_refl _ | apply Below.drew | exact bel_drewN (Below.refl _ _) _)))).mono ?_); (rintro e V10 ⟨rfl, hd10⟩); (have hk10 := HCc.out V10 hd10)))
      all_goals
        rename_i hH
        obtain ⟨_, hbW⟩ := hH
        have HN := Lib.hid (HFin.out _ hbW)
        clear HUb HUr HCb HCr HSb HSr HZb HZr HLb HSx HFin HCc p1 p2 p3 p4 p5 p6 p7 p8
        go_wp2
        go_roundg (gko - 1)
        case measure => omega
        case rel => exact ⟨i + 1, by go_num, by omega, _, _, HN⟩
    · have hcase : (¬ (i : Int) < (n3 : Int)) ∨ ((i : Int) < (n3 : Int) ∧ ¬ (i : Int) < 300) := by omega
      have HK := Lib.hid (known14_any wr (HT.out.below HI.out.1.bel HT.out.lt))
      have HB := Lib.hid HI.out.1.bel
      clear hin hig HI
      rcases hcase with i1 | ⟨i1, i2⟩
      all_goals
        go_wp2_with fail
        refine HK.out.mono ?_
        rintro e w7 ⟨rfl, hb7⟩
        have HB7 : Hid (Below w.heap.size w w7) := Lib.hid (HB.out.trans (hb7.mono HB.out.size))
        clear hb7 HK
        go_wp2
        go_ret
        exact ⟨rfl, HB7.out⟩

namespace beatPlays
set_option maxRecDepth 100000 in
theorem lifted (os : Os) (started : os.Started) (H : Type) (enc : TypeId × Value → H) (F : Stop.Interp) :
    ReturnsInHanded {} Tryd.checked os 3 .any ((OpenSpec.ofChange Rows.beatPlaysSpec).preRow enc Tryd.prog Tryd.f3 Rows.beatPlaysRow.domain false Rows.beatPlaysRow.laid) (((OpenSpec.ofChange Rows.beatPlaysSpec).at F).post enc Tryd.prog Tryd.f3 false true false false) := by
  have hs : (DataW.whole enc Tryd.prog ((laidWorld os).forCall (fun _ _ => 0) ⟨#[], #[.slice none 0 0, .int .i64 0, .int .i64 0, .slice none 0 0, .int .i64 0], []⟩).memory Tryd.f3.params.toList Rows.beatPlaysSpec.vars false (#[.slice none 0 0, .int .i64 0, .int .i64 0, .slice none 0 0, .int .i64 0] : Array Value).toList 8).isSome = true := by kernel_rfl
  obtain ⟨x, hx⟩ := Option.isSome_iff_exists.1 hs
  have hmet : laidMet Tryd.prog tabL ((laidWorld os).forCall (fun _ _ => 0) ⟨#[], #[.slice none 0 0, .int .i64 0, .int .i64 0, .slice none 0 0, .int .i64 0], []⟩).memory := laidMet_of_run' 8 (by kernel_rfl) (by kernel_rfl)
  refine law_lift_tab started (by kernel_rfl) Tryd.func3
    (witness_row_at (enc := enc) (C := Tryd.checked) false (laidWorld os) #[.slice none 0 0, .int .i64 0, .int .i64 0, .slice none 0 0, .int .i64 0] rfl (by kernel_rfl) (by kernel_rfl) (by kernel_rfl)
      (OpenSpec.preRow_of_cond 8 hx (by kernel_rfl) (fun k hk => by cases hk) (by kernel_rfl) hmet))
    rfl ?_ (by kernel_rfl) (by kernel_rfl) ?_
  · intro ds h
    match ds, h with
    | [_, _, _, _, _], _ => rfl
  intro W base args ds p g hTz
  have hA := g.trod
  have hval := g.val
  rw [Tryd.params3] at hA hval
  obtain ⟨v0, vs0, d0, ds0, p0, q0, hargs, rfl, rfl, h0, r0⟩ := trodAll_cons hA
  obtain ⟨v1, vs1, d1, ds1, p1, q1, rfl, rfl, rfl, h1, r1⟩ := trodAll_cons r0
  obtain ⟨v2, vs2, d2, ds2, p2, q2, rfl, rfl, rfl, h2, r2⟩ := trodAll_cons r1
  obtain ⟨v3, vs3, d3, ds3, p3, q3, rfl, rfl, rfl, h3, r3⟩ := trodAll_cons r2
  obtain ⟨v4, vs4, d4, ds4, p4, q4, rfl, rfl, rfl, h4, r4⟩ := trodAll_cons r3
  obtain ⟨rfl, rfl, rfl⟩ := trodAll_nil r4
  obtain rfl : args = #[v0, v1, v2, v3, v4] := by cases args; simp_all
  obtain ⟨A0, n0, c0, l0, rfl, hc0, hm0, hr0⟩ := given_ints (hval 0 22 v0 rfl rfl) h0
  obtain ⟨a1, rfl, _, _, w1⟩ := open_int Tryd.underlying3 (hval 1 3 v1 rfl rfl) h1
  have b1 := bounds_i64 w1
  obtain ⟨a2, rfl, _, _, w2⟩ := open_int Tryd.underlying3 (hval 2 3 v2 rfl rfl) h2
  have b2 := bounds_i64 w2
  obtain ⟨A3, n3, c3, l3, rfl, hc3, hm3, hr3⟩ := given_ints (hval 3 22 v3 rfl rfl) h3
  obtain ⟨a4, rfl, _, _, w4⟩ := open_int Tryd.underlying3 (hval 4 3 v4 rfl rfl) h4
  have b4 := bounds_i64 w4
  exact beatPlays_walk A0 n0 c0 l0 a1 a2 A3 n3 c3 l3 a4 W hc0 hm0 hr0 b1.1 b1.2 b2.1 b2.2 hc3 hm3 hr3 b4.1 b4.2 hTz

theorem said : Rows.BeatPlaysSaid :=
  OpenClaim.holds_of_cond 3 Tryd.f3 rfl rfl rfl rfl rfl rfl rfl ⟨rfl, rfl, rfl, rfl, rfl⟩ rfl rfl rfl rfl rfl (by kernel_rfl) Tryd.func3 (by kernel_rfl)
    (of_decide_eq_true (by kernel_rfl)) (by unfold Func.isWrapper; first | (rw [if_pos (by decide +kernel)]; kernel_rfl) | (rw [if_neg (by decide +kernel)]; exact ⟨rfl, rfl⟩))
    (fun os started H enc _ F => by rw [OpenClaim.pre_eq_preRow]; exact lifted os started H enc F)
/-- No parameter wants a stand-in; the program's own looks are off. -/
theorem plain (f : FuncId) (fn : Func) (hf : Tryd.pinned.checked.prog.funcNamed "seawall/seawalllaw14.BeatPlays" = some f) (hfn : Tryd.pinned.checked.prog.funcs[f]? = some fn) :
    false = Tryd.pinned.checked.prog.looks [] ∧ ∀ (j : Nat) t, fn.params[j]? = some t → Tryd.pinned.checked.prog.wantsStandIn t = false := by
  obtain rfl : f = 3 := Option.some.inj ((show Tryd.prog.funcNamed "seawall/seawalllaw14.BeatPlays" = some 3 by kernel_rfl).symm.trans hf) |>.symm
  obtain rfl : fn = Tryd.f3 := (Option.some.inj (Tryd.func3.symm.trans hfn)).symm
  refine ⟨by kernel_rfl, fun j t ht => ?_⟩
  rw [Tryd.params3] at ht
  have hm : t ∈ [22, 3, 3, 22, 3] := by simpa using Array.mem_of_getElem? ht
  have hall : ([22, 3, 3, 22, 3].all fun u => !Tryd.prog.wantsStandIn u) = true := by kernel_rfl
  exact (show Tryd.prog.wantsStandIn t = false by simpa using List.all_eq_true.1 hall t hm)
end beatPlays

theorem BeatPlays_proved : Rows.BeatPlaysCardSaid :=
  Claim7.holds_tied_plain_at .later [] _ _ _ _ beatPlays.said (fun _ h => by cases h) (by kernel_rfl) (fun _ h => by cases h) beatPlays_row_tie rfl ⟨rfl, rfl⟩ (by kernel_rfl) rfl beatPlays.plain (by kernel_rfl)
#print axioms BeatPlays_proved
end Go.Proofs.YtmdjdnibblebcaaDoor
