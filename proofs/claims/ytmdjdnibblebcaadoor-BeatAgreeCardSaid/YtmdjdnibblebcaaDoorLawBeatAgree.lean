/- BeatAgree: for every input law14.BeatAgree answers true: two nodes' views that hear the same beats for the patience's ticks hold the same ones for up, and the same one for leader. Conditions: the library's table lies where the program's text lays it (the card ties it). -/
import Derived.Test.YtmdjdnibblebcaaDoorBtW
import Derived.Test.YtmdjdnibblebcaaDoorLawT
import Derived.Test.YtmdjdnibblebcaaDoorDActs
namespace Go.Proofs.YtmdjdnibblebcaaDoor
open Go.RowKit Go.ChangeShapes Go.WideShapes Go.ChangeAt

/-- The two views, and what they were. -/
structure AgS (W w : World) (g b c g2 b2 c2 : Nat) (v0 u0 v u : Vw) : Prop where
  two : TwoV W w g b c v g2 b2 c2 u
  l1 : v0.Like v
  l2 : u0.Like u
theorem AgS.below {W w w' : World} {g b c g2 b2 c2 : Nat} {v0 u0 v u : Vw} (h : AgS W w g b c g2 b2 c2 v0 u0 v u) (hb : Below w.heap.size w w') : AgS W w' g b c g2 b2 c2 v0 u0 v u := ⟨h.two.below hb, h.l1, h.l2⟩
structure AgR (W w : World) (g b c g2 b2 c2 : Nat) (v0 u0 : Vw) (H : Nat → Prop) (r : Nat) (v u : Vw) : Prop where
  s : AgS W w g b c g2 b2 c2 v0 u0 v u
  a1 : v.AgL H r
  a2 : u.AgL H r
  h1 : 1 ≤ r → v.AgH H
  h2 : 1 ≤ r → u.AgH H
def Hj (l3 : List Int) (j k : Nat) : Prop := k = 0 ∨ k = 1 ∨ ∃ i, ∃ hi : i < l3.length, i < j ∧ (k : Int) = l3[i]
structure AgI (W w : World) (g b c g2 b2 c2 : Nat) (v0 u0 : Vw) (H : Nat → Prop) (l3 : List Int) (r j : Nat) (v u : Vw) : Prop where
  s : AgS W w g b c g2 b2 c2 v0 u0 v u
  a1 : v.AgL H (r + 1)
  a2 : u.AgL H (r + 1)
  h1 : v.AgH (Hj l3 j)
  h2 : u.AgH (Hj l3 j)
theorem AgI.next {W w w' : World} {g b c g2 b2 c2 : Nat} {v0 u0 : Vw} {H : Nat → Prop} {l3 : List Int} {r j : Nat} {v u : Vw} (h : AgI W w g b c g2 b2 c2 v0 u0 H l3 r j v u) {x : Int} (hj : j < l3.length) (hx : x = l3[j]) (hH : ∀ k : Nat, (k : Int) = x → H k)
    (hs : AgS W w' g b c g2 b2 c2 v0 u0 (v.hearI x) (u.hearI x)) : AgI W w' g b c g2 b2 c2 v0 u0 H l3 r (j + 1) (v.hearI x) (u.hearI x) := by
  have hm : ∀ k, Hj l3 (j + 1) k → Hj l3 j k ∨ (k : Int) = x := by
    rintro k (e | e | ⟨i, hi, h1, h2⟩)
    · exact .inl (.inl e)
    · exact .inl (.inr (.inl e))
    · by_cases e : i = j
      · subst e; exact .inr (by rw [hx]; exact h2)
      · exact .inl (.inr (.inr ⟨i, hi, by omega, h2⟩))
  exact ⟨hs, h.a1.hear x hH, h.a2.hear x hH, (h.h1.hear x).mono hm, (h.h2.hear x).mono hm⟩
set_option maxRecDepth 100000 in
set_option maxHeartbeats 8000000 in
theorem beatAgree_walk (A : Option Addr) (n c : Nat) (l : List Int) (A1 : Option Addr) (n1 c1 : Nat) (l1 : List Int) (A2 : Option Addr) (n2 c2 : Nat) (l2 : List Int) (A3 : Option Addr) (n3 c3 : Nat) (l3 : List Int) (home : Int) (w : World)
    (hc : n ≤ c) (hm : c ≤ 9223372036854775807) (hr : RdI w w.heap.size A n l) (hc1 : n1 ≤ c1) (hm1 : c1 ≤ 9223372036854775807) (hr1 : RdI w w.heap.size A1 n1 l1)
    (hc2 : n2 ≤ c2) (hm2 : c2 ≤ 9223372036854775807) (hr2 : RdI w w.heap.size A2 n2 l2) (hc3 : n3 ≤ c3) (hm3 : c3 ≤ 9223372036854775807) (hr3 : RdI w w.heap.size A3 n3 l3) (_ : -9223372036854775808 ≤ home) (_ : home ≤ 9223372036854775807) (hT : Tz w) :
    Calls Tryd.prog 6 #[.slice A n c, .slice A1 n1 c1, .slice A2 n2 c2, .slice A3 n3 c3, .int .i64 home] w fun e w' => e = .returned (.bool true) ∧ Below w.heap.size w w' := by
  have HT := Lib.hid hT
  have HR := Lib.hid hr
  have HR1 := Lib.hid hr1
  have HR2 := Lib.hid hr2
  have HR3 := Lib.hid hr3
  have HL := Lib.hid (And.intro hr1.1 (And.intro hr2.1 hr3.1))
  have HL0 := Lib.hid hr.1
  have HV := Lib.hid fun me W (h : RdI W W.heap.size A n l) => view_any A n c l me 3 W (by omega) h
  clear hT hr hr1 hr2 hr3
  by_cases hn2 : n < 2
  · have m1 : (n : Int) < 2 := by omega
    have HK := Lib.hid (known14_any w HT.out)
    go_enter Tryd.func6, Tryd.ntmps6
    go_wp2_with fail
    refine HK.out.mono ?_
    rintro e w7 ⟨rfl, hb7⟩
    have HB7 := Lib.hid hb7
    clear hb7
    go_wp2
    go_ret
    exact ⟨rfl, HB7.out⟩
  have m1 : ¬ (n : Int) < 2 := by omega
  have HV1 := Lib.hid (HV.out 0 w HR.out)
  have HLN := Lib.hid hn2
  clear hn2
  go_enter Tryd.func6, Tryd.ntmps6
  go_wp2_with fail
  refine HV1.out.mono ?_
  rintro e w2 ⟨g, b, cv, rfl, H2⟩
  have HB2 : Hid (Below w.heap.size w w2) := Lib.hid H2.out.2
  have HV2 := Lib.hid (HV.out 1 w2 (HR.out.up HB2.out))
  go_wp2_with fail
  refine HV2.out.mono ?_
  rintro e w3 ⟨g2, b2, cv2, rfl, H3⟩
  have HS : Hid (AgS w w3 g b cv g2 b2 cv2 (viewV l 0 3) (viewV l 1 3) (viewV l 0 3) (viewV l 1 3)) := Lib.hid (by
    have h2 := H2.out
    have h3 := H3.out
    have hs2 := HB2.out.size
    have hs3 := h3.2.size
    have hlt := h2.1.pv.lt
    have e1 := h3.1.gg
    have e2 := h3.1.gb
    have f1 := h2.1.gg
    have f2 := h2.1.gb
    have hbel : Below w.heap.size w w3 := HB2.out.trans (h3.2.mono hs2)
    exact ⟨⟨⟨⟨h2.1.pv.below h3.2, by omega, by omega⟩, hbel⟩, ⟨⟨h3.1.pv, by omega, by omega⟩, hbel⟩, by omega, by omega, by omega, by omega⟩, Vw.Like.refl _, Vw.Like.refl _⟩)
  have HQ : Hid (2 ≤ (siteL l).length) := Lib.hid (by
    have h1 := HL0.out
    have h2 := HLN.out
    unfold siteL
    rw [if_neg (fun e => by rw [e] at h1; simp at h1; omega), List.length_map, List.length_take]
    omega)
  have HV0 : Hid ((viewV l 0 3).n = (siteL l).length ∧ (viewV l 0 3).me = 0 ∧ (viewV l 0 3).pat = 4 ∧ (viewV l 1 3).n = (siteL l).length ∧ (viewV l 1 3).me = 1 ∧ (viewV l 1 3).pat = 4 ∧ (viewV l 1 3).site = (viewV l 0 3).site) := Lib.hid (by
    refine ⟨rfl, ?_, rfl, rfl, ?_, rfl, rfl⟩
    · show (0 % 18446744073709551616 % ((siteL l).length : Int)).toNat = 0
      simp
    · show (1 % 18446744073709551616 % ((siteL l).length : Int)).toNat = 1
      have := HQ.out
      rw [show (1 : Int) % 18446744073709551616 = 1 by decide, Int.emod_eq_of_lt (by omega) (by omega)]
      rfl)
  obtain ⟨v0, hv0⟩ : ∃ v0, v0 = viewV l 0 3 := ⟨_, rfl⟩
  obtain ⟨u0, hu0⟩ : ∃ u0, u0 = viewV l 1 3 := ⟨_, rfl⟩
  rw [← hv0, ← hu0] at HS HV0
  clear HV HV1 HV2 H2 H3 HB2 hv0 hu0
  go_upto_block 0 with (fail)
  go_cut [13] from 31 (fun _a wx => ∃ v u, Hid (AgS w wx g b cv g2 b2 cv2 v0 u0 v u))
  case first =>
    go_wp2_with fail
    go_loopg [13] (min n1 60) (fun gk a wr => ∃ i : Nat, a = .int .i64 (i : Int) ∧ i + gk = min n1 60 ∧ ∃ v u, Hid (AgS w wr g b cv g2 b2 cv2 v0 u0 v u))
    case atStart => exact ⟨0, rfl, by omega, v0, u0, HS⟩
    case round =>
      obtain ⟨i, rfl, hig, v, u, HI⟩ := hrel
      by_cases hin : i < min n1 60
      · have m1 : (i : Int) < (n1 : Int) := by omega
        have m2 : (i : Int) < 60 := by omega
        have m0 : ¬ (i : Int) < 0 := by omega
        have e1 : IntKind.i64.wrap ((i : Int) + 1) = ((i + 1 : Nat) : Int) := by rw [IntKind.wrap_i64]; omega
        have hil : i < l1.length := by rw [HL.out.1]; omega
        obtain ⟨b9, o9, rfl, hbl, hcl⟩ := (HR1.out.below HI.out.two.one.bel).2.2 (by omega)
        have q0 := hcl i hil
        obtain ⟨x, hx⟩ : ∃ x, x = l1[i] := ⟨_, rfl⟩
        rw [← hx] at q0
        clear hcl hx
        have HC1 := Lib.hid HI.out.two.one.tick
        have HC2 := Lib.hid (HI.out.two.one.hear x)
        by_cases hx0 : x < 0
        · go_wp2_with fail
          refine HC1.out.mono ?_
          rintro e w5 ⟨rfl, H5⟩
          have HI5 : Hid (AgS w w5 g b cv g2 b2 cv2 v0 u0 v.tick u) := Lib.hid ⟨HI.out.two.step H5.out.1 H5.out.2, HI.out.l1.trans (Vw.Like.tick v), HI.out.l2⟩
          clear HC1 HC2 H5
          go_wp2
          go_roundg (gk - 1)
          case measure => omega
          case rel => exact ⟨i + 1, by go_num, by omega, _, _, HI5⟩
        · go_wp2_with fail
          refine HC2.out.mono ?_
          rintro e w5 ⟨rfl, H5⟩
          have HI5 : Hid (AgS w w5 g b cv g2 b2 cv2 v0 u0 (v.hearI x) u) := Lib.hid ⟨HI.out.two.step H5.out.1 H5.out.2, HI.out.l1.trans (Vw.Like.hearI v x), HI.out.l2⟩
          generalize (if 0 ≤ x ∧ x < (v.n : Int) then (0 : Int) else 2) = y
          clear HC1 HC2 H5
          go_wp2
          go_roundg (gk - 1)
          case measure => omega
          case rel => exact ⟨i + 1, by go_num, by omega, _, _, HI5⟩
      · have hcase : (¬ (i : Int) < (n1 : Int)) ∨ ((i : Int) < (n1 : Int) ∧ ¬ (i : Int) < 60) := by omega
        clear hin hig
        rcases hcase with m1 | ⟨m1, m4⟩
        all_goals
          go_wp2_with fail
          go_meet
          exact ⟨_, _, HI⟩
  case rest =>
  obtain ⟨v1, u1, HS1⟩ := hcut
  clear HS
  go_upto_block 2 with (fail)
  go_cut [14] from 54 (fun _a wx => ∃ v u, Hid (AgS w wx g b cv g2 b2 cv2 v0 u0 v u))
  case first =>
    go_wp2_with fail
    go_loopg [14] (min n2 60) (fun gk a wr => ∃ i : Nat, a = .int .i64 (i : Int) ∧ i + gk = min n2 60 ∧ ∃ v u, Hid (AgS w wr g b cv g2 b2 cv2 v0 u0 v u))
    case atStart => exact ⟨0, rfl, by omega, v1, u1, HS1⟩
    case round =>
      obtain ⟨i, rfl, hig, v, u, HI⟩ := hrel
      by_cases hin : i < min n2 60
      · have m1 : (i : Int) < (n2 : Int) := by omega
        have m2 : (i : Int) < 60 := by omega
        have m0 : ¬ (i : Int) < 0 := by omega
        have e1 : IntKind.i64.wrap ((i : Int) + 1) = ((i + 1 : Nat) : Int) := by rw [IntKind.wrap_i64]; omega
        have hil : i < l2.length := by rw [HL.out.2.1]; omega
        obtain ⟨b9, o9, rfl, hbl, hcl⟩ := (HR2.out.below HI.out.two.one.bel).2.2 (by omega)
        have q0 := hcl i hil
        obtain ⟨x, hx⟩ : ∃ x, x = l2[i] := ⟨_, rfl⟩
        rw [← hx] at q0
        clear hcl hx
        have HC1 := Lib.hid HI.out.two.two.tick
        have HC2 := Lib.hid (HI.out.two.two.hear x)
        by_cases hx0 : x < 0
        · go_wp2_with fail
          refine HC1.out.mono ?_
          rintro e w5 ⟨rfl, H5⟩
          have HI5 : Hid (AgS w w5 g b cv g2 b2 cv2 v0 u0 v u.tick) := Lib.hid ⟨HI.out.two.step2 H5.out.1 H5.out.2, HI.out.l1, HI.out.l2.trans (Vw.Like.tick u)⟩
          clear HC1 HC2 H5
          go_wp2
          go_roundg (gk - 1)
          case measure => omega
          case rel => exact ⟨i + 1, by go_num, by omega, _, _, HI5⟩
        · go_wp2_with fail
          refine HC2.out.mono ?_
          rintro e w5 ⟨rfl, H5⟩
          have HI5 : Hid (AgS w w5 g b cv g2 b2 cv2 v0 u0 v (u.hearI x)) := Lib.hid ⟨HI.out.two.step2 H5.out.1 H5.out.2, HI.out.l1, HI.out.l2.trans (Vw.Like.hearI u x)⟩
          generalize (if 0 ≤ x ∧ x < (u.n : Int) then (0 : Int) else 2) = y
          clear HC1 HC2 H5
          go_wp2
          go_roundg (gk - 1)
          case measure => omega
          case rel => exact ⟨i + 1, by go_num, by omega, _, _, HI5⟩
      · have hcase : (¬ (i : Int) < (n2 : Int)) ∨ ((i : Int) < (n2 : Int) ∧ ¬ (i : Int) < 60) := by omega
        clear hin hig
        rcases hcase with m1 | ⟨m1, m4⟩
        all_goals
          go_wp2_with fail
          go_meet
          exact ⟨_, _, HI⟩
  case rest =>
  obtain ⟨v2, u2, HS2⟩ := hcut
  clear HS1
  obtain ⟨H, hH⟩ : ∃ H : Nat → Prop, H = fun (k : Nat) => k = 0 ∨ k = 1 ∨ ∃ j, ∃ hj : j < l3.length, j < 30 ∧ (k : Int) = l3[j] := ⟨_, rfl⟩
  have HH : Hid (H 0 ∧ H 1 ∧ ∀ j (hj : j < l3.length), j < 30 → ∀ k : Nat, (k : Int) = l3[j] → H k) := Lib.hid (by rw [hH]; exact ⟨.inl rfl, .inr (.inl rfl), fun j hj h30 k e => .inr (.inr ⟨j, hj, h30, e⟩)⟩)
  have HI2 : Hid (∀ k, H k → k = 0 ∨ k = 1 ∨ ∃ j, ∃ hj : j < l3.length, j < 30 ∧ (k : Int) = l3[j]) := Lib.hid (by rw [hH]; exact fun k h => h)
  clear hH
  have HR0 : Hid (AgR w wc g b cv g2 b2 cv2 v0 u0 H 0 v2 u2) := Lib.hid ⟨HS2.out, Vw.AgL.zero _ _, Vw.AgL.zero _ _, fun h => by omega, fun h => by omega⟩
  clear HS2
  go_wp2_with fail
  go_loopg [15] 4 (fun gk a wr => ∃ r : Nat, a = .int .i64 (r : Int) ∧ r + gk = 4 ∧ ∃ v u, Hid (AgR w wr g b cv g2 b2 cv2 v0 u0 H r v u))
  case atStart => exact ⟨0, rfl, rfl, v2, u2, HR0⟩
  case round =>
    clear HR0
    obtain ⟨r, rfl, hrg, v, u, HI⟩ := hrel
    by_cases hr4 : r < 4
    · have m4 : (r : Int) < 4 := by omega
      have e4 : IntKind.i64.wrap ((r : Int) + 1) = ((r + 1 : Nat) : Int) := by rw [IntKind.wrap_i64]; omega
      have HC1 := Lib.hid HI.out.s.two.one.tick
      go_wp2_with fail
      refine HC1.out.mono ?_
      rintro e wa ⟨rfl, H5⟩
      have HA := Lib.hid (HI.out.s.two.step H5.out.1 H5.out.2)
      clear HC1 H5
      have HC1 := Lib.hid HA.out.two.tick
      go_wp2_with fail
      refine HC1.out.mono ?_
      rintro e wb ⟨rfl, H5⟩
      have HB := Lib.hid (HA.out.step2 H5.out.1 H5.out.2)
      clear HC1 H5 HA
      have HC1 := Lib.hid (HB.out.one.hear 1)
      go_wp2_with fail
      refine HC1.out.mono ?_
      rintro e wd ⟨rfl, H5⟩
      have HD := Lib.hid (HB.out.step H5.out.1 H5.out.2)
      clear HC1 H5 HB
      generalize (if (0 : Int) ≤ 1 ∧ (1 : Int) < (v.tick.n : Int) then (0 : Int) else 2) = y1
      have HC1 := Lib.hid (HD.out.two.hear 0)
      go_wp2_with fail
      refine HC1.out.mono ?_
      rintro e we ⟨rfl, H5⟩
      have HE := Lib.hid (HD.out.step2 H5.out.1 H5.out.2)
      clear HC1 H5 HD
      generalize (if (0 : Int) ≤ 0 ∧ (0 : Int) < (u.tick.n : Int) then (0 : Int) else 2) = y2
      have HI0 : Hid (AgI w we g b cv g2 b2 cv2 v0 u0 H l3 r 0 (v.tick.hearI 1) (u.tick.hearI 0)) := Lib.hid (by
        have h := HI.out
        have hv := HV0.out
        have hh := HH.out
        have vme : v.me = 0 := by rw [h.s.l1.me]; exact hv.2.1
        have ume : u.me = 1 := by rw [h.s.l2.me]; exact hv.2.2.2.2.1
        refine ⟨⟨HE.out, (h.s.l1.trans (Vw.Like.tick v)).trans (Vw.Like.hearI _ _), (h.s.l2.trans (Vw.Like.tick u)).trans (Vw.Like.hearI _ _)⟩,
          (h.a1.tick (by rw [vme]; exact hh.1)).hear 1 (fun k e => by rw [show k = 1 by omega]; exact hh.2.1), (h.a2.tick (by rw [ume]; exact hh.2.1)).hear 0 (fun k e => by rw [show k = 0 by omega]; exact hh.1),
          ((Vw.AgH.tick_me h.s.two.one.ok).hear 1).mono ?_, ((Vw.AgH.tick_me h.s.two.two.ok).hear 0).mono ?_⟩
        · rintro k (e | e | ⟨i, hi, h1, _⟩)
          · exact .inl (by rw [vme]; exact e)
          · exact .inr (by omega)
          · omega
        · rintro k (e | e | ⟨i, hi, h1, _⟩)
          · exact .inr (by omega)
          · exact .inl (by rw [ume]; exact e)
          · omega)
      clear HE HI
      obtain ⟨gko, hgko⟩ : ∃ z, z = gk := ⟨_, rfl⟩
      subst hgko
      go_wp2
      go_loopg [16] (min n3 30) (fun gk a wr => ∃ j : Nat, a = .int .i64 (j : Int) ∧ j + gk = min n3 30 ∧ ∃ v u, Hid (AgI w wr g b cv g2 b2 cv2 v0 u0 H l3 r j v u))
      case atStart => exact ⟨0, rfl, by omega, _, _, HI0⟩
      case round =>
        clear HI0
        obtain ⟨i, rfl, hig, v, u, HJ⟩ := hrel
        by_cases hin : i < min n3 30
        · have m1 : (i : Int) < (n3 : Int) := by omega
          have m2 : (i : Int) < 30 := by omega
          have m0 : ¬ (i : Int) < 0 := by omega
          have e1 : IntKind.i64.wrap ((i : Int) + 1) = ((i + 1 : Nat) : Int) := by rw [IntKind.wrap_i64]; omega
          have hil : i < l3.length := by rw [HL.out.2.2]; omega
          have HRC : Hid (∀ W, Below w.heap.size w W → ∃ b o, A3 = some ⟨b, o, none⟩ ∧ W.cell? ⟨b, o + i, none⟩ = some (.int .i64 l3[i])) := Lib.hid fun W hb => by
            obtain ⟨b9, o9, e, _, hcl⟩ := (HR3.out.below hb).2.2 (by omega)
            exact ⟨b9, o9, e, hcl i hil⟩
          obtain ⟨b9, o9, rfl, q0⟩ := HRC.out wr HJ.out.s.two.one.bel
          obtain ⟨x, hx⟩ : ∃ x, x = l3[i] := ⟨_, rfl⟩
          rw [← hx] at q0
          have HX := Lib.hid hx
          have HC2 := Lib.hid (HJ.out.s.two.one.hear x)
          have HP : Hid (∀ W, Below w.heap.size w W → W.cell? ⟨b9, o9 + i, none⟩ = some (.int .i64 x)) := Lib.hid fun W hb => by
            obtain ⟨b8, o8, e, q⟩ := HRC.out W hb
            injection e with e
            injection e with e1 e2
            subst e1 e2
            rw [hx]; exact q
          clear hx HRC
          go_wp2_with fail
          refine HC2.out.mono ?_
          rintro e wf ⟨rfl, H5⟩
          have HF := Lib.hid (HJ.out.s.two.step H5.out.1 H5.out.2)
          generalize (if 0 ≤ x ∧ x < (v.n : Int) then (0 : Int) else 2) = y3
          clear HC2 H5 q0
          have q1 := HP.out wf HF.out.one.bel
          have HC2 := Lib.hid (HF.out.two.hear x)
          go_wp2_with fail
          refine HC2.out.mono ?_
          rintro e wg ⟨rfl, H5⟩
          have HG := Lib.hid (HF.out.step2 H5.out.1 H5.out.2)
          generalize (if 0 ≤ x ∧ x < (u.n : Int) then (0 : Int) else 2) = y4
          clear HC2 H5 q1 HF
          have HN : Hid (AgI w wg g b cv g2 b2 cv2 v0 u0 H l3 r (i + 1) (v.hearI x) (u.hearI x)) := Lib.hid (HJ.out.next hil HX.out (fun k e => HH.out.2.2 i hil (by omega) k (by rw [← HX.out]; exact e)) ⟨HG.out, HJ.out.s.l1.trans (Vw.Like.hearI v x), HJ.out.s.l2.trans (Vw.Like.hearI u x)⟩)
          go_wp2
          go_roundg (gk - 1)
          case measure => omega
          case rel => exact ⟨i + 1, by go_num, by omega, _, _, HN⟩
        · have hcase : (¬ (i : Int) < (n3 : Int)) ∨ ((i : Int) < (n3 : Int) ∧ ¬ (i : Int) < 30) := by omega
          have HN : Hid (AgR w wr g b cv g2 b2 cv2 v0 u0 H (r + 1) v u) := Lib.hid (by
            have hm : ∀ k, H k → Hj l3 i k := fun k hk => by
              rcases HI2.out k hk with e | e | ⟨j, hj, h30, e⟩
              · exact .inl e
              · exact .inr (.inl e)
              · exact .inr (.inr ⟨j, hj, by have := HL.out.2.2; omega, e⟩)
            exact ⟨HJ.out.s, HJ.out.a1, HJ.out.a2, fun _ => HJ.out.h1.mono hm, fun _ => HJ.out.h2.mono hm⟩)
          clear hin hig
          rcases hcase with m1 | ⟨m1, m4⟩
          all_goals
            go_wp2
            go_roundg (gko - 1)
            case measure => omega
            case rel => exact ⟨r + 1, by go_num, by omega, _, _, HN⟩
    · obtain rfl : r = 4 := by omega
      have HUP : Hid (u.up = v.up ∧ u.lead home = v.lead home ∧ u.order home = v.order home) := Lib.hid (by
        have h := HI.out
        have hv := HV0.out
        have e1 : u.up = v.up := Vw.agree h.s.two.one.ok h.s.two.two.ok (by rw [h.s.l1.n, h.s.l2.n, hv.1, hv.2.2.2.1]) h.a1 (h.h1 (by omega)) h.a2 (h.h2 (by omega)) (by rw [h.s.l1.pat, hv.2.2.1]; omega) (by rw [h.s.l2.pat, hv.2.2.2.2.2.1]; omega)
        have e2 : u.site = v.site := by rw [h.s.l1.site, h.s.l2.site]; exact hv.2.2.2.2.2.2
        have e3 : u.order home = v.order home := by unfold Vw.order; rw [e1, e2]
        exact ⟨e1, by unfold Vw.lead; rw [e3], e3⟩)
      have HOL : Hid (∀ i ∈ v.order home, i < 12) := Lib.hid fun i hi => by
        have := ((Vw.mem_order HI.out.s.two.one.ok home i).1 hi).1
        have := HI.out.s.two.one.ok.n12
        omega
      have HC1 := Lib.hid HI.out.s.two.one.upC
      obtain ⟨x, hx⟩ : ∃ x, x = v.up := ⟨_, rfl⟩
      obtain ⟨y, hy⟩ : ∃ y, y = v.lead home := ⟨_, rfl⟩
      obtain ⟨L, hLL⟩ : ∃ L, L = v.order home := ⟨_, rfl⟩
      rw [← hx] at HC1 HUP
      rw [← hy, ← hLL] at HUP
      rw [← hLL] at HOL
      have HXY := Lib.hid (And.intro hx (And.intro hy hLL))
      clear hx hy hLL hrg hr4
      go_wp2_with fail
      refine HC1.out.mono ?_
      rintro e wa ⟨rfl, H5⟩
      have HA := Lib.hid (HI.out.s.two.below H5.out.2)
      clear HC1 H5 HI
      have HC1 := Lib.hid HA.out.two.upC
      rw [HUP.out.1] at HC1
      go_wp2_with fail
      refine HC1.out.mono ?_
      rintro e wb ⟨rfl, H5⟩
      have HB := Lib.hid (HA.out.below H5.out.2)
      clear HC1 H5 HA
      have HC1 := Lib.hid (HB.out.one.lead HT.out home)
      rw [← HXY.out.2.1] at HC1
      go_wp2_with fail
      refine HC1.out.mono ?_
      rintro e wd ⟨rfl, H5⟩
      have HD := Lib.hid (HB.out.below H5.out.2)
      clear HC1 H5 HB
      have HC1 := Lib.hid (HD.out.two.lead HT.out home)
      rw [HUP.out.2.1] at HC1
      go_wp2_with fail
      refine HC1.out.mono ?_
      rintro e we ⟨rfl, H5⟩
      have HE := Lib.hid (HD.out.below H5.out.2)
      clear HC1 H5 HD
      have HC1 := Lib.hid (HE.out.one.order HT.out home)
      rw [← HXY.out.2.2] at HC1
      go_wp2_with fail
      refine HC1.out.mono ?_
      rintro e wf ⟨Aa, ca, rfl, H5⟩
      have HF := Lib.hid (HE.out.below H5.out.2.1)
      have HOa := Lib.hid H5.out.2.2
      clear HC1 H5
      have HC1 := Lib.hid (HF.out.two.order HT.out home)
      rw [HUP.out.2.2] at HC1
      go_wp2_with fail
      refine HC1.out.mono ?_
      rintro e wg ⟨Ab, cb, rfl, H5⟩
      have HG := Lib.hid (HF.out.below H5.out.2.1)
      have hlen : L.length ≤ 9223372036854775807 := by
        rw [HXY.out.2.2]
        have h1 := Vw.order_len HE.out.one.ok home
        have h2 := HE.out.one.ok.n12
        omega
      have hs := sameInts_any Aa Ab L.length ca L.length cb (L.map fun (i : Nat) => (i : Int)) (L.map fun (i : Nat) => (i : Int)) wg hlen (nats_rdI (own_below HOa.out H5.out.2.1 fun k hk => (HOa.out.lt k hk).2) HOL.out) (nats_rdI H5.out.2.2 HOL.out)
      rw [decide_eq_true rfl] at hs
      have HSS := Lib.hid hs
      clear HC1 H5 hs hlen HE HF HOa
      go_wp2_with fail
      refine HSS.out.mono ?_
      rintro e wh ⟨rfl, q, rfl⟩
      have HK := Lib.hid (known14_any (wg.drewN q) (HT.out.below (bel_drewN HG.out.one.bel q) HT.out.lt))
      go_wp2_with fail
      refine HK.out.mono ?_
      rintro e wk ⟨rfl, hb7⟩
      have HB7 : Hid (Below w.heap.size w wk) := Lib.hid ((bel_drewN HG.out.one.bel q).trans (hb7.mono HG.out.one.bel.size))
      clear hb7
      go_wp2
      go_ret
      exact ⟨rfl, HB7.out⟩

namespace beatAgree
set_option maxRecDepth 100000 in
theorem lifted (os : Os) (started : os.Started) (H : Type) (enc : TypeId × Value → H) (F : Stop.Interp) :
    ReturnsInHanded {} Tryd.checked os 6 .any ((OpenSpec.ofChange Rows.beatAgreeSpec).preRow enc Tryd.prog Tryd.f6 Rows.beatAgreeRow.domain false Rows.beatAgreeRow.laid) (((OpenSpec.ofChange Rows.beatAgreeSpec).at F).post enc Tryd.prog Tryd.f6 false true false false) := by
  have hs : (DataW.whole enc Tryd.prog ((laidWorld os).forCall (fun _ _ => 0) ⟨#[], #[.slice none 0 0, .slice none 0 0, .slice none 0 0, .slice none 0 0, .int .i64 0], []⟩).memory Tryd.f6.params.toList Rows.beatAgreeSpec.vars false (#[.slice none 0 0, .slice none 0 0, .slice none 0 0, .slice none 0 0, .int .i64 0] : Array Value).toList 8).isSome = true := by kernel_rfl
  obtain ⟨x, hx⟩ := Option.isSome_iff_exists.1 hs
  have hmet : laidMet Tryd.prog tabL ((laidWorld os).forCall (fun _ _ => 0) ⟨#[], #[.slice none 0 0, .slice none 0 0, .slice none 0 0, .slice none 0 0, .int .i64 0], []⟩).memory := laidMet_of_run' 8 (by kernel_rfl) (by kernel_rfl)
  refine law_lift_tab started (by kernel_rfl) Tryd.func6
    (witness_row_at (enc := enc) (C := Tryd.checked) false (laidWorld os) #[.slice none 0 0, .slice none 0 0, .slice none 0 0, .slice none 0 0, .int .i64 0] rfl (by kernel_rfl) (by kernel_rfl) (by kernel_rfl)
      (OpenSpec.preRow_of_cond 8 hx (by kernel_rfl) (fun k hk => by cases hk) (by kernel_rfl) hmet))
    rfl ?_ (by kernel_rfl) (by kernel_rfl) ?_
  · intro ds h
    match ds, h with
    | [_, _, _, _, _], _ => rfl
  intro W base args ds p g hTz
  have hA := g.trod
  have hval := g.val
  rw [Tryd.params6] at hA hval
  obtain ⟨v0, vs0, d0, ds0, p0, q0, hargs, rfl, rfl, h0, r0⟩ := trodAll_cons hA
  obtain ⟨v1, vs1, d1, ds1, p1, q1, rfl, rfl, rfl, h1, r1⟩ := trodAll_cons r0
  obtain ⟨v2, vs2, d2, ds2, p2, q2, rfl, rfl, rfl, h2, r2⟩ := trodAll_cons r1
  obtain ⟨v3, vs3, d3, ds3, p3, q3, rfl, rfl, rfl, h3, r3⟩ := trodAll_cons r2
  obtain ⟨v4, vs4, d4, ds4, p4, q4, rfl, rfl, rfl, h4, r4⟩ := trodAll_cons r3
  obtain ⟨rfl, rfl, rfl⟩ := trodAll_nil r4
  obtain rfl : args = #[v0, v1, v2, v3, v4] := by cases args; simp_all
  obtain ⟨A0, n0, c0, l0, rfl, hc0, hm0, hr0⟩ := given_ints (hval 0 22 v0 rfl rfl) h0
  obtain ⟨A1, n1, c1, l1, rfl, hc1, hm1, hr1⟩ := given_ints (hval 1 22 v1 rfl rfl) h1
  obtain ⟨A2, n2, c2, l2, rfl, hc2, hm2, hr2⟩ := given_ints (hval 2 22 v2 rfl rfl) h2
  obtain ⟨A3, n3, c3, l3, rfl, hc3, hm3, hr3⟩ := given_ints (hval 3 22 v3 rfl rfl) h3
  obtain ⟨a4, rfl, _, _, w4⟩ := open_int Tryd.underlying3 (hval 4 3 v4 rfl rfl) h4
  have b4 := bounds_i64 w4
  exact beatAgree_walk A0 n0 c0 l0 A1 n1 c1 l1 A2 n2 c2 l2 A3 n3 c3 l3 a4 W hc0 hm0 hr0 hc1 hm1 hr1 hc2 hm2 hr2 hc3 hm3 hr3 b4.1 b4.2 hTz

theorem said : Rows.BeatAgreeSaid :=
  OpenClaim.holds_of_cond 6 Tryd.f6 rfl rfl rfl rfl rfl rfl rfl ⟨rfl, rfl, rfl, rfl, rfl⟩ rfl rfl rfl rfl rfl (by kernel_rfl) Tryd.func6 (by kernel_rfl)
    (of_decide_eq_true (by kernel_rfl)) (by unfold Func.isWrapper; first | (rw [if_pos (by decide +kernel)]; kernel_rfl) | (rw [if_neg (by decide +kernel)]; exact ⟨rfl, rfl⟩))
    (fun os started H enc _ F => by rw [OpenClaim.pre_eq_preRow]; exact lifted os started H enc F)
/-- No parameter wants a stand-in; the program's own looks are off. -/
theorem plain (f : FuncId) (fn : Func) (hf : Tryd.pinned.checked.prog.funcNamed "seawall/seawalllaw14.BeatAgree" = some f) (hfn : Tryd.pinned.checked.prog.funcs[f]? = some fn) :
    false = Tryd.pinned.checked.prog.looks [] ∧ ∀ (j : Nat) t, fn.params[j]? = some t → Tryd.pinned.checked.prog.wantsStandIn t = false := by
  obtain rfl : f = 6 := Option.some.inj ((show Tryd.prog.funcNamed "seawall/seawalllaw14.BeatAgree" = some 6 by kernel_rfl).symm.trans hf) |>.symm
  obtain rfl : fn = Tryd.f6 := (Option.some.inj (Tryd.func6.symm.trans hfn)).symm
  refine ⟨by kernel_rfl, fun j t ht => ?_⟩
  rw [Tryd.params6] at ht
  have hm : t ∈ [22, 22, 22, 22, 3] := by simpa using Array.mem_of_getElem? ht
  have hall : ([22, 22, 22, 22, 3].all fun u => !Tryd.prog.wantsStandIn u) = true := by kernel_rfl
  exact (show Tryd.prog.wantsStandIn t = false by simpa using List.all_eq_true.1 hall t hm)
end beatAgree

theorem BeatAgree_proved : Rows.BeatAgreeCardSaid :=
  Claim7.holds_tied_plain_at .later [] _ _ _ _ beatAgree.said (fun _ h => by cases h) (by kernel_rfl) (fun _ h => by cases h) beatAgree_row_tie rfl ⟨rfl, rfl⟩ (by kernel_rfl) rfl beatAgree.plain (by kernel_rfl)
#print axioms BeatAgree_proved
end Go.Proofs.YtmdjdnibblebcaaDoor
