/- Layer 14: each call on a view of the call's own; known. -/
import Derived.Test.YtmdjdnibblebcaaDoorBtK
namespace Go.Proofs.YtmdjdnibblebcaaDoor
open Go.RowKit Go.Shelf Go.Lib Go.Sort

structure OB (W w : World) (g b c : Nat) (v : Vw) : Prop where
  ov : OV W w g b c v
  bel : Below W.heap.size W w
section
variable {W w w' : World} {g b c : Nat} {v : Vw}
theorem OB.below (h : OB W w g b c v) (hb : Below w.heap.size w w') : OB W w' g b c v := ⟨h.ov.below hb, h.bel.trans (hb.mono h.bel.size)⟩
theorem OB.ok (h : OB W w g b c v) : v.Ok := h.ov.pv.ok
theorem OB.hear (h : OB W w g b c v) (a : Int) : Calls Tryd.prog 15 #[.pointer (some ⟨g, 0, none⟩), .int .i64 a] w fun e w' =>
    e = .returned (.int .i64 (if 0 ≤ a ∧ a < v.n then 0 else 2)) ∧ Hid (OB W w' g b c (v.hearI a) ∧ Kp (fun k => k = g ∨ k = b) w w') := by
  refine (hear_any h.ov.pv a).mono ?_
  rintro e w' ⟨rfl, H⟩
  exact ⟨rfl, Lib.hid ⟨⟨⟨H.out.1, h.ov.gg, h.ov.gb⟩, h.ov.bel h.bel H.out.2⟩, H.out.2⟩⟩
theorem OB.tick (h : OB W w g b c v) : Calls Tryd.prog 13 #[.pointer (some ⟨g, 0, none⟩)] w fun e w' => e = .returned (.tuple #[]) ∧ Hid (OB W w' g b c v.tick ∧ Kp (fun k => k = g ∨ k = b) w w') := by
  refine (tick_any h.ov.pv).mono ?_
  rintro e w' ⟨rfl, H⟩
  exact ⟨rfl, Lib.hid ⟨⟨⟨H.out.1, h.ov.gg, h.ov.gb⟩, h.ov.bel h.bel H.out.2⟩, H.out.2⟩⟩
theorem OB.upC (h : OB W w g b c v) : Calls Tryd.prog 19 #[.pointer (some ⟨g, 0, none⟩)] w fun e w' => e = .returned (.int .u32 (v.up : Int)) ∧ Hid (OB W w' g b c v ∧ Below w.heap.size w w') := by
  refine (up_any h.ov.pv).mono ?_
  rintro e w' ⟨rfl, hb⟩
  exact ⟨rfl, Lib.hid ⟨h.below hb, hb⟩⟩
theorem OB.calm (h : OB W w g b c v) : Calls Tryd.prog 21 #[.pointer (some ⟨g, 0, none⟩)] w fun e w' => e = .returned (.int .i64 (v.calm : Int)) ∧ w = w' := by
  refine (calm_any h.ov.pv).mono ?_
  rintro e w' ⟨rfl, rfl⟩
  exact ⟨rfl, rfl⟩
theorem OB.since (h : OB W w g b c v) (a : Int) : Calls Tryd.prog 23 #[.pointer (some ⟨g, 0, none⟩), .int .i64 a] w fun e w' => e = .returned (.int .i64 (v.sinceI a)) ∧ w = w' := by
  refine (since_any h.ov.pv a).mono ?_
  rintro e w' ⟨rfl, rfl⟩
  exact ⟨rfl, rfl⟩
theorem OB.lead (h : OB W w g b c v) (hT : Tz W) (home : Int) : Calls Tryd.prog 26 #[.pointer (some ⟨g, 0, none⟩), .int .i64 home] w fun e w' => e = .returned (.int .i64 (v.lead home : Int)) ∧ Hid (OB W w' g b c v ∧ Below w.heap.size w w') := by
  refine (leader_any h.ov.pv (hT.below h.bel hT.lt) home).mono ?_
  rintro e w' ⟨rfl, hb⟩
  exact ⟨rfl, Lib.hid ⟨h.below hb, hb⟩⟩
/-- The order is the call's own. -/
def OrdO (W w : World) (g b c : Nat) (v : Vw) (l : List Nat) (e : Ending) (w' : World) : Prop :=
  ∃ A cap, e = .returned (.slice A l.length cap) ∧ Hid (OB W w' g b c v ∧ Below w.heap.size w w' ∧ w'.ownsRow w.heap.size 3 1 (.slice A l.length cap) l.length (natsV l))
theorem OB.order (h : OB W w g b c v) (hT : Tz W) (home : Int) : Calls Tryd.prog 17 #[.pointer (some ⟨g, 0, none⟩), .int .i64 home] w (OrdO W w g b c v (v.order home)) := by
  refine (order_any h.ov.pv (hT.below h.bel hT.lt) home).mono ?_
  rintro e w' ⟨val, rfl, hb, ho⟩
  obtain ⟨A, cap, rfl, _⟩ := own_shape ho
  exact ⟨A, cap, rfl, Lib.hid ⟨h.below hb, hb, ho⟩⟩
end
theorem nats_rdI {w : World} {base : Nat} {A : Option Addr} {cap : Nat} {l : List Nat} (ho : w.ownsRow base 3 1 (.slice A l.length cap) l.length (natsV l)) (hl : ∀ i ∈ l, i < 12) : RdI w w.heap.size A l.length (l.map fun (i : Nat) => (i : Int)) := by
  rw [natsV_ints] at ho
  have e : (l.map fun (i : Nat) => (i : Int)).length = l.length := by simp
  rw [← e] at ho ⊢
  obtain ⟨A', c', hv, _, _, hr, _⟩ := own_rdI ho (fun x hx => by
    obtain ⟨i, hi, rfl⟩ := List.mem_map.1 hx
    have := hl i hi
    omega)
  injection hv with hv
  subst hv
  exact hr
abbrev v0 : Vw := mkV [0, 0, 1] 1 2
abbrev v2 : Vw := (v0.hearI 2).hearI 0
abbrev v5 : Vw := (v2.tick.hearI 0).tick
theorem kn_1 : v0.up = 2 := by decide
theorem kn_2 : v2.up = 7 := by decide
theorem kn_3 : v2.order 1 = [2, 0, 1] := by decide
theorem kn_4 : v2.lead 1 = 2 := by unfold Vw.lead; rw [kn_3]; rfl
theorem kn_5 : v5.up = 3 := by decide
theorem kn_6 : v5.sinceI 2 = 2 := by decide
theorem kn_7 : v5.calm = 0 := by decide
theorem kn_8 : v5.lead 1 = 0 := by decide
set_option maxRecDepth 100000 in
set_option maxHeartbeats 4000000 in
theorem known14_any (w : World) (hT : Tz w) : Calls Tryd.prog 10 #[] w fun e w' => e = .returned (.bool true) ∧ Below w.heap.size w w' := by
  obtain ⟨w1, hw1⟩ : ∃ w1, w1 = w.alloc (.cells #[.int .i64 0, .int .i64 0, .int .i64 1] 3) := ⟨_, rfl⟩
  have hb1 : Below w.heap.size w w1 := by rw [hw1]; exact belA _ _
  have hk1 : Bk w1 w.heap.size 3 #[.int .i64 0, .int .i64 0, .int .i64 1] := by rw [hw1]; exact Bk.new w _ _
  have hrd : RdI w1 w1.heap.size (some ⟨w.heap.size, 0, none⟩) 3 [0, 0, 1] := ⟨rfl, by intro x hx; simp at hx; omega, fun _ => ⟨_, _, rfl, hk1.lt, fun j hj => by
    rw [Nat.zero_add, hk1.cell]
    have : j = 0 ∨ j = 1 ∨ j = 2 := by simp at hj; omega
    rcases this with rfl | rfl | rfl <;> rfl⟩⟩
  have HN := Lib.hid (new_ok (some ⟨w.heap.size, 0, none⟩) 3 3 w1 [0, 0, 1] 1 2 hrd (by decide))
  have HW := Lib.hid hw1
  have HB1 := Lib.hid hb1
  have HT := Lib.hid hT
  clear hw1 hb1 hk1 hrd hT
  go_enter Tryd.func10, Tryd.ntmps10
  go_wp2_with fail
  rw [← HW.out]
  refine HN.out.mono ?_
  rintro e wa ⟨g, b, c, rfl, HE⟩
  have hsz := HB1.out.size
  have H0 : Hid (OB w wa g b c v0) := Lib.hid ⟨⟨HE.out.1, by have := HE.out.2.1; omega, by have := HE.out.2.2.1; omega⟩, HB1.out.trans (HE.out.2.2.2.mono hsz)⟩
  have HC := Lib.hid H0.out.upC
  rw [kn_1] at HC
  clear hsz HN HW HE H0
  go_wp2_with fail
  refine HC.out.mono ?_
  rintro e wb ⟨rfl, H1⟩
  have HC1 := Lib.hid (H1.out.1.hear 2)
  clear H1 HC
  go_wp2_with fail
  refine HC1.out.mono ?_
  rintro e wc ⟨rfl, H2⟩
  have HC2 := Lib.hid (H2.out.1.hear 0)
  clear H2 HC1
  go_wp2_with fail
  refine HC2.out.mono ?_
  rintro e wd ⟨rfl, H3⟩
  have HC3 := Lib.hid (H3.out.1.upC)
  rw [show ((v0.hearI 2).hearI 0).up = 7 from kn_2] at HC3
  clear H3 HC2
  go_wp2_with fail
  refine HC3.out.mono ?_
  rintro e we ⟨rfl, H4⟩
  have HC4 := Lib.hid (H4.out.1.lead HT.out 1)
  rw [show ((v0.hearI 2).hearI 0).lead 1 = 2 from kn_4] at HC4
  clear H4 HC3
  go_wp2_with fail
  refine HC4.out.mono ?_
  rintro e wf ⟨rfl, H5⟩
  have HC5 := Lib.hid (H5.out.1.order HT.out 1)
  rw [show ((v0.hearI 2).hearI 0).order 1 = [2, 0, 1] from kn_3] at HC5
  have HL5 : Hid (g < wf.heap.size ∧ b < wf.heap.size) := Lib.hid H5.out.1.ov.pv.lt
  clear H5 HC4
  go_wp2_with fail
  refine HC5.out.mono ?_
  rintro e wg ⟨A, cap, rfl, H6⟩
  have HO6 : Hid (∀ w', Kp (fun k => k = g ∨ k = b) wg w' → RdI w' w'.heap.size A 3 [2, 0, 1]) := Lib.hid fun w' hk => by
    have h6 := H6.out
    have ho := own_kp h6.2.2 hk (fun k e hk2 => by
      have := (h6.2.2.lt k e).1
      have h7 := HC5.out
      have hl := HL5.out
      rcases hk2 with rfl | rfl <;> omega)
    exact nats_rdI (l := [2, 0, 1]) ho (by intro i hi; simp at hi; omega)
  have HC6 := Lib.hid (H6.out.1.tick)
  clear H6 HC5 HL5
  go_wp2_with fail
  refine HC6.out.mono ?_
  rintro e wh ⟨rfl, H7⟩
  have HO7 : Hid (Kp (fun k => k = g ∨ k = b) wg wh) := Lib.hid H7.out.2
  have HC7 := Lib.hid (H7.out.1.hear 0)
  clear H7 HC6
  go_wp2_with fail
  refine HC7.out.mono ?_
  rintro e wi ⟨rfl, H8⟩
  have HO8 : Hid (Kp (fun k => k = g ∨ k = b) wg wi) := Lib.hid (HO7.out.trans H8.out.2)
  have HC8 := Lib.hid (H8.out.1.tick)
  clear H8 HC7 HO7
  go_wp2_with fail
  refine HC8.out.mono ?_
  rintro e wj ⟨rfl, H9⟩
  have HO9 : Hid (Kp (fun k => k = g ∨ k = b) wg wj) := Lib.hid (HO8.out.trans H9.out.2)
  have HC9 := Lib.hid (new_bad none 0 0 wj [] 0 1 (by omega) (RdI.nil _ _ _) (by decide))
  clear HC8 HO8
  go_wp2_with fail
  refine HC9.out.mono ?_
  rintro e wk ⟨rfl, hbk⟩
  have HK : Hid (OB w wk g b c v5) := Lib.hid (H9.out.1.below hbk)
  have HR : Hid (RdI wk wk.heap.size A 3 [2, 0, 1]) := Lib.hid (HO6.out wk (HO9.out.trans (Kp.of_below hbk)))
  obtain ⟨wl, hwl⟩ : ∃ wl, wl = wk.alloc (.cells #[.int .i64 2, .int .i64 0, .int .i64 1] 3) := ⟨_, rfl⟩
  have hbl : Below wk.heap.size wk wl := by rw [hwl]; exact belA _ _
  have hkl : Bk wl wk.heap.size 3 #[.int .i64 2, .int .i64 0, .int .i64 1] := by rw [hwl]; exact Bk.new wk _ _
  have hrd : RdI wl wl.heap.size (some ⟨wk.heap.size, 0, none⟩) 3 [2, 0, 1] := ⟨rfl, by intro x hx; simp at hx; omega, fun _ => ⟨_, _, rfl, hkl.lt, fun j hj => by
    rw [Nat.zero_add, hkl.cell]
    have : j = 0 ∨ j = 1 ∨ j = 2 := by simp at hj; omega
    rcases this with rfl | rfl | rfl <;> rfl⟩⟩
  have hcs := (sameInts_any A (some ⟨wk.heap.size, 0, none⟩) 3 cap 3 3 [2, 0, 1] [2, 0, 1] wl (by omega) (HR.out.up hbl) hrd)
  rw [show decide (([2, 0, 1] : List Int) = [2, 0, 1]) = true by decide] at hcs
  have HCS := Lib.hid hcs
  have HL := Lib.hid (HK.out.below hbl)
  have HWl := Lib.hid hwl
  clear hwl hbl hkl hrd hcs HR HK H9 HO9 HO6 HC9 hbk
  go_wp2_with fail
  rw [← HWl.out]
  refine HCS.out.mono ?_
  rintro e wm ⟨rfl, q, rfl⟩
  have HM : Hid (OB w (wl.drewN q) g b c v5) := Lib.hid (HL.out.below (bel_drewN (Below.refl _ _) q))
  have HCM := Lib.hid (HM.out.upC)
  rw [kn_5] at HCM
  obtain ⟨wn, hwn⟩ : ∃ wn, wn = wl.drewN q := ⟨_, rfl⟩
  rw [← hwn] at HCM HM ⊢
  clear hwn HL HCS HWl
  go_wp2_with fail
  refine HCM.out.mono ?_
  rintro e wo ⟨rfl, H10⟩
  have HC10 := Lib.hid (H10.out.1.since 2)
  rw [kn_6] at HC10
  clear HCM HM
  go_wp2_with fail
  refine HC10.out.mono ?_
  rintro e wp ⟨rfl, rfl⟩
  have HC11 := Lib.hid (H10.out.1.calm)
  rw [kn_7] at HC11
  clear HC10
  go_wp2_with fail
  refine HC11.out.mono ?_
  rintro e wp ⟨rfl, rfl⟩
  have HC12 := Lib.hid (H10.out.1.lead HT.out 1)
  rw [kn_8] at HC12
  clear HC11
  go_wp2_with fail
  refine HC12.out.mono ?_
  rintro e wq ⟨rfl, H11⟩
  go_wp2
  go_ret
  exact ⟨rfl, H11.out.1.bel⟩
end Go.Proofs.YtmdjdnibblebcaaDoor
