/- Layer 14: a view and the document's view of one life, side by side; each call on them. -/
import Derived.Test.YtmdjdnibblebcaaDoorBtRn
import Derived.Test.YtmdjdnibblebcaaDoorBtOr
namespace Go.Proofs.YtmdjdnibblebcaaDoor
open Go.RowKit

structure PlS (W w : World) (g b c g2 s2 cs t2 ct : Nat) (v u : Vw) (now : Nat) : Prop where
  pv : PV w g b c v
  rm : ∃ ch h, RM w g2 s2 cs t2 ct u now ch h
  bel : Below W.heap.size W w
  ge : W.heap.size ≤ g ∧ W.heap.size ≤ b ∧ W.heap.size ≤ g2 ∧ W.heap.size ≤ s2 ∧ W.heap.size ≤ t2
  ap : g ≠ g2 ∧ g ≠ s2 ∧ g ≠ t2 ∧ b ≠ g2 ∧ b ≠ s2 ∧ b ≠ t2
section
variable {W w w' : World} {g b c g2 s2 cs t2 ct : Nat} {v u : Vw} {now : Nat}
theorem PlS.below (h : PlS W w g b c g2 s2 cs t2 ct v u now) (hb : Below w.heap.size w w') : PlS W w' g b c g2 s2 cs t2 ct v u now := by
  obtain ⟨ch, hh, r⟩ := h.rm
  exact ⟨h.pv.below hb, ⟨ch, hh, r.below hb⟩, h.bel.trans (hb.mono h.bel.size), h.ge, h.ap⟩
theorem PlS.stepB (h : PlS W w g b c g2 s2 cs t2 ct v u now) {v' : Vw} (hp : PV w' g b c v') (hk : Kp (fun k => k = g ∨ k = b) w w') : PlS W w' g b c g2 s2 cs t2 ct v' u now := by
  obtain ⟨ch, hh, r⟩ := h.rm
  obtain ⟨a1, a2, a3, a4, a5, a6⟩ := h.ap
  obtain ⟨e1, e2, e3, e4, e5⟩ := h.ge
  exact ⟨hp, ⟨ch, hh, r.kp hk (by rintro (e | e) <;> omega) (by rintro (e | e) <;> omega) (by rintro (e | e) <;> omega)⟩, h.bel.trans (hk.below (fun k e => by rcases e with e | e <;> omega) h.bel.size), h.ge, h.ap⟩
theorem PlS.stepR (h : PlS W w g b c g2 s2 cs t2 ct v u now) {u' : Vw} {now' : Nat} (ha : RAct w g2 s2 cs t2 ct u' now' w') : PlS W w' g b c g2 s2 cs t2 ct v u' now' := by
  obtain ⟨ch, hh, r, hk⟩ := ha
  obtain ⟨a1, a2, a3, a4, a5, a6⟩ := h.ap
  obtain ⟨e1, e2, e3, e4, e5⟩ := h.ge
  exact ⟨h.pv.kp hk (by rintro (e | e) <;> omega) (by rintro (e | e) <;> omega), ⟨ch, hh, r⟩, h.bel.trans (hk.below (fun k e => by rcases e with e | e <;> omega) h.bel.size), h.ge, h.ap⟩
theorem PlS.tickB (h : PlS W w g b c g2 s2 cs t2 ct v u now) : Calls Tryd.prog 13 #[.pointer (some ⟨g, 0, none⟩)] w fun e w' => e = .returned (.tuple #[]) ∧ Hid (PlS W w' g b c g2 s2 cs t2 ct v.tick u now) := by
  refine (tick_any h.pv).mono ?_
  rintro e w' ⟨rfl, H⟩
  exact ⟨rfl, Lib.hid (h.stepB H.out.1 H.out.2)⟩
theorem PlS.tickR (h : PlS W w g b c g2 s2 cs t2 ct v u now) (hn : now + 1 ≤ 1000000) : Calls Tryd.prog 14 #[.pointer (some ⟨g2, 0, none⟩)] w fun e w' => e = .returned (.tuple #[]) ∧ Hid (PlS W w' g b c g2 s2 cs t2 ct v u.tick (now + 1)) := by
  obtain ⟨ch, hh, r⟩ := h.rm
  refine (rtick_any r hn).mono ?_
  rintro e w' ⟨rfl, H⟩
  exact ⟨rfl, Lib.hid (h.stepR H.out)⟩
theorem PlS.hearB (h : PlS W w g b c g2 s2 cs t2 ct v u now) (a : Int) : Calls Tryd.prog 15 #[.pointer (some ⟨g, 0, none⟩), .int .i64 a] w fun e w' => e = .returned (.int .i64 (if 0 ≤ a ∧ a < v.n then 0 else 2)) ∧ Hid (PlS W w' g b c g2 s2 cs t2 ct (v.hearI a) u now) := by
  refine (hear_any h.pv a).mono ?_
  rintro e w' ⟨rfl, H⟩
  exact ⟨rfl, Lib.hid (h.stepB H.out.1 H.out.2)⟩
theorem PlS.hearR (h : PlS W w g b c g2 s2 cs t2 ct v u now) (a : Int) : Calls Tryd.prog 16 #[.pointer (some ⟨g2, 0, none⟩), .int .i64 a] w fun e w' => e = .returned (.int .i64 (if 0 ≤ a ∧ a < u.n then 0 else 2)) ∧ Hid (PlS W w' g b c g2 s2 cs t2 ct v (u.hearI a) now) := by
  obtain ⟨ch, hh, r⟩ := h.rm
  refine (rhear_any r a).mono ?_
  rintro e w' ⟨rfl, H⟩
  exact ⟨rfl, Lib.hid (h.stepR H.out)⟩
theorem order_lt12 (hok : v.Ok) (home : Int) : ∀ i ∈ v.order home, i < 12 := fun i hi => by
  have h1 := ((Vw.mem_order hok home i).1 hi).1
  have h2 := hok.n12
  omega
/-- An order as the call's own row of numbers. -/
def RowI (w : World) (A : Option Addr) (n : Nat) (l : List Nat) : Prop := RdI w w.heap.size A n (l.map fun (i : Nat) => (i : Int))
theorem RowI.up {A : Option Addr} {n : Nat} {l : List Nat} (h : RowI w A n l) (hb : Below w.heap.size w w') : RowI w' A n l := RdI.up h hb
theorem PlS.orderB (h : PlS W w g b c g2 s2 cs t2 ct v u now) (hT : Tz W) (home : Int) : Calls Tryd.prog 17 #[.pointer (some ⟨g, 0, none⟩), .int .i64 home] w fun e w' =>
    ∃ A cap, e = .returned (.slice A (v.order home).length cap) ∧ Hid (PlS W w' g b c g2 s2 cs t2 ct v u now ∧ RowI w' A (v.order home).length (v.order home)) := by
  refine (order_any h.pv (hT.below h.bel hT.lt) home).mono ?_
  rintro e w' ⟨val, rfl, hb, ho⟩
  obtain ⟨A, cap, rfl, _⟩ := own_shape ho
  exact ⟨A, cap, rfl, Lib.hid ⟨h.below hb, nats_rdI ho (order_lt12 h.pv.ok home)⟩⟩
/-- Both orders are there. -/
structure PlX (W w : World) (g b c g2 s2 cs t2 ct : Nat) (v : Vw) (now : Nat) (home : Int) (A : Option Addr) (ky : Nat) : Prop where
  s : PlS W w g b c g2 s2 cs t2 ct v v now
  x : RowI w A (v.order home).length (v.order home)
  y : RowI w (some ⟨ky, 0, none⟩) (v.order home).length (v.order home)
  lt : ky < w.heap.size
  c0 : w.cell? ⟨ky, 0, none⟩ = some (.int .i64 ((v.lead home : Nat) : Int))
theorem PlS.orderR (h : PlS W w g b c g2 s2 cs t2 ct v v now) (home : Int) {A : Option Addr} (hx : RowI w A (v.order home).length (v.order home)) : Calls Tryd.prog 18 #[.pointer (some ⟨g2, 0, none⟩), .int .i64 home] w fun e w' =>
    ∃ ky cap, e = .returned (.slice (some ⟨ky, 0, none⟩) (v.order home).length cap) ∧ Hid (PlX W w' g b c g2 s2 cs t2 ct v now home A ky) := by
  obtain ⟨ch, hh, r⟩ := h.rm
  have hne := List.length_pos_iff.2 (Vw.order_ne h.pv.ok home)
  refine (rorder_any r home).mono ?_
  rintro e w' ⟨val, rfl, hb, ho⟩
  obtain ⟨A2, cap, rfl, _⟩ := own_shape ho
  have hrow := nats_rdI ho (order_lt12 h.pv.ok home)
  rcases ho.2 with ⟨_, e0⟩ | ⟨k, cp, cur, e, hge, hh2, _⟩
  · omega
  · injection e with e e2 e3
    subst e
    refine ⟨k, cap, rfl, Lib.hid ⟨h.below hb, hx.up hb, hrow, ?_, ?_⟩⟩
    · obtain ⟨b9, o9, e9, hlt, _⟩ := hrow.2.2 hne
      injection e9 with e9
      injection e9 with e9 _ _
      omega
    · rw [ho.cellAt 0 (by omega)]
      unfold Vw.lead
      rw [headD_at _ hne]
      simp [natsV, hne]
section
variable {home : Int} {A : Option Addr} {ky : Nat}
theorem PlX.below (h : PlX W w g b c g2 s2 cs t2 ct v now home A ky) (hb : Below w.heap.size w w') : PlX W w' g b c g2 s2 cs t2 ct v now home A ky :=
  ⟨h.s.below hb, h.x.up hb, h.y.up hb, Nat.lt_of_lt_of_le h.lt hb.size, (hb.cell (p := ⟨ky, 0, none⟩) h.lt).trans h.c0⟩
theorem PlX.upB (h : PlX W w g b c g2 s2 cs t2 ct v now home A ky) : ∀ W', Below w.heap.size w W' → Calls Tryd.prog 19 #[.pointer (some ⟨g, 0, none⟩)] W' fun e w' => e = .returned (.int .u32 (v.up : Int)) ∧ Below w.heap.size w w' := fun _ hb =>
  (up_any (h.s.below hb).pv).mono fun _ _ h2 => ⟨h2.1, below_then hb h2.2⟩
theorem PlX.upR (h : PlX W w g b c g2 s2 cs t2 ct v now home A ky) : ∀ W', Below w.heap.size w W' → Calls Tryd.prog 20 #[.pointer (some ⟨g2, 0, none⟩)] W' fun e w' => e = .returned (.int .u32 (v.up : Int)) ∧ Below w.heap.size w w' := fun W' hb => by
  obtain ⟨ch, hh, r⟩ := (h.s.below hb).rm
  refine (rup_any r).mono ?_
  rintro e w' ⟨rfl, q, rfl⟩
  exact ⟨rfl, below_then hb (bel_drewN (Below.refl _ _) q)⟩
theorem PlX.calmB (h : PlX W w g b c g2 s2 cs t2 ct v now home A ky) : ∀ W', Below w.heap.size w W' → Calls Tryd.prog 21 #[.pointer (some ⟨g, 0, none⟩)] W' fun e w' => e = .returned (.int .i64 (v.calm : Int)) ∧ Below w.heap.size w w' := fun W' hb => by
  refine (calm_any (h.s.below hb).pv).mono ?_
  rintro e w' ⟨rfl, rfl⟩
  exact ⟨rfl, hb⟩
theorem PlX.calmR (h : PlX W w g b c g2 s2 cs t2 ct v now home A ky) : ∀ W', Below w.heap.size w W' → Calls Tryd.prog 22 #[.pointer (some ⟨g2, 0, none⟩)] W' fun e w' => e = .returned (.int .i64 (v.calm : Int)) ∧ Below w.heap.size w w' := fun W' hb => by
  obtain ⟨ch, hh, r⟩ := (h.s.below hb).rm
  refine (rcalm_any r).mono ?_
  rintro e w' ⟨rfl, q, rfl⟩
  exact ⟨rfl, below_then hb (bel_drewN (Below.refl _ _) q)⟩
theorem PlX.sinceB (h : PlX W w g b c g2 s2 cs t2 ct v now home A ky) (a : Int) : ∀ W', Below w.heap.size w W' → Calls Tryd.prog 23 #[.pointer (some ⟨g, 0, none⟩), .int .i64 a] W' fun e w' => e = .returned (.int .i64 (v.sinceI a)) ∧ Below w.heap.size w w' := fun W' hb => by
  refine (since_any (h.s.below hb).pv a).mono ?_
  rintro e w' ⟨rfl, rfl⟩
  exact ⟨rfl, hb⟩
theorem PlX.sinceR (h : PlX W w g b c g2 s2 cs t2 ct v now home A ky) (a : Int) : ∀ W', Below w.heap.size w W' → Calls Tryd.prog 24 #[.pointer (some ⟨g2, 0, none⟩), .int .i64 a] W' fun e w' => e = .returned (.int .i64 (v.sinceI a)) ∧ Below w.heap.size w w' := fun W' hb => by
  obtain ⟨ch, hh, r⟩ := (h.s.below hb).rm
  refine (rsince_any r a).mono ?_
  rintro e w' ⟨rfl, q, rfl⟩
  exact ⟨rfl, below_then hb (bel_drewN (Below.refl _ _) q)⟩
theorem PlX.leadB (h : PlX W w g b c g2 s2 cs t2 ct v now home A ky) (hT : Tz W) : ∀ W', Below w.heap.size w W' → Calls Tryd.prog 26 #[.pointer (some ⟨g, 0, none⟩), .int .i64 home] W' fun e w' => e = .returned (.int .i64 ((v.lead home : Nat) : Int)) ∧ Below w.heap.size w w' := fun _ hb =>
  (leader_any (h.s.below hb).pv (hT.below (h.s.below hb).bel hT.lt) home).mono fun _ _ h2 => ⟨h2.1, below_then hb h2.2⟩
theorem PlX.sameX (h : PlX W w g b c g2 s2 cs t2 ct v now home A ky) (cx cy : Nat) : ∀ W', Below w.heap.size w W' → Calls Tryd.prog 25 #[.slice A (v.order home).length cx, .slice (some ⟨ky, 0, none⟩) (v.order home).length cy] W' fun e w' => e = .returned (.bool true) ∧ Below w.heap.size w w' := fun W' hb => by
  have hl : (v.order home).length ≤ 9223372036854775807 := by
    have h1 := Vw.order_len h.s.pv.ok home
    have h2 := h.s.pv.ok.n12
    omega
  refine (sameInts_any _ _ _ _ _ _ _ _ W' hl (h.below hb).x (h.below hb).y).mono ?_
  rintro e w' ⟨rfl, q, rfl⟩
  exact ⟨by simp, below_then hb (bel_drewN (Below.refl _ _) q)⟩
end
end
end Go.Proofs.YtmdjdnibblebcaaDoor
