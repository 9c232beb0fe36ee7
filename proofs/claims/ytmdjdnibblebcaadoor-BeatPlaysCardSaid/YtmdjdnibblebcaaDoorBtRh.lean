/- Layer 14, the document's view: Calm, Hear, Tick. -/
import Derived.Test.YtmdjdnibblebcaaDoorBtR
namespace Go.Proofs.YtmdjdnibblebcaaDoor
open Go.RowKit

section
variable {v : Vw} {now ch : Nat} {h : Nat → Int}
theorem RfP.tick (p : RfP v now ch h) (hb : now + 1 ≤ 1000000) : RfP v.tick (now + 1) (if v.tick.up = v.up then ch else now + 1) h := by
  refine ⟨fun i hi hm => ?_, fun i hi => ?_, ?_, ?_, hb⟩
  · have h1 := p.hs i hi hm
    have hme : i ≠ v.me := hm
    rw [Vw.tick_since v i hi, if_neg hme]
    show (((min (v.since i + 1) v.pat : Nat)) : Int) = if ((now + 1 : Nat) : Int) - h i > v.pat then (v.pat : Int) else ((now + 1 : Nat) : Int) - h i
    have h2 := p.hb i hi
    split at h1 <;> split <;> omega
  · have := p.hb i hi
    omega
  · rw [show v.tick.calm = if v.tick.up = v.up then min (v.calm + 1) 1000 else 0 from rfl, p.cal]
    have := p.che
    split <;> omega
  · have := p.che
    split <;> omega
theorem RfP.hear (p : RfP v now ch h) (k : Nat) : RfP (v.hear k) now (if (v.hear k).up = v.up then ch else now) (updI2 h k now) := by
  refine ⟨fun i hi hm => ?_, fun i hi => ?_, ?_, ?_, p.big⟩
  · show (((updN v.since k 0 i : Nat)) : Int) = if (now : Int) - updI2 h k now i > v.pat then (v.pat : Int) else (now : Int) - updI2 h k now i
    unfold updN updI2
    by_cases e : i = k
    · rw [if_pos e, if_pos e]; split <;> omega
    · rw [if_neg e, if_neg e]; exact p.hs i hi hm
  · unfold updI2
    have := p.hb i hi
    split <;> omega
  · rw [show (v.hear k).calm = if (v.hear k).up = v.up then v.calm else 0 from rfl, p.cal]
    have := p.che
    split <;> omega
  · have := p.che
    split <;> omega
end
/-- Behind the time's step, ahead of the look at who is up. -/
def Vw.tickA (v : Vw) : Vw := { v with since := v.tickT v.n, calm := min (v.calm + 1) 1000 }
theorem RfP.tickA {v : Vw} {now ch : Nat} {h : Nat → Int} (p : RfP v now ch h) (hb : now + 1 ≤ 1000000) : RfP v.tickA (now + 1) ch h := by
  refine ⟨fun i hi hm => (p.tick hb).hs i hi hm, fun i hi => ?_, ?_, by have := p.che; omega, hb⟩
  · have := p.hb i hi
    omega
  · show min (v.calm + 1) 1000 = _
    rw [p.cal]
    have := p.che
    omega
theorem Vw.Ok.tickA {v : Vw} (h : v.Ok) : v.tickA.Ok := ⟨h.n1, h.n12, h.site, h.me, h.tick0.own, h.p1, h.p2, h.tick0.since, Nat.min_le_right _ _⟩
theorem RfP.hear0 {v : Vw} {now ch : Nat} {h : Nat → Int} (p : RfP v now ch h) (k : Nat) : RfP (v.hear0 k) now ch (updI2 h k now) := ⟨(p.hear k).hs, (p.hear k).hb, p.cal, p.che, p.big⟩
section
variable {w w' : World} {g s2 cs t2 ct : Nat} {v : Vw} {now ch : Nat} {h : Nat → Int}
set_option maxRecDepth 100000 in
theorem rcalm_any (r : RM w g s2 cs t2 ct v now ch h) : Calls Tryd.prog 22 #[.pointer (some ⟨g, 0, none⟩)] w fun e w' => e = .returned (.int .i64 (v.calm : Int)) ∧ ∃ q, w' = w.drewN q := by
  have c3 := r.c3
  have c5 := r.c5
  have h1 := r.p.cal
  have h2 := r.p.che
  have h3 := r.p.big
  have s1 : IntKind.i64.wrap ((now : Int) - (ch : Int)) = (now : Int) - (ch : Int) := by rw [IntKind.wrap_i64]; omega
  by_cases hgt : (1000 : Int) < (now : Int) - (ch : Int)
  · have h4 : v.calm = 1000 := by omega
    rw [h4]
    clear r h1 h2 h3 h4
    go_enter Tryd.func22, Tryd.ntmps22
    go_wp2_with fail
    go_quiet (fail)
    go_wp2
    go_ret
    exact ⟨rfl, _, rfl⟩
  · have h4 : (v.calm : Int) = (now : Int) - (ch : Int) := by omega
    rw [h4]
    clear r h1 h2 h3 h4
    go_enter Tryd.func22, Tryd.ntmps22
    go_wp2_with fail
    go_quiet (fail)
    go_wp2_with fail
    go_quiet (fail)
    go_wp2
    go_ret
    exact ⟨rfl, _, World.drewN_drewN w _ _⟩
/-- The document's view behind an act. -/
def RAct (w : World) (g s2 cs t2 ct : Nat) (u : Vw) (now : Nat) (w' : World) : Prop := ∃ ch h, RM w' g s2 cs t2 ct u now ch h ∧ Kp (fun k => k = g ∨ k = t2) w w'
theorem rf_ext {s2 cs t2 ct : Nat} {v u : Vw} {now ch : Nat} (hl : v.Like u) : rfA s2 cs t2 ct v now ch = rfA s2 cs t2 ct u now ch := by
  unfold rfA
  rw [hl.n, hl.me, hl.pat]
/-- When a node was heard is written. -/
theorem RM.setH (r : RM w g s2 cs t2 ct v now ch h) (k : Nat) (hk : k < v.n) (u : Vw) (hu : u.Ok) (hl : v.Like u) (ch2 : Nat) (hp : RfP u now ch2 (updI2 h k now)) (hc : ch2 = ch) : RM (w.setCell ⟨t2, k, none⟩ (.int .i64 (now : Int))) g s2 cs t2 ct u now ch2 (updI2 h k now) := by
  subst hc
  obtain ⟨c1, h1, h2⟩ := r.sr
  obtain ⟨c2, h3, h4, h5⟩ := r.tr
  have hkp : Kp (fun j => j = t2) w (w.setCell ⟨t2, k, none⟩ (.int .i64 (now : Int))) := Kp.set_ (F := fun j => j = t2) (p := ⟨t2, k, none⟩) rfl _
  refine ⟨hu, hp, ?_, r.gs, r.gt, r.st, by rw [hl.n]; exact r.cap, ⟨c1, h1.kp hkp r.st, fun i hi => by rw [hl.site]; exact h2 i (by rw [← hl.n]; exact hi)⟩, ⟨_, h3.set_ k _, by rw [hl.n]; simpa using h4, fun i hi => ?_⟩⟩
  · rw [← rf_ext hl]; exact r.hd.kp hkp r.gt
  · rw [hl.n] at hi
    unfold updI2
    by_cases e : i = k
    · subst e; rw [if_pos rfl, Array.getElem?_setIfInBounds_self_of_lt (by omega)]
    · rw [if_neg e, Array.getElem?_setIfInBounds_ne (fun e2 => e e2.symm)]; exact h5 i hi
/-- The head is written. -/
theorem RM.setG (r : RM w g s2 cs t2 ct v now ch h) (i : Nat) (x : Value) (u : Vw) (hu : u.Ok) (hl : v.Like u) (now2 ch2 : Nat) (hp : RfP u now2 ch2 h) (he : (rfA s2 cs t2 ct v now ch).setIfInBounds i x = rfA s2 cs t2 ct u now2 ch2) : RM (w.setCell ⟨g, i, none⟩ x) g s2 cs t2 ct u now2 ch2 h := by
  obtain ⟨c1, h1, h2⟩ := r.sr
  obtain ⟨c2, h3, h4, h5⟩ := r.tr
  have hkp : Kp (fun j => j = g) w (w.setCell ⟨g, i, none⟩ x) := Kp.set_ (F := fun j => j = g) (p := ⟨g, i, none⟩) rfl _
  exact ⟨hu, hp, by rw [← he]; exact r.hd.set_ i x, r.gs, r.gt, r.st, by rw [hl.n]; exact r.cap, ⟨c1, h1.kp hkp (fun e => r.gs e.symm), fun i hi => by rw [hl.site]; exact h2 i (by rw [← hl.n]; exact hi)⟩, ⟨c2, h3.kp hkp (fun e => r.gt e.symm), by rw [hl.n]; exact h4, fun i hi => h5 i (by rw [← hl.n]; exact hi)⟩⟩
set_option maxRecDepth 100000 in
set_option maxHeartbeats 2000000 in
theorem rhear_any (r : RM w g s2 cs t2 ct v now ch h) (a : Int) : Calls Tryd.prog 16 #[.pointer (some ⟨g, 0, none⟩), .int .i64 a] w fun e w' => e = .returned (.int .i64 (if 0 ≤ a ∧ a < v.n then 0 else 2)) ∧ Hid (RAct w g s2 cs t2 ct (v.hearI a) now w') := by
  have c0 := r.c0
  unfold Vw.hearI
  by_cases h1 : 0 ≤ a ∧ a < (v.n : Int)
  · rw [if_pos h1, if_pos h1]
    obtain ⟨i, rfl⟩ := Int.eq_ofNat_of_zero_le h1.1
    have hi : i < v.n := by omega
    rw [Int.toNat_natCast]
    have m1 : ¬ (v.n : Int) ≤ (i : Int) := by omega
    have m2 : (i : Int) < (v.n : Int) := by omega
    have m0 : ¬ (i : Int) < 0 := by omega
    have HU := Lib.hid (rup_any r)
    have HR := Lib.hid r
    have HI := Lib.hid hi
    clear r h1
    go_enter Tryd.func16, Tryd.ntmps16
    go_wp2_with fail
    refine HU.out.mono ?_
    rintro e w1 ⟨rfl, q, hw1⟩
    have hr1 : RM w1 g s2 cs t2 ct v now ch h := by rw [hw1]; exact HR.out.drewN q
    have hk1 : Kp (fun k => k = g ∨ k = t2) w w1 := by rw [hw1]; exact Kp.drewN _ w q
    have x3 := hr1.c3
    have x4 := hr1.c4
    have x5 := hr1.heard i hi
    obtain ⟨c2, b3, b4, b5⟩ := hr1.tr
    have f1 := b3.frozen i
    obtain ⟨w2, hw2⟩ : ∃ w2, w2 = (w1.setCell ⟨t2, i, none⟩ (.int .i64 (now : Int))).drew := ⟨_, rfl⟩
    have hr2 : RM w2 g s2 cs t2 ct (v.hear0 i) now ch (updI2 h i now) := by
      rw [hw2]
      exact (hr1.setH i hi _ (HR.out.ok.hear0 i) ⟨rfl, rfl, rfl, rfl⟩ ch (HR.out.p.hear0 i) rfl).drewN 1
    have hk2 : Kp (fun k => k = g ∨ k = t2) w w2 := by rw [hw2]; exact (hk1.trans (Kp.set_ (F := fun k => k = g ∨ k = t2) (p := ⟨t2, i, none⟩) (.inr rfl) _)).trans (Kp.drew _ _)
    have HU2 := Lib.hid (rup_any hr2)
    have HR2 := Lib.hid hr2
    have HK2 := Lib.hid hk2
    have HW2 := Lib.hid hw2
    obtain ⟨x, hx⟩ : ∃ x, x = (v.hear0 i).up := ⟨_, rfl⟩
    obtain ⟨y, hy⟩ : ∃ y, y = v.up := ⟨_, rfl⟩
    obtain ⟨z, hz⟩ : ∃ z, z = h i := ⟨_, rfl⟩
    rw [← hx] at HU2
    rw [← hy]
    rw [← hz] at x5
    have HX := Lib.hid (And.intro hx hy)
    clear hr1 hk1 hr2 hk2 hw2 hx hy hz HU hw1 b3 b4 b5 c0 hi
    go_wp2_with fail
    go_region
    rw [← HW2.out]
    go_wp2_with fail
    refine HU2.out.mono ?_
    rintro e w3 ⟨rfl, q3, hw3⟩
    have hr3 : RM w3 g s2 cs t2 ct (v.hear0 i) now ch (updI2 h i now) := by rw [hw3]; exact HR2.out.drewN q3
    have hk3 : Kp (fun k => k = g ∨ k = t2) w w3 := by rw [hw3]; exact HK2.out.trans (Kp.drewN _ w2 q3)
    have y3 := hr3.c3
    have y5 := hr3.c5
    have f5 := hr3.hd.frozen 5
    have HR3 := Lib.hid hr3
    have HK3 := Lib.hid hk3
    clear hr3 hk3 hw3 x3 x4 x5 f1
    by_cases hu : x = y
    · have hu1 : ((x : Int) == (y : Int)) = true := by simp; omega
      have hu2 : (x : Int) = (y : Int) := by omega
      have HE : Hid (v.hear i = v.hear0 i) := Lib.hid (by unfold Vw.hear; rw [if_pos (by rw [← HX.out.1, ← HX.out.2]; exact hu)]; rfl)
      clear hu
      go_wp2
      go_ret
      exact ⟨rfl, Lib.hid ⟨ch, _, by rw [HE.out]; exact HR3.out, HK3.out⟩⟩
    · have hu1 : ((x : Int) == (y : Int)) = false := by simp; omega
      have hu2 : ¬ (x : Int) = (y : Int) := by omega
      have HE : Hid ((v.hear i).up ≠ v.up) := Lib.hid (by
        have : (v.hear i).up = x := by rw [HX.out.1]; rfl
        rw [this, ← HX.out.2]; exact hu)
      clear hu
      go_wp2
      go_ret
      refine ⟨rfl, Lib.hid ⟨now, updI2 h i now, HR3.out.setG 5 _ (v.hear i) (HR.out.ok.hear i) ⟨rfl, rfl, rfl, rfl⟩ now now ?_ rfl, HK3.out.trans (Kp.set_ (F := fun k => k = g ∨ k = t2) (p := ⟨g, 5, none⟩) (.inl rfl) _)⟩⟩
      have hp := HR.out.p.hear i
      rw [if_neg HE.out] at hp
      exact hp
  · rw [if_neg h1, if_neg h1]
    have HR := Lib.hid r
    clear r
    by_cases h0 : a < 0
    · clear h1
      go_enter Tryd.func16, Tryd.ntmps16
      go_wp2
      go_ret
      exact ⟨rfl, Lib.hid ⟨ch, h, HR.out, Kp.refl _ _⟩⟩
    · have h2 : (v.n : Int) ≤ a := by omega
      clear h1
      go_enter Tryd.func16, Tryd.ntmps16
      go_wp2
      go_ret
      exact ⟨rfl, Lib.hid ⟨ch, h, HR.out, Kp.refl _ _⟩⟩
set_option maxRecDepth 100000 in
set_option maxHeartbeats 2000000 in
theorem rtick_any (r : RM w g s2 cs t2 ct v now ch h) (hbig : now + 1 ≤ 1000000) : Calls Tryd.prog 14 #[.pointer (some ⟨g, 0, none⟩)] w fun e w' => e = .returned (.tuple #[]) ∧ Hid (RAct w g s2 cs t2 ct v.tick (now + 1) w') := by
  have HU := Lib.hid (rup_any r)
  have HR := Lib.hid r
  have e1 : IntKind.i64.wrap ((now : Int) + 1) = ((now + 1 : Nat) : Int) := by rw [IntKind.wrap_i64]; omega
  clear r
  go_enter Tryd.func14, Tryd.ntmps14
  go_wp2_with fail
  refine HU.out.mono ?_
  rintro e w1 ⟨rfl, q, hw1⟩
  have hr1 : RM w1 g s2 cs t2 ct v now ch h := by rw [hw1]; exact HR.out.drewN q
  have hk1 : Kp (fun k => k = g ∨ k = t2) w w1 := by rw [hw1]; exact Kp.drewN _ w q
  have x3 := hr1.c3
  have f3 := hr1.hd.frozen 3
  obtain ⟨w2, hw2⟩ : ∃ w2, w2 = w1.setCell ⟨g, 3, none⟩ (.int .i64 ((now + 1 : Nat) : Int)) := ⟨_, rfl⟩
  have hr2 : RM w2 g s2 cs t2 ct v.tickA (now + 1) ch h := by
    rw [hw2]
    exact hr1.setG 3 _ _ HR.out.ok.tickA ⟨rfl, rfl, rfl, rfl⟩ (now + 1) ch (HR.out.p.tickA hbig) rfl
  have hk2 : Kp (fun k => k = g ∨ k = t2) w w2 := by rw [hw2]; exact hk1.trans (Kp.set_ (F := fun k => k = g ∨ k = t2) (p := ⟨g, 3, none⟩) (.inl rfl) _)
  have HU2 := Lib.hid (rup_any hr2)
  have HR2 := Lib.hid hr2
  have HK2 := Lib.hid hk2
  have HW2 := Lib.hid (show w1.setCell ⟨g, 3, none⟩ (.int .i64 ((now : Int) + 1)) = w2 by rw [hw2]; rfl)
  obtain ⟨x, hx⟩ : ∃ x, x = v.tickA.up := ⟨_, rfl⟩
  obtain ⟨y, hy⟩ : ∃ y, y = v.up := ⟨_, rfl⟩
  rw [← hx] at HU2
  rw [← hy]
  have HX := Lib.hid (And.intro (show x = v.tick.up from hx) hy)
  clear hr1 hk1 hr2 hk2 hw2 hx hy HU hw1
  go_upto_region 2 with (fail)
  try rw [HW2.out]
  go_wp2_with fail
  refine HU2.out.mono ?_
  rintro e w3 ⟨rfl, q3, hw3⟩
  have hr3 : RM w3 g s2 cs t2 ct v.tickA (now + 1) ch h := by rw [hw3]; exact HR2.out.drewN q3
  have hk3 : Kp (fun k => k = g ∨ k = t2) w w3 := by rw [hw3]; exact HK2.out.trans (Kp.drewN _ w2 q3)
  have y3 := hr3.c3
  have y5 := hr3.c5
  have f5 := hr3.hd.frozen 5
  have HR3 := Lib.hid hr3
  have HK3 := Lib.hid hk3
  clear hr3 hk3 hw3 x3 f3
  by_cases hu : x = y
  · have hu1 : ((x : Int) == (y : Int)) = true := by simp; omega
    have hu2 : (x : Int) = (y : Int) := by omega
    have h9 : v.tick0.up = v.up := (show v.tick0.up = x from HX.out.1.symm).trans (hu.trans HX.out.2)
    have HE : Hid (v.tick = v.tickA) := Lib.hid (by unfold Vw.tick Vw.tickA; rw [if_pos h9])
    clear h9
    clear hu
    go_wp2
    go_end0
    exact ⟨rfl, Lib.hid ⟨ch, h, by rw [HE.out]; exact HR3.out, HK3.out⟩⟩
  · have hu1 : ((x : Int) == (y : Int)) = false := by simp; omega
    have hu2 : ¬ (x : Int) = (y : Int) := by omega
    have HE : Hid (v.tick.up ≠ v.up) := Lib.hid (by rw [← HX.out.1, ← HX.out.2]; exact hu)
    clear hu
    go_wp2
    go_end0
    refine ⟨rfl, Lib.hid ⟨now + 1, h, HR3.out.setG 5 _ v.tick HR.out.ok.tick ⟨rfl, rfl, rfl, rfl⟩ (now + 1) (now + 1) ?_ rfl, HK3.out.trans (Kp.set_ (F := fun k => k = g ∨ k = t2) (p := ⟨g, 5, none⟩) (.inl rfl) _)⟩⟩
    have hp := HR.out.p.tick hbig
    rw [if_neg HE.out] at hp
    exact hp
end
end Go.Proofs.YtmdjdnibblebcaaDoor
