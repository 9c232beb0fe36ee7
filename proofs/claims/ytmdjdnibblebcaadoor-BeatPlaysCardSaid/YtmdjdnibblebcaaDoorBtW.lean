/- Layer 14: two views apart; what is heard, tick by tick. -/
import Derived.Test.YtmdjdnibblebcaaDoorBtJ
namespace Go.Proofs.YtmdjdnibblebcaaDoor
open Go.RowKit

/-- Two views of the call's own, apart. -/
structure TwoV (W w : World) (g b c : Nat) (v : Vw) (g2 b2 c2 : Nat) (u : Vw) : Prop where
  one : OB W w g b c v
  two : OB W w g2 b2 c2 u
  a1 : g2 ≠ g
  a2 : g2 ≠ b
  a3 : b2 ≠ g
  a4 : b2 ≠ b
theorem TwoV.step {W w w' : World} {g b c g2 b2 c2 : Nat} {v u v' : Vw} (h : TwoV W w g b c v g2 b2 c2 u) (h1 : OB W w' g b c v') (hk : Kp (fun k => k = g ∨ k = b) w w') : TwoV W w' g b c v' g2 b2 c2 u :=
  ⟨h1, ⟨h.two.ov.kp hk (fun e => by rcases e with e | e; exact h.a1 e; exact h.a2 e) (fun e => by rcases e with e | e; exact h.a3 e; exact h.a4 e), h1.bel⟩, h.a1, h.a2, h.a3, h.a4⟩
theorem TwoV.below {W w w' : World} {g b c g2 b2 c2 : Nat} {v u : Vw} (h : TwoV W w g b c v g2 b2 c2 u) (hb : Below w.heap.size w w') : TwoV W w' g b c v g2 b2 c2 u := ⟨h.one.below hb, h.two.below hb, h.a1, h.a2, h.a3, h.a4⟩
theorem TwoV.swap {W w : World} {g b c g2 b2 c2 : Nat} {v u : Vw} (h : TwoV W w g b c v g2 b2 c2 u) : TwoV W w g2 b2 c2 u g b c v := ⟨h.two, h.one, h.a1.symm, h.a3.symm, h.a2.symm, h.a4.symm⟩
theorem TwoV.step2 {W w w' : World} {g b c g2 b2 c2 : Nat} {v u u' : Vw} (h : TwoV W w g b c v g2 b2 c2 u) (h1 : OB W w' g2 b2 c2 u') (hk : Kp (fun k => k = g2 ∨ k = b2) w w') : TwoV W w' g b c v g2 b2 c2 u' := (h.swap.step h1 hk).swap
namespace Vw
theorem hearI_since (v : Vw) (a : Int) (k : Nat) (hk : k < v.n) : (v.hearI a).since k = if (k : Int) = a then 0 else v.since k := by
  unfold hearI
  by_cases h : 0 ≤ a ∧ a < v.n
  · rw [if_pos h]
    show updN v.since a.toNat 0 k = _
    unfold updN
    by_cases e : k = a.toNat
    · rw [if_pos e, if_pos (by omega)]
    · rw [if_neg e, if_neg (by omega)]
  · rw [if_neg h, if_neg (by omega)]
theorem tick_since (v : Vw) (k : Nat) (hk : k < v.n) : v.tick.since k = if k = v.me then v.since k else min (v.since k + 1) v.pat := by
  show v.tickT v.n k = _
  unfold tickT
  by_cases e : k = v.me
  · rw [if_neg (by omega), if_pos e]
  · rw [if_pos ⟨hk, e⟩, if_neg e]
/-- Who is not of H was not heard for r ticks. -/
def AgL (v : Vw) (H : Nat → Prop) (r : Nat) : Prop := ∀ k, k < v.n → ¬ H k → min r v.pat ≤ v.since k
/-- Who is of S was just heard. -/
def AgH (v : Vw) (S : Nat → Prop) : Prop := ∀ k, k < v.n → S k → v.since k = 0
theorem AgL.zero (v : Vw) (H : Nat → Prop) : AgL v H 0 := fun k _ _ => by omega
theorem AgL.tick {v : Vw} {H : Nat → Prop} {r : Nat} (h : AgL v H r) (hm : H v.me) : AgL v.tick H (r + 1) := fun k hk hn => by
  have h1 := h k hk hn
  have hne : k ≠ v.me := fun e => hn (by rw [e]; exact hm)
  rw [tick_since v k hk, if_neg hne]
  show min (r + 1) v.pat ≤ _
  omega
theorem AgL.hear {v : Vw} {H : Nat → Prop} {r : Nat} (h : AgL v H r) (a : Int) (ha : ∀ k : Nat, (k : Int) = a → H k) : AgL (v.hearI a) H r := fun k hk hn => by
  have hl := Like.hearI v a
  rw [hl.n] at hk
  rw [hearI_since v a k hk, if_neg (fun e => hn (ha k e)), hl.pat]
  exact h k hk hn
theorem AgH.me {v : Vw} (h : v.Ok) : AgH v (fun k => k = v.me) := fun k _ e => by rw [e]; exact h.own
theorem AgH.hear {v : Vw} {S : Nat → Prop} (h : AgH v S) (a : Int) : AgH (v.hearI a) (fun k => S k ∨ (k : Int) = a) := fun k hk hs => by
  have hl := Like.hearI v a
  rw [hl.n] at hk
  rw [hearI_since v a k hk]
  split
  · rfl
  · rename_i h1
    exact h k hk (hs.resolve_right h1)
theorem AgH.mono {v : Vw} {S T : Nat → Prop} (h : AgH v S) (ht : ∀ k, T k → S k) : AgH v T := fun k hk hs => h k hk (ht k hs)
theorem AgH.tick_me {v : Vw} (h : v.Ok) : AgH v.tick (fun k => k = v.me) := AgH.me h.tick
theorem agree {v w : Vw} (hv : v.Ok) (hw : w.Ok) (hn : w.n = v.n) {H : Nat → Prop} {r s : Nat} (h1 : AgL v H r) (h2 : AgH v H) (h3 : AgL w H s) (h4 : AgH w H) (hr : v.pat ≤ r) (hs2 : w.pat ≤ s) : w.up = v.up := by
  unfold up
  rw [hn]
  refine upS_congr fun k hk => ?_
  by_cases h : H k
  · rw [h2 k hk h, h4 k (by omega) h]
    have := hv.p1; have := hw.p1
    omega
  · have e1 := h1 k hk h
    have e2 := h3 k (by omega) h
    omega
end Vw
end Go.Proofs.YtmdjdnibblebcaaDoor
