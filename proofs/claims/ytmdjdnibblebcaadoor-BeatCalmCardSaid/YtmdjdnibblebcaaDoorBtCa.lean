/- Layer 14: the same beats tick by tick (BeatCalm). -/
import Derived.Test.YtmdjdnibblebcaaDoorBtW
namespace Go.Proofs.YtmdjdnibblebcaaDoor
open Go.RowKit
namespace Vw

/-- Heard within a round so far: the view's own node, and the first j beats. -/
def Hm (me : Nat) (l : List Int) (j k : Nat) : Prop := k = me ∨ ∃ i, ∃ hi : i < l.length, i < j ∧ (k : Int) = l[i]
/-- Ahead of round r. -/
structure CaR (v : Vw) (H : Nat → Prop) (r c : Nat) : Prop where
  c1 : c ≤ 1
  z0 : r = 0 → (∀ k, k < v.n → k ≠ v.me → v.since k = v.pat) ∧ v.calm = 0
  z1 : 1 ≤ r → (∀ k, k < v.n → H k → v.since k = 0) ∧ (∀ k, k < v.n → ¬ H k → v.since k = v.pat) ∧ v.calm = c + (r - 1)
/-- Within round r, behind j beats. -/
structure CaI (v : Vw) (H : Nat → Prop) (l : List Int) (r j c : Nat) : Prop where
  c1 : c ≤ 1
  z : ∀ k, k < v.n → Hm v.me l j k → v.since k = 0
  o : ∀ k, k < v.n → ¬ H k → v.since k = v.pat
  m : 1 ≤ r → ∀ k, k < v.n → H k → v.since k ≤ 1
  a : r = 0 → v.calm ≤ 1
  b : 1 ≤ r → v.calm = c + r
theorem tick_calm (v : Vw) : v.tick.calm = if v.tick.up = v.up then min (v.calm + 1) 1000 else 0 := rfl
theorem hear_calm (v : Vw) (k : Nat) : (v.hear k).calm = if (v.hear k).up = v.up then v.calm else 0 := rfl
theorem hearI_calm (v : Vw) (a : Int) : (v.hearI a).calm = if (v.hearI a).up = v.up then v.calm else 0 := by
  unfold hearI
  split
  · exact hear_calm v a.toNat
  · rw [if_pos rfl]
theorem hearI_calm_le (v : Vw) (a : Int) : (v.hearI a).calm ≤ v.calm := by rw [hearI_calm]; split <;> omega
theorem up_eq {v u : Vw} (hn : u.n = v.n) (h : ∀ k, k < v.n → (u.since k < u.pat ↔ v.since k < v.pat)) : u.up = v.up := by
  unfold up
  rw [hn]
  exact upS_congr h
theorem CaR.tick {v : Vw} {H : Nat → Prop} {r c : Nat} (l : List Int) (h : CaR v H r c) (ok : v.Ok) (hp : 2 ≤ v.pat) (hm : H v.me) (hr : r ≤ 100) : CaI v.tick H l r 0 c := by
  have hu : v.tick.up = v.up := up_eq rfl fun k hk => by
    show v.tick.since k < v.pat ↔ _
    rw [tick_since v k hk]
    split
    · exact Iff.rfl
    · rename_i hne
      by_cases h0 : r = 0
      · have := (h.z0 h0).1 k hk hne
        omega
      · have hz := h.z1 (by omega)
        by_cases hH : H k
        · have := hz.1 k hk hH; omega
        · have := hz.2.1 k hk hH; omega
  have hcal : v.tick.calm = min (v.calm + 1) 1000 := by rw [tick_calm, if_pos hu]
  refine ⟨h.c1, ?_, ?_, ?_, ?_, ?_⟩
  · rintro k hk (e | ⟨i, _, hi, _⟩)
    · have e2 : k = v.me := e
      rw [tick_since v k hk, if_pos e2, e2]; exact ok.own
    · omega
  · intro k hk hn
    have hne : k ≠ v.me := fun e => hn (by rw [e]; exact hm)
    show v.tick.since k = v.pat
    rw [tick_since v k hk, if_neg hne]
    by_cases h0 : r = 0
    · rw [(h.z0 h0).1 k hk hne]; omega
    · rw [(h.z1 (by omega)).2.1 k hk hn]; omega
  · intro hr1 k hk hH
    rw [tick_since v k hk]
    have := (h.z1 hr1).1 k hk hH
    split <;> omega
  · intro h0
    rw [hcal, (h.z0 h0).2]; omega
  · intro h1
    rw [hcal, (h.z1 h1).2.2]
    have := h.c1
    omega
theorem CaI.hear {v : Vw} {H : Nat → Prop} {l : List Int} {r j c : Nat} (h : CaI v H l r j c) (hp : 2 ≤ v.pat) {x : Int} (hj : j < l.length) (hx : x = l[j]) (hH : ∀ k : Nat, (k : Int) = x → H k) : CaI (v.hearI x) H l r (j + 1) c := by
  have hl := Like.hearI v x
  have hu : 1 ≤ r → (v.hearI x).up = v.up := fun h1 => up_eq hl.n fun k hk => by
    rw [hl.pat, hearI_since v x k hk]
    split
    · rename_i e
      have := h.m h1 k hk (hH k e)
      omega
    · exact Iff.rfl
  refine ⟨h.c1, ?_, ?_, ?_, ?_, ?_⟩
  · rintro k hk hs
    rw [hl.n] at hk
    rw [hl.me] at hs
    rw [hearI_since v x k hk]
    split
    · rfl
    · rename_i hne
      refine h.z k hk ?_
      rcases hs with e | ⟨i, hi, hij, e⟩
      · exact .inl e
      · refine .inr ⟨i, hi, ?_, e⟩
        by_cases e2 : i = j
        · subst e2; exact absurd (by rw [hx]; exact e) hne
        · omega
  · intro k hk hn
    rw [hl.n] at hk
    rw [hl.pat, hearI_since v x k hk, if_neg (fun e => hn (hH k e))]
    exact h.o k hk hn
  · intro h1 k hk hs
    rw [hl.n] at hk
    rw [hearI_since v x k hk]
    have := h.m h1 k hk hs
    split <;> omega
  · intro h0
    exact Nat.le_trans (hearI_calm_le v x) (h.a h0)
  · intro h1
    rw [hearI_calm, if_pos (hu h1)]
    exact h.b h1
/-- At a round's end. -/
theorem CaI.done {v : Vw} {H : Nat → Prop} {l : List Int} {r j c : Nat} (h : CaI v H l r j c) (hH : ∀ k, H k → Hm v.me l j k) : ∃ c', CaR v H (r + 1) c' ∧ (1 ≤ r → c' = c) := by
  by_cases h0 : r = 0
  · exact ⟨v.calm, ⟨h.a h0, fun e => by omega, fun _ => ⟨fun k hk hs => h.z k hk (hH k hs), h.o, by omega⟩⟩, fun e => by omega⟩
  · exact ⟨c, ⟨h.c1, fun e => by omega, fun _ => ⟨fun k hk hs => h.z k hk (hH k hs), h.o, by rw [h.b (by omega)]; omega⟩⟩, fun _ => rfl⟩
theorem CaR.same {v u : Vw} {H : Nat → Prop} {r s c d : Nat} (h : CaR v H r c) (k : CaR u H s d) (hr : 1 ≤ r) (hs : 1 ≤ s) (hl : v.Like u) : u.up = v.up := up_eq hl.n fun i hi => by
  rw [hl.pat]
  have h1 := h.z1 hr
  have h2 := k.z1 hs
  by_cases e : H i
  · rw [h1.1 i hi e, h2.1 i (by rw [hl.n]; exact hi) e]
  · rw [h1.2.1 i hi e, h2.2.1 i (by rw [hl.n]; exact hi) e, hl.pat]
theorem lead_same {v u : Vw} (hl : v.Like u) (hu : u.up = v.up) (home : Int) : u.lead home = v.lead home := by
  unfold lead order
  rw [hl.site, hu]
end Vw
end Go.Proofs.YtmdjdnibblebcaaDoor
