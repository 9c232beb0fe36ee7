/- Layer 14: who leads (BeatLeads). -/
import Derived.Test.YtmdjdnibblebcaaDoorBtU
namespace Go.Proofs.YtmdjdnibblebcaaDoor
open Go.RowKit
namespace Vw
/-- If only those of an elder order are up, the order is the elder one without those that are not. -/
theorem order_sub {v u : Vw} (hv : v.Ok) (hu : u.Ok) (hl : v.Like u) (home : Int) (h : ∀ k, k < u.n → u.since k < u.pat → k ∈ v.order home) : u.order home = (v.order home).filter fun i => u.up.testBit i := by
  have hs : ∀ i ∈ lstU u.up, u.site i < 12 := fun i hi => hu.site i (by have := ((mem_lst _ _).1 hi).2; rw [up_bit] at this; simp at this; exact this.1)
  unfold order
  symm
  refine ordL_unique (lst_sorted _) hs ?_ ?_
  · refine (List.perm_ext_iff_of_nodup (List.Pairwise.filter _ (order_nodup v home)) (lst_nodup _)).2 fun i => ?_
    rw [List.mem_filter, mem_lst]
    constructor
    · rintro ⟨h1, h2⟩
      have := ((mem_order hv home i).1 h1).1
      have := hv.n12
      exact ⟨by omega, h2⟩
    · rintro ⟨h1, h2⟩
      refine ⟨?_, h2⟩
      rw [up_bit] at h2
      simp at h2
      exact h i h2.1 h2.2
  · rw [hl.site]
    refine List.Pairwise.filter _ ?_
    exact (ordL_sorted (lst_sorted _)).imp fun h => h.1
theorem head_filter {l : List Nat} {p : Nat → Bool} (j : Nat) (hj : j < l.length) (h1 : p l[j] = true) (h2 : ∀ i (hi : i < j), p (l[i]'(by omega)) = false) : (l.filter p).headD 0 = l[j] := by
  induction l generalizing j with
  | nil => simp at hj
  | cons a r ih =>
    cases j with
    | zero =>
      have h3 : p a = true := h1
      rw [List.filter_cons, if_pos h3]
      rfl
    | succ j =>
      have h3 : p a = false := h2 0 (by omega)
      rw [List.filter_cons, if_neg (by rw [h3]; simp)]
      exact ih j (by simp at hj; omega) h1 fun i hi => h2 (i + 1) (by omega)
theorem lead_at {v u : Vw} (hv : v.Ok) (hu : u.Ok) (hl : v.Like u) (home : Int) (h : ∀ k, k < u.n → u.since k < u.pat → k ∈ v.order home) (j : Nat) (hj : j < (v.order home).length) (h1 : u.up.testBit (v.order home)[j] = true)
    (h2 : ∀ i (hi : i < j), u.up.testBit ((v.order home)[i]'(by omega)) = false) : u.lead home = (v.order home)[j] := by
  unfold lead
  rw [order_sub hv hu hl home h]
  exact head_filter (p := fun i => u.up.testBit i) j hj h1 h2
/-- Only those of a list may be up. -/
def Only (u : Vw) (L : List Nat) : Prop := ∀ k, k < u.n → u.since k < u.pat → k ∈ L
theorem Only.tick {u : Vw} {L : List Nat} (h : Only u L) : Only u.tick L := fun k hk hs => by
  have hs2 : u.tick.since k < u.pat := hs
  rw [tick_since u k hk] at hs2
  by_cases e : k = u.me
  · rw [if_pos e] at hs2; exact h k hk hs2
  · rw [if_neg e] at hs2
    exact h k hk (by omega)
theorem Only.hear {u : Vw} {L : List Nat} (h : Only u L) (x : Nat) (hx : x ∈ L) : Only (u.hearI x) L := fun k hk hs => by
  have hl := Like.hearI u x
  rw [hl.n] at hk
  rw [hl.pat, hearI_since u x k hk] at hs
  split at hs
  · have : k = x := by omega
    subst this; exact hx
  · exact h k hk hs
/-- Heard just now: those of the list from place g on, below place j. -/
def Hd (u : Vw) (L : List Nat) (g j : Nat) : Prop := ∀ i (hi : i < L.length), g ≤ i → i < j → u.since (L[i]) = 0
theorem Hd.hear {u : Vw} {L : List Nat} {g j : Nat} (h : Hd u L g j) (hj : j < L.length) (hL : ∀ k ∈ L, k < u.n) : Hd (u.hearI (L[j] : Nat)) L g (j + 1) := fun i hi h1 h2 => by
  rw [hearI_since u _ _ (hL _ (List.getElem_mem hi))]
  split
  · rfl
  · rename_i hne
    exact h i hi h1 (by
      by_cases e : i = j
      · subst e; exact absurd rfl hne
      · omega)
end Vw
end Go.Proofs.YtmdjdnibblebcaaDoor
