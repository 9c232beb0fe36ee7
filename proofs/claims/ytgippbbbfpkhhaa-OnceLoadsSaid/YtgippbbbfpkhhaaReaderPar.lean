/- Plain: the two Readers side by side: what one has left is what stands behind the other's place. -/
import Derived.Test.YtgippbbbfpkhhaaReaderT
import Derived.Test.YtgippbbbfpkhhaaReaderB
namespace Go.Proofs.Ytgippbbbfpkhhaa
open Go.RowKit

/-- What both have: what the one has left is what stands behind the other's place; with an error nothing is left. -/
structure Par (l : List UInt8) (rem : List UInt8) (p err : Nat) : Prop where
  good : err = 0 → rem = l.drop p
  bad : err ≠ 0 → rem = []
  le : p ≤ l.length
  small : err ≤ 11

theorem Par.left {l rem : List UInt8} {p err : Nat} (h : Par l rem p err) : ((rem.length : Nat) : Int) = (if err ≠ 0 then 0 else ((l.length - p : Nat) : Int)) := by
  by_cases he : err = 0
  · rw [if_neg (by simp [he]), h.good he, List.length_drop]
  · rw [if_pos he, h.bad he]; rfl

theorem next_num (l rem : List UInt8) (p err : Nat) (hl : l.length ≤ 9223372036854775807) (h : Par l rem p err) :
    ∃ (v p' e' : Nat) (rem' : List UInt8), nextU rem err = (v, rem', e') ∧ nextUR l p err = (v, p', e') ∧ Par l rem' p' e' ∧ v < 18446744073709551616 := by
  unfold nextU nextUR
  by_cases he : err = 0
  · subst he
    have hr := h.good rfl
    subst hr
    have hp := h.le
    rw [if_neg (show ¬ ((0 : Nat) ≠ 0) by simp), if_neg (show ¬ ((0 : Nat) ≠ 0) by simp)]
    rcases uintAt_shift l p hl hp with ⟨v, k, h1, h2, hk1, hk2, hv⟩ | ⟨e, h1, h2, he1, he2⟩
    · rw [h1, h2]
      simp only [ne_eq, not_true_eq_false, if_false, Int.toNat_natCast, List.drop_drop]
      exact ⟨v, p + k, 0, _, rfl, rfl, ⟨fun _ => rfl, fun h => absurd rfl h, hk2, by omega⟩, hv⟩
    · rw [h1, h2]
      simp only
      rw [if_pos (by omega), if_pos (by omega), Int.toNat_natCast]
      exact ⟨0, p, e, [], rfl, rfl, ⟨by omega, fun _ => rfl, hp, he2⟩, by omega⟩
  · rw [if_pos he, if_pos he]
    exact ⟨0, p, err, rem, rfl, rfl, h, by omega⟩

theorem next_text (l rem : List UInt8) (p err : Nat) (most : Int) (hl : l.length ≤ 9223372036854775807) (h : Par l rem p err) :
    ∃ (t : List UInt8) (p' e' : Nat) (rem' : List UInt8), nextB rem err most = (t, rem', e') ∧ nextBR l p err most = (t, p', e') ∧ Par l rem' p' e' ∧ t.length ≤ l.length := by
  unfold nextB nextBR
  by_cases he : err = 0
  · subst he
    have hr := h.good rfl
    subst hr
    have hp := h.le
    rw [if_neg (show ¬ ((0 : Nat) ≠ 0) by simp), if_neg (show ¬ ((0 : Nat) ≠ 0) by simp)]
    rcases txtAt_shift l p most hl hp with ⟨t, k, h1, h2, hk1, hk2, hv⟩ | ⟨e, h1, h2, he1, he2⟩
    · rw [h1, h2]
      simp only [ne_eq, not_true_eq_false, if_false, Int.toNat_natCast, List.drop_drop]
      exact ⟨t, p + k, 0, _, rfl, rfl, ⟨fun _ => rfl, fun h => absurd rfl h, hk2, by omega⟩, hv⟩
    · rw [h1, h2]
      simp only
      rw [if_pos (by omega), if_pos (by omega), Int.toNat_natCast]
      exact ⟨[], p, e, [], rfl, rfl, ⟨by omega, fun _ => rfl, hp, he2⟩, by simp⟩
  · rw [if_pos he, if_pos he]
    exact ⟨[], p, err, rem, rfl, rfl, h, by simp⟩
end Go.Proofs.Ytgippbbbfpkhhaa
