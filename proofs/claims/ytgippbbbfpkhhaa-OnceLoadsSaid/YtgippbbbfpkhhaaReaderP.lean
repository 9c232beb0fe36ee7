/- Plain: what a Reader tells, step by step, over what is left; the same over all bytes at a place. And blocks that are known whole. -/
import Derived.Test.YtgippbbbfpkhhaaBackP
import Derived.Test.YtgippbbbfpkhhaaBk
namespace Go.Proofs.Ytgippbbbfpkhhaa
open Go.RowKit


/-- The place behind, counted from what is left. -/
theorem uintAt_shift (l : List UInt8) (p : Nat) (hl : l.length ≤ 9223372036854775807) (hp : p ≤ l.length) :
    (∃ v k : Nat, uintAt (l.drop p) 0 = ((v : Int), (k : Int), 0) ∧ uintAt l (p : Int) = ((v : Int), ((p + k : Nat) : Int), 0) ∧ 1 ≤ k ∧ p + k ≤ l.length ∧ v < 18446744073709551616) ∨
    (∃ e : Nat, uintAt (l.drop p) 0 = (0, 0, (e : Int)) ∧ uintAt l (p : Int) = (0, 0, (e : Int)) ∧ 1 ≤ e ∧ e ≤ 11) := by
  have h0 := uintAt_in (l.drop p) 0 (by omega)
  rw [List.drop_zero] at h0
  have h1 := uintAt_in l p hp
  have e0 : ((0 : Nat) : Int) = 0 := rfl
  rw [e0] at h0
  cases hu : uu 0 (l.drop p) with
  | ok x =>
    obtain ⟨v, k⟩ := x
    rw [hu] at h0 h1
    have hk := uu_pos hu
    rw [List.length_drop] at hk
    refine .inl ⟨v, k, ?_, ?_, hk.1, by omega, uu0_lt hu⟩
    · rw [h0]
      simp [ans]
    · rw [h1]
      simp [ans]
  | error e =>
    rw [hu] at h0 h1
    obtain ⟨v, tt, e', hf, _, _, hee⟩ := uintAt_form l p hl
    rw [h1] at hf
    simp only [ans, Prod.mk.injEq] at hf
    exact .inr ⟨e, h0, h1, by omega, by omega⟩

theorem txtAt_shift (l : List UInt8) (p : Nat) (most : Int) (hl : l.length ≤ 9223372036854775807) (hp : p ≤ l.length) :
    (∃ (t : List UInt8) (k : Nat), txtAt (l.drop p) 0 most = (t, (k : Int), 0) ∧ txtAt l (p : Int) most = (t, ((p + k : Nat) : Int), 0) ∧ 1 ≤ k ∧ p + k ≤ l.length ∧ t.length ≤ l.length) ∨
    (∃ e : Nat, txtAt (l.drop p) 0 most = ([], 0, (e : Int)) ∧ txtAt l (p : Int) most = ([], 0, (e : Int)) ∧ 1 ≤ e ∧ e ≤ 11) := by
  rcases uintAt_shift l p hl hp with ⟨v, k, h1, h2, hk, hkl, _⟩ | ⟨e, h1, h2, he1, he2⟩
  · unfold txtAt
    rw [h1, h2]
    simp only [ne_eq, not_true_eq_false, if_false]
    by_cases h3 : max most 0 < (v : Int)
    · rw [if_pos h3, if_pos h3]
      exact .inr ⟨3, rfl, rfl, by omega, by omega⟩
    · rw [if_neg h3, if_neg h3]
      by_cases h4 : (l.length : Int) - ((p + k : Nat) : Int) < (v : Int)
      · rw [if_pos h4, if_pos (by rw [List.length_drop]; omega)]
        exact .inr ⟨10, rfl, rfl, by omega, by omega⟩
      · rw [if_neg h4, if_neg (by rw [List.length_drop]; omega)]
        rw [Int.toNat_natCast, Int.toNat_natCast, Int.toNat_natCast, List.drop_drop]
        refine .inl ⟨_, k + v, rfl, ?_, by omega, by omega, by rw [List.length_take, List.length_drop]; omega⟩
        refine Prod.ext rfl (Prod.ext ?_ rfl)
        show ((p + k : Nat) : Int) + (v : Int) = ((p + (k + v) : Nat) : Int)
        omega
  · unfold txtAt
    rw [h1, h2]
    simp only
    rw [if_pos (by omega), if_pos (by omega)]
    exact .inr ⟨e, rfl, rfl, he1, he2⟩
end Go.Proofs.Ytgippbbbfpkhhaa
