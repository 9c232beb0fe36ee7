/- Int, the program's and the document's: the number with a sign that stands at a place, or the error. -/
import Derived.Test.YtgippbbbfpkhhaaBinUint
import Derived.Test.YtgippbbbfpkhhaaRefUint
import Derived.Laws.DeepNot64
namespace Go.Proofs.Ytgippbbbfpkhhaa
open Go.RowKit

/-- The number with a sign. -/
def unzig (u : Nat) : Int := if u % 2 = 1 then -((u / 2 : Nat) : Int) - 1 else ((u / 2 : Nat) : Int)

/-- What uintAt tells: a number that 64 bits hold, a place that an int holds, one of four errors. -/
theorem uintAt_form (l : List UInt8) (a : Int) (hl : l.length ≤ 9223372036854775807) : ∃ (v to e : Nat), uintAt l a = ((v : Int), (to : Int), (e : Int)) ∧ v < 18446744073709551616 ∧ to ≤ l.length ∧ (e = 0 ∧ 0 ≤ a ∧ a < to ∨ (e = 2 ∨ e = 10 ∨ e = 11) ∧ v = 0 ∧ to = 0) := by
  by_cases h1 : a < 0 ∨ (l.length : Int) < a
  · exact ⟨0, 0, 2, by rw [uintAt_out l a h1]; rfl, by omega, by omega, by omega⟩
  · obtain ⟨k, rfl⟩ := Int.eq_ofNat_of_zero_le (show 0 ≤ a by omega)
    rw [uintAt_in l k (by omega)]
    cases hu : uu 0 (l.drop k) with
    | ok x =>
      obtain ⟨v, m⟩ := x
      have := uu_pos hu
      rw [List.length_drop] at this
      exact ⟨v, k + m, 0, rfl, uu0_lt hu, by omega, by omega⟩
    | error e =>
      have he : e = 10 ∨ e = 11 := by
        have : ∀ (s : List UInt8) (i : Nat), uu i s = .error e → e = 10 ∨ e = 11 := by
          intro s
          induction s with
          | nil => intro i h; simp [uu] at h; omega
          | cons c r ih =>
            intro i h
            rw [uu] at h
            split at h
            · simp at h; omega
            · split at h
              · simp at h
              · cases h3 : uu (i + 1) r with
                | ok x => rw [h3] at h; simp at h
                | error e' => rw [h3] at h; simp at h; subst h; exact ih _ h3
        exact this _ _ hu
      exact ⟨0, 0, e, rfl, by omega, by omega, by omega⟩

def intAt (l : List UInt8) (a : Int) : Int × Int × Int := (unzig (uintAt l a).1.toNat, (uintAt l a).2.1, (uintAt l a).2.2)

theorem u64_and_one (n : Nat) (h : n < 18446744073709551616) : bits .and .u64 (n : Int) 1 = ((n % 2 : Nat) : Int) := by
  have h1 := u64_and_nat n 1 h (by decide)
  have e : ((1 : Nat) : Int) = 1 := rfl
  rw [e] at h1
  rw [h1, Nat.and_one_is_mod]

end Go.Proofs.Ytgippbbbfpkhhaa
