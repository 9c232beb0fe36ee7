/- Plain: a greater number has no fewer bytes; different numbers have different forms. -/
import Derived.Test.YtlnbebeghfhfdaaGets
namespace Go.Proofs.Ytlnbebeghfhfdaa
theorem uvarint_mono (m n : Nat) (h : m ≤ n) : (Lib.uvarint m).length ≤ (Lib.uvarint n).length := by
  induction n using Nat.strongRecOn generalizing m with
  | ind n ih =>
    by_cases hm : m < 128
    · rw [Lib.uvarint_small hm]; exact Lib.uvarint_pos n
    · rw [Lib.uvarint_big (by omega), Lib.uvarint_big (show 128 ≤ n by omega), List.length_cons, List.length_cons]
      have := ih (n / 128) (by omega) (m / 128) (by omega)
      omega
theorem uvarint_one (m : Nat) : (Lib.uvarint m).length = 1 ↔ m < 128 := by
  by_cases hm : m < 128
  · rw [Lib.uvarint_small hm]; simp [hm]
  · rw [Lib.uvarint_big (by omega)]
    have := Lib.uvarint_pos (m / 128)
    simp [hm]
    intro h
    rw [h] at this
    simp at this
theorem uvarint_inj {m n : Nat} (hm : m < 18446744073709551616) (hn : n < 18446744073709551616) (h : Lib.uvarint m = Lib.uvarint n) : m = n := by
  have h1 := uu0_back m [] hm
  have h2 := uu0_back n [] hn
  rw [h, h2] at h1
  simp at h1
  exact h1.symm
end Go.Proofs.Ytlnbebeghfhfdaa
