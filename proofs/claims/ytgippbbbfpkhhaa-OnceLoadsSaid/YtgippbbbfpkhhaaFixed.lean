/- Fixed, the program's and the document's: the number of four bytes that stands at a place, or the error. -/
import Derived.Test.YtgippbbbfpkhhaaBinUint
import Derived.Lib.EndianBits
namespace Go.Proofs.Ytgippbbbfpkhhaa
open Go.RowKit

/-- Bytes' number, the highest first. -/
def be (l : List UInt8) : Nat := l.foldl (fun n c => n * 256 + c.toNat) 0
theorem be_snoc (l : List UInt8) (c : UInt8) : be (l ++ [c]) = be l * 256 + c.toNat := by simp [be]
theorem be_lt (l : List UInt8) : be l < 256 ^ l.length := by
  have : ∀ (r : List UInt8) (n k : Nat), n < 256 ^ k → r.foldl (fun n c => n * 256 + c.toNat) n < 256 ^ (k + r.length) := by
    intro r
    induction r with
    | nil => intro n k h; simpa using h
    | cons c r ih =>
      intro n k h
      have hc := c.toNat_lt
      have h1 : n * 256 + c.toNat < 256 ^ (k + 1) := by rw [Nat.pow_succ]; omega
      have := ih _ _ h1
      rw [List.foldl_cons, List.length_cons, show k + (r.length + 1) = k + 1 + r.length by omega]
      exact this
  simpa [be] using this l 0 0 (by decide)

/-- What stands at a place. -/
def fixAt (l : List UInt8) (a : Int) : Int × Int × Int :=
  if a < 0 ∨ (l.length : Int) < a then (0, 0, 2) else if (l.length : Int) - a < 4 then (0, 0, 10) else ((be ((l.drop a.toNat).take 4) : Nat), a + 4, 0)

theorem or256 (n c : Nat) (hc : c < 256) : (n * 256) ||| c = n * 256 + c := by
  rw [Nat.mul_comm]
  exact (Nat.two_pow_add_eq_or_of_lt (i := 8) hc n).symm
theorem u32_or_byte (n c : Nat) (hn : n < 16777216) (hc : c < 256) : bits .or .u32 ((n : Int) * 256) (c : Int) = ((n * 256 + c : Nat) : Int) := by
  have h := (bits_nat .u32 32 (by decide) wraps_u32 (n * 256) c (by omega) (by omega)).2
  rw [or256 n c hc] at h
  rw [← h]
  rfl

end Go.Proofs.Ytgippbbbfpkhhaa
