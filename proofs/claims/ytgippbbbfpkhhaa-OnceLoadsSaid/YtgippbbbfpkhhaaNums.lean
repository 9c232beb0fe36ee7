/- Plain mathematics of numbers in bytes: how long a form is, by how many bits the number has. No program is named here. -/
import Derived.Lib.VarintMem
import Derived.Lib.BitFns
import Derived.Laws.BitsAllLaws
namespace Go.Proofs.Ytgippbbbfpkhhaa

theorem or_one_half (m : Nat) : (m ||| 1) / 2 = m / 2 := by
  rw [Nat.or_div_two]; simp
theorem or_one_128 (m : Nat) : (m ||| 1) / 128 = m / 128 := by
  have h := or_one_half m
  omega
theorem or_one_lt (m : Nat) (h : m < 18446744073709551616) : m ||| 1 < 18446744073709551616 := Nat.or_lt_two_pow (n := 64) h (by decide)
theorem or_one_le (m : Nat) : m ≤ m ||| 1 := Nat.left_le_or
theorem or_one_ne (m : Nat) : m ||| 1 ≠ 0 := by
  intro h
  have h1 : 1 ≤ m ||| 1 := Nat.right_le_or
  omega

theorem bitLen_or_one (m : Nat) (h0 : 1 ≤ m) (h : m < 18446744073709551616) : Lib.bitLen (m ||| 1) = Lib.bitLen m := by
  rw [Lib.bitLen_half (m ||| 1) (or_one_ne m) (or_one_lt m h), Lib.bitLen_half m (by omega) h, or_one_half]

theorem bitLen_small : ∀ n : Fin 128, (Lib.bitLen (n.val ||| 1) + 6) / 7 = 1 := by decide +kernel

/-- How many bytes a number's form has. -/
theorem uvarint_len_eq (n : Nat) : n < 18446744073709551616 → (Lib.uvarint n).length = (Lib.bitLen (n ||| 1) + 6) / 7 := by
  induction n using Nat.strongRecOn with
  | ind n ih =>
    intro h
    by_cases hs : n < 128
    · rw [Lib.uvarint_small hs]
      exact (bitLen_small ⟨n, hs⟩).symm
    · rw [Lib.uvarint_big (by omega), List.length_cons, ih (n / 128) (by omega) (by omega)]
      have hle := or_one_le n
      rw [Lib.bitLen_shift 7 (n ||| 1) (by omega) (or_one_lt n h)]
      have e : (n ||| 1) / 2 ^ 7 = n / 128 := or_one_128 n
      rw [e, bitLen_or_one (n / 128) (by omega) (by omega)]
      omega

theorem u64_or_one (n : Nat) (h : n < 18446744073709551616) : bits .or .u64 (n : Int) 1 = ((n ||| 1 : Nat) : Int) := by
  exact u64_or_nat n 1 h (by decide)

theorem bitLen_le64 (n : Nat) (h : n < 18446744073709551616) : Lib.bitLen n ≤ 64 := Lib.bitLen_le n 64 (by omega) h

/-- c &^ 128 of a byte from 128 on. -/
theorem u8_clear (n : Nat) (h : 128 ≤ n) (h2 : n < 256) : bits .andNot .u8 (n : Int) 128 = ((n - 128 : Nat) : Int) := by
  have h1 := u8_andNot_nat n 128 h2 (by decide)
  have e : ((128 : Nat) : Int) = 128 := rfl
  rw [e] at h1
  rw [h1]
  have h3 : n &&& 127 = n % 2 ^ 7 := Nat.and_two_pow_sub_one_eq_mod n 7
  rw [show 255 - 128 = 127 from rfl, h3]
  omega

/-- x << 7k. -/
theorem shl_7 {P : Program} (x k : Nat) (hk : k ≤ 9) (hx : x * 128 ^ k < 18446744073709551616) (w : World) : (Op.shift .shl .u64 (x : Int) .i64 ((k : Int) * 7)).run P w = .ok (.int .u64 ((x * 128 ^ k : Nat) : Int)) w := by
  unfold Op.shift
  have e1 : ((k : Int) * 7).toNat = 7 * k := by omega
  have e2 : min (7 * k) IntKind.u64.bits = 7 * k := Nat.min_eq_left (by show 7 * k ≤ 64; omega)
  have e3 : (x : Int) * 2 ^ (7 * k) = ((x * 128 ^ k : Nat) : Int) := by
    have : 128 ^ k = 2 ^ (7 * k) := by rw [Nat.pow_mul]
    rw [this, Int.natCast_mul, Int.natCast_pow]
    rfl
  have e4 : IntKind.u64.wrap ((x * 128 ^ k : Nat) : Int) = ((x * 128 ^ k : Nat) : Int) := by rw [IntKind.wrap_u64]; omega
  rw [if_neg (by omega), e1, e2]
  simp only [e3, e4, Sem.run_pure]

end Go.Proofs.Ytgippbbbfpkhhaa
