/- Of the proofs of layer 4, merged: Nums, Gets, Gets2. -/
import Derived.Lib.VarintMem
import Derived.Lib.BitFns
import Derived.Laws.BitsAllLaws

/- Plain mathematics of numbers in bytes: how long a form is, by how many bits the number has. No program is named here. -/
namespace Go.Proofs.Ytfghbhjljbdlmaa

theorem or_one_half (m : Nat) : (m ||| 1) / 2 = m / 2 := by
  rw [Nat.or_div_two]; simp
theorem or_one_128 (m : Nat) : (m ||| 1) / 128 = m / 128 := by
  have h := or_one_half m
  omega
theorem or_one_lt (m : Nat) (h : m < 18446744073709551616) : m ||| 1 < 18446744073709551616 := Nat.or_lt_two_pow (n := 64) h (by decide)
theorem or_one_le (m : Nat) : m ≤ m ||| 1 := Nat.left_le_or
theorem or_one_ne (m : Nat) : m ||| 1 ≠ 0 := by
  intro h
  have h1 : 1 ≤ m ||| 1 := Nat.right_le_or
  omega

theorem bitLen_or_one (m : Nat) (h0 : 1 ≤ m) (h : m < 18446744073709551616) : Lib.bitLen (m ||| 1) = Lib.bitLen m := by
  rw [Lib.bitLen_half (m ||| 1) (or_one_ne m) (or_one_lt m h), Lib.bitLen_half m (by omega) h, or_one_half]

theorem bitLen_small : ∀ n : Fin 128, (Lib.bitLen (n.val ||| 1) + 6) / 7 = 1 := by decide +kernel

/-- How many bytes a number's form has. -/
theorem uvarint_len_eq (n : Nat) : n < 18446744073709551616 → (Lib.uvarint n).length = (Lib.bitLen (n ||| 1) + 6) / 7 := by
  induction n using Nat.strongRecOn with
  | ind n ih =>
    intro h
    by_cases hs : n < 128
    · rw [Lib.uvarint_small hs]
      exact (bitLen_small ⟨n, hs⟩).symm
    · rw [Lib.uvarint_big (by omega), List.length_cons, ih (n / 128) (by omega) (by omega)]
      have hle := or_one_le n
      rw [Lib.bitLen_shift 7 (n ||| 1) (by omega) (or_one_lt n h)]
      have e : (n ||| 1) / 2 ^ 7 = n / 128 := or_one_128 n
      rw [e, bitLen_or_one (n / 128) (by omega) (by omega)]
      omega

theorem u64_or_one (n : Nat) (h : n < 18446744073709551616) : bits .or .u64 (n : Int) 1 = ((n ||| 1 : Nat) : Int) := by
  exact u64_or_nat n 1 h (by decide)

theorem bitLen_le64 (n : Nat) (h : n < 18446744073709551616) : Lib.bitLen n ≤ 64 := Lib.bitLen_le n 64 (by omega) h

/-- c &^ 128 of a byte from 128 on. -/
theorem u8_clear (n : Nat) (h : 128 ≤ n) (h2 : n < 256) : bits .andNot .u8 (n : Int) 128 = ((n - 128 : Nat) : Int) := by
  have h1 := u8_andNot_nat n 128 h2 (by decide)
  have e : ((128 : Nat) : Int) = 128 := rfl
  rw [e] at h1
  rw [h1]
  have h3 : n &&& 127 = n % 2 ^ 7 := Nat.and_two_pow_sub_one_eq_mod n 7
  rw [show 255 - 128 = 127 from rfl, h3]
  omega

/-- x << 7k. -/
theorem shl_7 {P : Program} (x k : Nat) (hk : k ≤ 9) (hx : x * 128 ^ k < 18446744073709551616) (w : World) : (Op.shift .shl .u64 (x : Int) .i64 ((k : Int) * 7)).run P w = .ok (.int .u64 ((x * 128 ^ k : Nat) : Int)) w := by
  unfold Op.shift
  have e1 : ((k : Int) * 7).toNat = 7 * k := by omega
  have e2 : min (7 * k) IntKind.u64.bits = 7 * k := Nat.min_eq_left (by show 7 * k ≤ 64; omega)
  have e3 : (x : Int) * 2 ^ (7 * k) = ((x * 128 ^ k : Nat) : Int) := by
    have : 128 ^ k = 2 ^ (7 * k) := by rw [Nat.pow_mul]
    rw [this, Int.natCast_mul, Int.natCast_pow]
    rfl
  have e4 : IntKind.u64.wrap ((x * 128 ^ k : Nat) : Int) = ((x * 128 ^ k : Nat) : Int) := by rw [IntKind.wrap_u64]; omega
  rw [if_neg (by omega), e1, e2]
  simp only [e3, e4, Sem.run_pure]

end Go.Proofs.Ytfghbhjljbdlmaa

/- Plain mathematics: the number that stands at the head of a list of bytes, in the chapter's one form. No program is named here. -/
namespace Go.Proofs.Ytfghbhjljbdlmaa

/-- From byte i of a form on: the rest's number, how many bytes, or the error. -/
def uu (i : Nat) : List UInt8 → Except Nat (Nat × Nat)
  | [] => .error 10
  | c :: r =>
    if (i = 9 ∧ 1 < c.toNat) ∨ (0 < i ∧ c.toNat = 0) then .error 11
    else if c.toNat < 128 then .ok (c.toNat, 1)
    else match uu (i + 1) r with
      | .ok (v, k) => .ok (c.toNat - 128 + 128 * v, k + 1)
      | .error e => .error e

/-- What stands at a place: the number, the place behind it, the error. -/
def uintAt (l : List UInt8) (at_ : Int) : Int × Int × Int :=
  if at_ < 0 ∨ (l.length : Int) < at_ then (0, 0, 2)
  else match uu 0 (l.drop at_.toNat) with
    | .ok (v, k) => ((v : Int), at_ + (k : Int), 0)
    | .error e => (0, 0, (e : Int))

/-- The answer at a place inside. -/
def ans (a : Nat) : Except Nat (Nat × Nat) → Int × Int × Int
  | .ok (v, k) => ((v : Int), (a : Int) + (k : Int), 0)
  | .error e => (0, 0, (e : Int))

theorem uintAt_in (l : List UInt8) (a : Nat) (h : a ≤ l.length) : uintAt l (a : Int) = ans a (uu 0 (l.drop a)) := by
  unfold uintAt
  rw [if_neg (by omega), Int.toNat_natCast]
  cases uu 0 (l.drop a) with
  | error e => rfl
  | ok x => rfl
theorem uintAt_out (l : List UInt8) (a : Int) (h : a < 0 ∨ (l.length : Int) < a) : uintAt l a = (0, 0, 2) := by
  unfold uintAt
  rw [if_pos h]

/-- The bytes that were read come ahead. -/
def lift (k acc : Nat) : Except Nat (Nat × Nat) → Except Nat (Nat × Nat)
  | .ok (v, m) => .ok (acc + 128 ^ k * v, k + m)
  | .error e => .error e

theorem lift_zero (x : Except Nat (Nat × Nat)) : lift 0 0 x = x := by
  match x with
  | .ok (v, m) => simp [lift]
  | .error e => rfl

theorem uu_form {i : Nat} {c : UInt8} {r : List UInt8} (h : (i = 9 ∧ 1 < c.toNat) ∨ (0 < i ∧ c.toNat = 0)) : uu i (c :: r) = .error 11 := by
  rw [uu, if_pos h]
theorem uu_last {i : Nat} {c : UInt8} {r : List UInt8} (h : ¬ ((i = 9 ∧ 1 < c.toNat) ∨ (0 < i ∧ c.toNat = 0))) (h2 : c.toNat < 128) : uu i (c :: r) = .ok (c.toNat, 1) := by
  rw [uu, if_neg h, if_pos h2]
theorem uu_more {i k acc : Nat} {c : UInt8} {r : List UInt8} (h : ¬ ((i = 9 ∧ 1 < c.toNat) ∨ (0 < i ∧ c.toNat = 0))) (h2 : ¬ c.toNat < 128) :
    lift k acc (uu i (c :: r)) = lift (k + 1) (acc + 128 ^ k * (c.toNat - 128)) (uu (i + 1) r) := by
  rw [uu, if_neg h, if_neg h2]
  cases hu : uu (i + 1) r with
  | error e => rfl
  | ok x =>
    obtain ⟨v, m⟩ := x
    have e1 : acc + 128 ^ k * (c.toNat - 128 + 128 * v) = acc + 128 ^ k * (c.toNat - 128) + 128 ^ (k + 1) * v := by
      rw [Nat.pow_succ, Nat.mul_add, Nat.mul_assoc, Nat.add_assoc]
    have e2 : k + (m + 1) = k + 1 + m := by omega
    simp only [lift, e1, e2]

theorem uu_pos {i : Nat} {l : List UInt8} {v k : Nat} (h : uu i l = .ok (v, k)) : 1 ≤ k ∧ k ≤ l.length := by
  induction l generalizing i v k with
  | nil => simp [uu] at h
  | cons c r ih =>
    rw [uu] at h
    split at h
    · simp at h
    · split at h
      · simp at h; simp; omega
      · cases hu : uu (i + 1) r with
        | error e => rw [hu] at h; simp at h
        | ok x =>
          obtain ⟨v', k'⟩ := x
          rw [hu] at h
          simp at h
          have := ih hu
          simp
          omega

theorem step_form {s : List UInt8} {k acc : Nat} {c : UInt8} {r : List UInt8} (h : uu 0 s = lift k acc (uu k (c :: r))) (h2 : (k = 9 ∧ 1 < c.toNat) ∨ (0 < k ∧ c.toNat = 0)) : uu 0 s = .error 11 := by
  rw [h, uu_form h2]; rfl
theorem step_last {s : List UInt8} {k acc : Nat} {c : UInt8} {r : List UInt8} (h : uu 0 s = lift k acc (uu k (c :: r))) (h2 : ¬ ((k = 9 ∧ 1 < c.toNat) ∨ (0 < k ∧ c.toNat = 0))) (h3 : c.toNat < 128) : uu 0 s = .ok (acc + 128 ^ k * c.toNat, k + 1) := by
  rw [h, uu_last h2 h3]; rfl
theorem step_more {s : List UInt8} {k acc : Nat} {c : UInt8} {r : List UInt8} (h : uu 0 s = lift k acc (uu k (c :: r))) (h2 : ¬ ((k = 9 ∧ 1 < c.toNat) ∨ (0 < k ∧ c.toNat = 0))) (h3 : ¬ c.toNat < 128) : uu 0 s = lift (k + 1) (acc + 128 ^ k * (c.toNat - 128)) (uu (k + 1) r) := by
  rw [h, uu_more h2 h3]
theorem step_end {s : List UInt8} {k acc : Nat} (h : uu 0 s = lift k acc (uu k [])) : uu 0 s = .error 10 := by
  rw [h]; rfl
theorem acc_lt {k acc x : Nat} (h : acc < 128 ^ k) (hx : x < 128) : acc + 128 ^ k * x < 128 ^ (k + 1) := by
  rw [Nat.pow_succ]
  have : 128 ^ k * (x + 1) ≤ 128 ^ k * 128 := Nat.mul_le_mul_left _ hx
  rw [Nat.mul_add, Nat.mul_one] at this
  omega

/-- acc, and further bits behind it. -/
theorem or_shift (k acc x : Nat) (h : acc < 128 ^ k) : acc ||| (x * 128 ^ k) = acc + 128 ^ k * x := by
  have e : 128 ^ k = 2 ^ (7 * k) := by rw [Nat.pow_mul]
  rw [e] at h ⊢
  rw [Nat.or_comm, Nat.mul_comm, ← Nat.two_pow_add_eq_or_of_lt h, Nat.add_comm]

theorem u64_or_shift (k acc x : Nat) (h : acc < 128 ^ k) (hlt : x * 128 ^ k < 18446744073709551616) (hk : k ≤ 9) : bits .or .u64 (acc : Int) ((x * 128 ^ k : Nat) : Int) = ((acc + 128 ^ k * x : Nat) : Int) := by
  have hp : 128 ^ k ≤ 128 ^ 9 := Nat.pow_le_pow_right (by decide) hk
  have h9 : 128 ^ 9 = 9223372036854775808 := by decide
  rw [u64_or_nat acc _ (by omega) hlt, or_shift k acc x h]
/-- The same as the walk spells it. -/
theorem or_shift_walk (k acc x : Nat) (h : acc < 128 ^ k) (hlt : x * 128 ^ k < 18446744073709551616) (hk : k ≤ 9) : bits .or .u64 (acc : Int) (IntKind.u64.wrap ((x : Int) * 2 ^ (k * 7))) = ((acc + 128 ^ k * x : Nat) : Int) := by
  have e : (x : Int) * 2 ^ (k * 7) = ((x * 128 ^ k : Nat) : Int) := by
    have : 128 ^ k = 2 ^ (k * 7) := by rw [Nat.mul_comm, Nat.pow_mul]
    rw [this, Int.natCast_mul, Int.natCast_pow]
    rfl
  have e4 : IntKind.u64.wrap ((x * 128 ^ k : Nat) : Int) = ((x * 128 ^ k : Nat) : Int) := by rw [IntKind.wrap_u64]; omega
  rw [e, e4, u64_or_shift k acc x h hlt hk]
theorem or_shift_9 (acc x : Nat) (h : acc < 128 ^ 9) (hlt : x ≤ 1) : bits .or .u64 (acc : Int) ((x : Int) * 9223372036854775808) = ((acc + 128 ^ 9 * x : Nat) : Int) := by
  have e2 : x * 128 ^ 9 < 18446744073709551616 := by
    have := Nat.mul_le_mul_right (128 ^ 9) hlt
    exact Nat.lt_of_le_of_lt this (by decide)
  have e3 := u64_or_shift 9 acc x h e2 (by omega)
  have e : ((x * 128 ^ 9 : Nat) : Int) = (x : Int) * 9223372036854775808 := by
    rw [Int.natCast_mul]; rfl
  rw [e] at e3
  exact e3
theorem shl_lt {k x : Nat} (hk : k ≤ 9) (h : x < 128) (h9 : k = 9 → x ≤ 1) : x * 128 ^ k < 18446744073709551616 := by
  by_cases hk9 : k = 9
  · subst hk9
    have := Nat.mul_le_mul_right (128 ^ 9) (h9 rfl)
    exact Nat.lt_of_le_of_lt this (by decide)
  · have h1 := Nat.pow_le_pow_right (n := 128) (by decide) (show k ≤ 8 by omega)
    have h3 : x * 128 ^ k ≤ 127 * 128 ^ 8 := Nat.mul_le_mul (by omega) h1
    exact Nat.lt_of_le_of_lt h3 (by decide)

theorem pow128_le {k : Nat} (h : k ≤ 9) : 128 ^ k ≤ 9223372036854775808 := by
  have := Nat.pow_le_pow_right (n := 128) (by decide) h
  exact Nat.le_trans this (by decide)

/-- What a form may hold from byte i on: the bits that are left of 64. -/
theorem uu_lt {i : Nat} {l : List UInt8} {v k : Nat} (hi : i ≤ 9) (h : uu i l = .ok (v, k)) : v * 128 ^ i < 18446744073709551616 := by
  induction l generalizing i v k with
  | nil => simp [uu] at h
  | cons c r ih =>
    rw [uu] at h
    have hc := c.toNat_lt
    split at h
    · simp at h
    · rename_i hn
      split at h
      · rename_i h2
        simp at h
        obtain ⟨rfl, rfl⟩ := h
        by_cases h9 : i = 9
        · subst h9
          have : c.toNat ≤ 1 := by omega
          have := Nat.mul_le_mul_right (128 ^ 9) this
          refine Nat.lt_of_le_of_lt this (by decide)
        · have h1 := Nat.pow_le_pow_right (n := 128) (by decide) (show i ≤ 8 by omega)
          have h3 : c.toNat * 128 ^ i ≤ 127 * 128 ^ 8 := Nat.mul_le_mul (by omega) h1
          refine Nat.lt_of_le_of_lt h3 (by decide)
      · rename_i h2
        have hi8 : i + 1 ≤ 9 := by omega
        cases hu : uu (i + 1) r with
        | error e => rw [hu] at h; simp at h
        | ok x =>
          obtain ⟨v', k'⟩ := x
          rw [hu] at h
          simp at h
          obtain ⟨rfl, rfl⟩ := h
          have := ih hi8 hu
          rw [Nat.add_mul]
          have e : 128 * v' * 128 ^ i = v' * 128 ^ (i + 1) := by rw [Nat.pow_succ, Nat.mul_comm 128 v', Nat.mul_assoc, Nat.mul_comm 128]
          rw [e]
          -- the number so far is below 128 ^ (i + 1), and the rest is a multiple of it
          have e2 : 18446744073709551616 = 2 ^ (64 - 7 * (i + 1)) * 128 ^ (i + 1) := by
            have e3 : 128 ^ (i + 1) = 2 ^ (7 * (i + 1)) := by rw [Nat.pow_mul]
            rw [e3, ← Nat.pow_add]
            have : 64 - 7 * (i + 1) + 7 * (i + 1) = 64 := by omega
            rw [this]
          rw [e2] at this ⊢
          have hlt : v' < 2 ^ (64 - 7 * (i + 1)) := Nat.lt_of_mul_lt_mul_right this
          have h5 : (v' + 1) * 128 ^ (i + 1) ≤ 2 ^ (64 - 7 * (i + 1)) * 128 ^ (i + 1) := Nat.mul_le_mul_right _ hlt
          rw [Nat.add_mul, Nat.one_mul] at h5
          have h6 : (c.toNat - 128) * 128 ^ i < 128 ^ (i + 1) := by
            rw [Nat.pow_succ, Nat.mul_comm (128 ^ i)]
            exact Nat.mul_lt_mul_of_pos_right (by omega) (Nat.pow_pos (by decide))
          omega

theorem uu0_lt {l : List UInt8} {v k : Nat} (h : uu 0 l = .ok (v, k)) : v < 18446744073709551616 := by
  have := uu_lt (by omega) h
  simpa using this

/-- What is read is what is put of it. -/
theorem uu_put {i : Nat} {l : List UInt8} {v k : Nat} (h : uu i l = .ok (v, k)) : Lib.uvarint v = l.take k ∧ (0 < i → 0 < v) := by
  induction l generalizing i v k with
  | nil => simp [uu] at h
  | cons c r ih =>
    rw [uu] at h
    have hc := c.toNat_lt
    split at h
    · simp at h
    · rename_i hn
      split at h
      · rename_i h2
        simp at h
        obtain ⟨rfl, rfl⟩ := h
        rw [Lib.uvarint_small h2]
        exact ⟨by simp [Nat.toUInt8], by omega⟩
      · rename_i h2
        cases hu : uu (i + 1) r with
        | error e => rw [hu] at h; simp at h
        | ok x =>
          obtain ⟨v', k'⟩ := x
          rw [hu] at h
          simp at h
          obtain ⟨rfl, rfl⟩ := h
          obtain ⟨h3, h4⟩ := ih hu
          have hv := h4 (by omega)
          refine ⟨?_, by omega⟩
          rw [Lib.uvarint_big (by omega), List.take_succ_cons]
          have e1 : (c.toNat - 128 + 128 * v') % 128 + 128 = c.toNat := by omega
          have e2 : (c.toNat - 128 + 128 * v') / 128 = v' := by omega
          rw [e1, e2, h3]
          congr 1
          simp [Nat.toUInt8]

/-- What was put is read again. -/
theorem uu_back (i : Nat) (n : Nat) (rest : List UInt8) (hn : n * 128 ^ i < 18446744073709551616) (hi : i ≤ 9) (h0 : 0 < i → 0 < n) : uu i (Lib.uvarint n ++ rest) = .ok (n, (Lib.uvarint n).length) := by
  induction n using Nat.strongRecOn generalizing i with
  | ind n ih =>
    have h9 : i = 9 → n ≤ 1 := by
      rintro rfl
      rcases Nat.lt_or_ge n 2 with h | h
      · omega
      · have := Nat.mul_le_mul_right (128 ^ 9) h
        have e : 2 * 128 ^ 9 = 18446744073709551616 := by decide
        omega
    by_cases hs : n < 128
    · rw [Lib.uvarint_small hs]
      have e : n.toUInt8.toNat = n := Lib.toUInt8_toNat (by omega)
      show uu i (n.toUInt8 :: rest) = _
      rw [uu_last (by rw [e]; omega) (by rw [e]; exact hs), e]
      rfl
    · rw [Lib.uvarint_big (by omega)]
      have e : (n % 128 + 128).toUInt8.toNat = n % 128 + 128 := Lib.toUInt8_toNat (by omega)
      have hi9 : i ≠ 9 := fun h => by have := h9 h; omega
      rw [List.cons_append, uu, e, if_neg (by omega), if_neg (by omega)]
      have hlt : n / 128 * 128 ^ (i + 1) < 18446744073709551616 := by
        have h1 : n / 128 * 128 ^ (i + 1) ≤ n * 128 ^ i := by
          rw [Nat.pow_succ, Nat.mul_comm (128 ^ i), ← Nat.mul_assoc]
          exact Nat.mul_le_mul_right _ (Nat.div_mul_le_self n 128)
        omega
      rw [ih (n / 128) (by omega) (i + 1) hlt (by omega) (by omega)]
      simp
      omega

theorem uu0_back (n : Nat) (rest : List UInt8) (hn : n < 18446744073709551616) : uu 0 (Lib.uvarint n ++ rest) = .ok (n, (Lib.uvarint n).length) :=
  uu_back 0 n rest (by simpa using hn) (by omega) (by omega)

end Go.Proofs.Ytfghbhjljbdlmaa

/- Plain mathematics of the document's own reading of a number: the leading bytes from 128 on, and their number. -/
namespace Go.Proofs.Ytfghbhjljbdlmaa

/-- The number of bytes that each have 128 added, the lowest first. -/
def valU : List UInt8 → Nat
  | [] => 0
  | c :: r => c.toNat - 128 + 128 * valU r

theorem valU_snoc (l : List UInt8) (c : UInt8) : valU (l ++ [c]) = valU l + 128 ^ l.length * (c.toNat - 128) := by
  induction l with
  | nil => simp [valU]
  | cons d r ih =>
    show d.toNat - 128 + 128 * valU (r ++ [c]) = d.toNat - 128 + 128 * valU r + 128 ^ (r.length + 1) * (c.toNat - 128)
    rw [ih, Nat.mul_add, Nat.pow_succ, Nat.mul_comm (128 ^ r.length) 128, Nat.mul_assoc]
    omega

theorem take_succ_at {l : List UInt8} {k : Nat} (h : k < l.length) : l.take (k + 1) = l.take k ++ [l[k]] := by
  rw [List.take_succ_eq_append_getElem h]

/-- Behind k bytes, each of them from 128 on: what is told, or that there are too many. -/
def Lead (s : List UInt8) (k : Nat) : Prop :=
  (k ≤ 9 ∧ uu 0 s = lift k (valU (s.take k)) (uu k (s.drop k)) ∧ valU (s.take k) < 128 ^ k) ∨ (k = 10 ∧ uu 0 s = .error 11)

theorem Lead.zero (s : List UInt8) : Lead s 0 := .inl ⟨by omega, by simp [valU, lift_zero], by simp [valU]⟩

theorem Lead.step {s : List UInt8} {k : Nat} (h : Lead s k) (hk : k < 10) (hl : k < s.length) (h128 : 128 ≤ s[k].toNat) : Lead s (k + 1) := by
  rcases h with ⟨h9, hu, hv⟩ | ⟨rfl, _⟩
  · have hd : s.drop k = s[k] :: s.drop (k + 1) := List.drop_eq_getElem_cons hl
    rw [hd] at hu
    have hc := s[k].toNat_lt
    by_cases hk9 : k = 9
    · subst hk9
      exact .inr ⟨rfl, step_form hu (.inl ⟨rfl, by omega⟩)⟩
    · refine .inl ⟨by omega, ?_, ?_⟩
      · rw [take_succ_at hl, valU_snoc, List.length_take, Nat.min_eq_left (by omega)]
        exact step_more hu (by omega) (by omega)
      · rw [take_succ_at hl, valU_snoc, List.length_take, Nat.min_eq_left (by omega)]
        exact acc_lt hv (by omega)
  · omega

theorem Lead.ten {s : List UInt8} (h : Lead s 10) : uu 0 s = .error 11 := by
  rcases h with ⟨h9, _⟩ | ⟨_, h⟩
  · omega
  · exact h
theorem Lead.short {s : List UInt8} {k : Nat} (h : Lead s k) (hk : k < 10) (hl : s.length ≤ k) : uu 0 s = .error 10 := by
  rcases h with ⟨h9, hu, _⟩ | ⟨rfl, _⟩
  · rw [List.drop_eq_nil_of_le hl] at hu
    exact step_end hu
  · omega
theorem Lead.form {s : List UInt8} {k : Nat} (h : Lead s k) (hk : k < 10) (hl : k < s.length) (hf : (k = 9 ∧ 1 < s[k].toNat) ∨ (0 < k ∧ s[k].toNat = 0)) : uu 0 s = .error 11 := by
  rcases h with ⟨h9, hu, _⟩ | ⟨rfl, _⟩
  · have hd : s.drop k = s[k] :: s.drop (k + 1) := List.drop_eq_getElem_cons hl
    rw [hd] at hu
    exact step_form hu hf
  · omega
theorem Lead.last {s : List UInt8} {k : Nat} (h : Lead s k) (hk : k < 10) (hl : k < s.length) (hf : ¬ ((k = 9 ∧ 1 < s[k].toNat) ∨ (0 < k ∧ s[k].toNat = 0))) (h128 : s[k].toNat < 128) :
    uu 0 s = .ok (s[k].toNat * 128 ^ k + valU (s.take k), k + 1) ∧ s[k].toNat * 128 ^ k + valU (s.take k) < 18446744073709551616 := by
  rcases h with ⟨h9, hu, _⟩ | ⟨rfl, _⟩
  · have hd : s.drop k = s[k] :: s.drop (k + 1) := List.drop_eq_getElem_cons hl
    rw [hd] at hu
    have h1 := step_last hu hf h128
    have e : valU (s.take k) + 128 ^ k * s[k].toNat = s[k].toNat * 128 ^ k + valU (s.take k) := by rw [Nat.mul_comm, Nat.add_comm]
    rw [e] at h1
    exact ⟨h1, uu0_lt h1⟩
  · omega

/-- One byte more of the sum, from above. -/
theorem fold_step {s : List UInt8} {v j tot : Nat} (hl : j < s.length) (h : v * 128 ^ (j + 1) + valU (s.take (j + 1)) = tot) : (v * 128 + (s[j].toNat - 128)) * 128 ^ j + valU (s.take j) = tot := by
  rw [take_succ_at hl, valU_snoc, List.length_take, Nat.min_eq_left (by omega)] at h
  rw [← h, Nat.pow_succ, Nat.add_mul, Nat.mul_comm (128 ^ j) 128, ← Nat.mul_assoc, Nat.mul_comm (s[j].toNat - 128)]
  omega
theorem fold_le {s : List UInt8} {v j tot : Nat} (h : v * 128 ^ (j + 1) + valU (s.take (j + 1)) = tot) : v * 128 ≤ tot := by
  have h1 : v * 128 ≤ v * 128 ^ (j + 1) := by
    have : 128 ^ 1 ≤ 128 ^ (j + 1) := Nat.pow_le_pow_right (by decide) (by omega)
    exact Nat.mul_le_mul_left v (by simpa using this)
  omega
theorem fold_le0 {s : List UInt8} {v j tot : Nat} (h : v * 128 ^ j + valU (s.take j) = tot) : v ≤ tot := by
  have h1 : v * 1 ≤ v * 128 ^ j := Nat.mul_le_mul_left v (Nat.pow_pos (by decide))
  omega

/-- The first k bytes are from 128 on. -/
def Big (s : List UInt8) (k : Nat) : Prop := ∀ (j : Nat) (c : UInt8), j < k → s[j]? = some c → 128 ≤ c.toNat
theorem Big.zero (s : List UInt8) : Big s 0 := fun _ _ h => absurd h (by omega)
theorem Big.step {s : List UInt8} {k : Nat} (h : Big s k) (hl : k < s.length) (h128 : 128 ≤ s[k].toNat) : Big s (k + 1) := by
  intro j c hj hc
  by_cases hjk : j = k
  · subst hjk
    rw [List.getElem?_eq_getElem hl] at hc
    obtain rfl := Option.some.inj hc
    exact h128
  · exact h j c (by omega) hc
theorem Big.at_ {s : List UInt8} {k : Nat} (h : Big s k) (j : Nat) (hj : j < k) (hl : j < s.length) : 128 ≤ s[j].toNat := h j _ hj (List.getElem?_eq_getElem hl)
end Go.Proofs.Ytfghbhjljbdlmaa
