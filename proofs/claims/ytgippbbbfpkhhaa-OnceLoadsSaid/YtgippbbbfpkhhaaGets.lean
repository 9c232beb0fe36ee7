/- Plain mathematics: the number that stands at the head of a list of bytes, in the chapter's one form. No program is named here. -/
import Derived.Test.YtgippbbbfpkhhaaNums
namespace Go.Proofs.Ytgippbbbfpkhhaa

/-- From byte i of a form on: the rest's number, how many bytes, or the error. -/
def uu (i : Nat) : List UInt8 → Except Nat (Nat × Nat)
  | [] => .error 10
  | c :: r =>
    if (i = 9 ∧ 1 < c.toNat) ∨ (0 < i ∧ c.toNat = 0) then .error 11
    else if c.toNat < 128 then .ok (c.toNat, 1)
    else match uu (i + 1) r with
      | .ok (v, k) => .ok (c.toNat - 128 + 128 * v, k + 1)
      | .error e => .error e

/-- What stands at a place: the number, the place behind it, the error. -/
def uintAt (l : List UInt8) (at_ : Int) : Int × Int × Int :=
  if at_ < 0 ∨ (l.length : Int) < at_ then (0, 0, 2)
  else match uu 0 (l.drop at_.toNat) with
    | .ok (v, k) => ((v : Int), at_ + (k : Int), 0)
    | .error e => (0, 0, (e : Int))

/-- The answer at a place inside. -/
def ans (a : Nat) : Except Nat (Nat × Nat) → Int × Int × Int
  | .ok (v, k) => ((v : Int), (a : Int) + (k : Int), 0)
  | .error e => (0, 0, (e : Int))

theorem uintAt_in (l : List UInt8) (a : Nat) (h : a ≤ l.length) : uintAt l (a : Int) = ans a (uu 0 (l.drop a)) := by
  unfold uintAt
  rw [if_neg (by omega), Int.toNat_natCast]
  cases uu 0 (l.drop a) with
  | error e => rfl
  | ok x => rfl
theorem uintAt_out (l : List UInt8) (a : Int) (h : a < 0 ∨ (l.length : Int) < a) : uintAt l a = (0, 0, 2) := by
  unfold uintAt
  rw [if_pos h]

/-- The bytes that were read come ahead. -/
def lift (k acc : Nat) : Except Nat (Nat × Nat) → Except Nat (Nat × Nat)
  | .ok (v, m) => .ok (acc + 128 ^ k * v, k + m)
  | .error e => .error e

theorem lift_zero (x : Except Nat (Nat × Nat)) : lift 0 0 x = x := by
  match x with
  | .ok (v, m) => simp [lift]
  | .error e => rfl

theorem uu_form {i : Nat} {c : UInt8} {r : List UInt8} (h : (i = 9 ∧ 1 < c.toNat) ∨ (0 < i ∧ c.toNat = 0)) : uu i (c :: r) = .error 11 := by
  rw [uu, if_pos h]
theorem uu_last {i : Nat} {c : UInt8} {r : List UInt8} (h : ¬ ((i = 9 ∧ 1 < c.toNat) ∨ (0 < i ∧ c.toNat = 0))) (h2 : c.toNat < 128) : uu i (c :: r) = .ok (c.toNat, 1) := by
  rw [uu, if_neg h, if_pos h2]
theorem uu_more {i k acc : Nat} {c : UInt8} {r : List UInt8} (h : ¬ ((i = 9 ∧ 1 < c.toNat) ∨ (0 < i ∧ c.toNat = 0))) (h2 : ¬ c.toNat < 128) :
    lift k acc (uu i (c :: r)) = lift (k + 1) (acc + 128 ^ k * (c.toNat - 128)) (uu (i + 1) r) := by
  rw [uu, if_neg h, if_neg h2]
  cases hu : uu (i + 1) r with
  | error e => rfl
  | ok x =>
    obtain ⟨v, m⟩ := x
    have e1 : acc + 128 ^ k * (c.toNat - 128 + 128 * v) = acc + 128 ^ k * (c.toNat - 128) + 128 ^ (k + 1) * v := by
      rw [Nat.pow_succ, Nat.mul_add, Nat.mul_assoc, Nat.add_assoc]
    have e2 : k + (m + 1) = k + 1 + m := by omega
    simp only [lift, e1, e2]

theorem uu_pos {i : Nat} {l : List UInt8} {v k : Nat} (h : uu i l = .ok (v, k)) : 1 ≤ k ∧ k ≤ l.length := by
  induction l generalizing i v k with
  | nil => simp [uu] at h
  | cons c r ih =>
    rw [uu] at h
    split at h
    · simp at h
    · split at h
      · simp at h; simp; omega
      · cases hu : uu (i + 1) r with
        | error e => rw [hu] at h; simp at h
        | ok x =>
          obtain ⟨v', k'⟩ := x
          rw [hu] at h
          simp at h
          have := ih hu
          simp
          omega

theorem step_form {s : List UInt8} {k acc : Nat} {c : UInt8} {r : List UInt8} (h : uu 0 s = lift k acc (uu k (c :: r))) (h2 : (k = 9 ∧ 1 < c.toNat) ∨ (0 < k ∧ c.toNat = 0)) : uu 0 s = .error 11 := by
  rw [h, uu_form h2]; rfl
theorem step_last {s : List UInt8} {k acc : Nat} {c : UInt8} {r : List UInt8} (h : uu 0 s = lift k acc (uu k (c :: r))) (h2 : ¬ ((k = 9 ∧ 1 < c.toNat) ∨ (0 < k ∧ c.toNat = 0))) (h3 : c.toNat < 128) : uu 0 s = .ok (acc + 128 ^ k * c.toNat, k + 1) := by
  rw [h, uu_last h2 h3]; rfl
theorem step_more {s : List UInt8} {k acc : Nat} {c : UInt8} {r : List UInt8} (h : uu 0 s = lift k acc (uu k (c :: r))) (h2 : ¬ ((k = 9 ∧ 1 < c.toNat) ∨ (0 < k ∧ c.toNat = 0))) (h3 : ¬ c.toNat < 128) : uu 0 s = lift (k + 1) (acc + 128 ^ k * (c.toNat - 128)) (uu (k + 1) r) := by
  rw [h, uu_more h2 h3]
theorem step_end {s : List UInt8} {k acc : Nat} (h : uu 0 s = lift k acc (uu k [])) : uu 0 s = .error 10 := by
  rw [h]; rfl
theorem acc_lt {k acc x : Nat} (h : acc < 128 ^ k) (hx : x < 128) : acc + 128 ^ k * x < 128 ^ (k + 1) := by
  rw [Nat.pow_succ]
  have : 128 ^ k * (x + 1) ≤ 128 ^ k * 128 := Nat.mul_le_mul_left _ hx
  rw [Nat.mul_add, Nat.mul_one] at this
  omega

/-- acc, and further bits behind it. -/
theorem or_shift (k acc x : Nat) (h : acc < 128 ^ k) : acc ||| (x * 128 ^ k) = acc + 128 ^ k * x := by
  have e : 128 ^ k = 2 ^ (7 * k) := by rw [Nat.pow_mul]
  rw [e] at h ⊢
  rw [Nat.or_comm, Nat.mul_comm, ← Nat.two_pow_add_eq_or_of_lt h, Nat.add_comm]

theorem u64_or_shift (k acc x : Nat) (h : acc < 128 ^ k) (hlt : x * 128 ^ k < 18446744073709551616) (hk : k ≤ 9) : bits .or .u64 (acc : Int) ((x * 128 ^ k : Nat) : Int) = ((acc + 128 ^ k * x : Nat) : Int) := by
  have hp : 128 ^ k ≤ 128 ^ 9 := Nat.pow_le_pow_right (by decide) hk
  have h9 : 128 ^ 9 = 9223372036854775808 := by decide
  rw [u64_or_nat acc _ (by omega) hlt, or_shift k acc x h]
/-- The same as the walk spells it. -/
theorem or_shift_walk (k acc x : Nat) (h : acc < 128 ^ k) (hlt : x * 128 ^ k < 18446744073709551616) (hk : k ≤ 9) : bits .or .u64 (acc : Int) (IntKind.u64.wrap ((x : Int) * 2 ^ (k * 7))) = ((acc + 128 ^ k * x : Nat) : Int) := by
  have e : (x : Int) * 2 ^ (k * 7) = ((x * 128 ^ k : Nat) : Int) := by
    have : 128 ^ k = 2 ^ (k * 7) := by rw [Nat.mul_comm, Nat.pow_mul]
    rw [this, Int.natCast_mul, Int.natCast_pow]
    rfl
  have e4 : IntKind.u64.wrap ((x * 128 ^ k : Nat) : Int) = ((x * 128 ^ k : Nat) : Int) := by rw [IntKind.wrap_u64]; omega
  rw [e, e4, u64_or_shift k acc x h hlt hk]
theorem or_shift_9 (acc x : Nat) (h : acc < 128 ^ 9) (hlt : x ≤ 1) : bits .or .u64 (acc : Int) ((x : Int) * 9223372036854775808) = ((acc + 128 ^ 9 * x : Nat) : Int) := by
  have e2 : x * 128 ^ 9 < 18446744073709551616 := by
    have := Nat.mul_le_mul_right (128 ^ 9) hlt
    exact Nat.lt_of_le_of_lt this (by decide)
  have e3 := u64_or_shift 9 acc x h e2 (by omega)
  have e : ((x * 128 ^ 9 : Nat) : Int) = (x : Int) * 9223372036854775808 := by
    rw [Int.natCast_mul]; rfl
  rw [e] at e3
  exact e3
theorem shl_lt {k x : Nat} (hk : k ≤ 9) (h : x < 128) (h9 : k = 9 → x ≤ 1) : x * 128 ^ k < 18446744073709551616 := by
  by_cases hk9 : k = 9
  · subst hk9
    have := Nat.mul_le_mul_right (128 ^ 9) (h9 rfl)
    exact Nat.lt_of_le_of_lt this (by decide)
  · have h1 := Nat.pow_le_pow_right (n := 128) (by decide) (show k ≤ 8 by omega)
    have h3 : x * 128 ^ k ≤ 127 * 128 ^ 8 := Nat.mul_le_mul (by omega) h1
    exact Nat.lt_of_le_of_lt h3 (by decide)

theorem pow128_le {k : Nat} (h : k ≤ 9) : 128 ^ k ≤ 9223372036854775808 := by
  have := Nat.pow_le_pow_right (n := 128) (by decide) h
  exact Nat.le_trans this (by decide)

/-- What a form may hold from byte i on: the bits that are left of 64. -/
theorem uu_lt {i : Nat} {l : List UInt8} {v k : Nat} (hi : i ≤ 9) (h : uu i l = .ok (v, k)) : v * 128 ^ i < 18446744073709551616 := by
  induction l generalizing i v k with
  | nil => simp [uu] at h
  | cons c r ih =>
    rw [uu] at h
    have hc := c.toNat_lt
    split at h
    · simp at h
    · rename_i hn
      split at h
      · rename_i h2
        simp at h
        obtain ⟨rfl, rfl⟩ := h
        by_cases h9 : i = 9
        · subst h9
          have : c.toNat ≤ 1 := by omega
          have := Nat.mul_le_mul_right (128 ^ 9) this
          refine Nat.lt_of_le_of_lt this (by decide)
        · have h1 := Nat.pow_le_pow_right (n := 128) (by decide) (show i ≤ 8 by omega)
          have h3 : c.toNat * 128 ^ i ≤ 127 * 128 ^ 8 := Nat.mul_le_mul (by omega) h1
          refine Nat.lt_of_le_of_lt h3 (by decide)
      · rename_i h2
        have hi8 : i + 1 ≤ 9 := by omega
        cases hu : uu (i + 1) r with
        | error e => rw [hu] at h; simp at h
        | ok x =>
          obtain ⟨v', k'⟩ := x
          rw [hu] at h
          simp at h
          obtain ⟨rfl, rfl⟩ := h
          have := ih hi8 hu
          rw [Nat.add_mul]
          have e : 128 * v' * 128 ^ i = v' * 128 ^ (i + 1) := by rw [Nat.pow_succ, Nat.mul_comm 128 v', Nat.mul_assoc, Nat.mul_comm 128]
          rw [e]
          -- the number so far is below 128 ^ (i + 1), and the rest is a multiple of it
          have e2 : 18446744073709551616 = 2 ^ (64 - 7 * (i + 1)) * 128 ^ (i + 1) := by
            have e3 : 128 ^ (i + 1) = 2 ^ (7 * (i + 1)) := by rw [Nat.pow_mul]
            rw [e3, ← Nat.pow_add]
            have : 64 - 7 * (i + 1) + 7 * (i + 1) = 64 := by omega
            rw [this]
          rw [e2] at this ⊢
          have hlt : v' < 2 ^ (64 - 7 * (i + 1)) := Nat.lt_of_mul_lt_mul_right this
          have h5 : (v' + 1) * 128 ^ (i + 1) ≤ 2 ^ (64 - 7 * (i + 1)) * 128 ^ (i + 1) := Nat.mul_le_mul_right _ hlt
          rw [Nat.add_mul, Nat.one_mul] at h5
          have h6 : (c.toNat - 128) * 128 ^ i < 128 ^ (i + 1) := by
            rw [Nat.pow_succ, Nat.mul_comm (128 ^ i)]
            exact Nat.mul_lt_mul_of_pos_right (by omega) (Nat.pow_pos (by decide))
          omega

theorem uu0_lt {l : List UInt8} {v k : Nat} (h : uu 0 l = .ok (v, k)) : v < 18446744073709551616 := by
  have := uu_lt (by omega) h
  simpa using this

/-- What is read is what is put of it. -/
theorem uu_put {i : Nat} {l : List UInt8} {v k : Nat} (h : uu i l = .ok (v, k)) : Lib.uvarint v = l.take k ∧ (0 < i → 0 < v) := by
  induction l generalizing i v k with
  | nil => simp [uu] at h
  | cons c r ih =>
    rw [uu] at h
    have hc := c.toNat_lt
    split at h
    · simp at h
    · rename_i hn
      split at h
      · rename_i h2
        simp at h
        obtain ⟨rfl, rfl⟩ := h
        rw [Lib.uvarint_small h2]
        exact ⟨by simp [Nat.toUInt8], by omega⟩
      · rename_i h2
        cases hu : uu (i + 1) r with
        | error e => rw [hu] at h; simp at h
        | ok x =>
          obtain ⟨v', k'⟩ := x
          rw [hu] at h
          simp at h
          obtain ⟨rfl, rfl⟩ := h
          obtain ⟨h3, h4⟩ := ih hu
          have hv := h4 (by omega)
          refine ⟨?_, by omega⟩
          rw [Lib.uvarint_big (by omega), List.take_succ_cons]
          have e1 : (c.toNat - 128 + 128 * v') % 128 + 128 = c.toNat := by omega
          have e2 : (c.toNat - 128 + 128 * v') / 128 = v' := by omega
          rw [e1, e2, h3]
          congr 1
          simp [Nat.toUInt8]

/-- What was put is read again. -/
theorem uu_back (i : Nat) (n : Nat) (rest : List UInt8) (hn : n * 128 ^ i < 18446744073709551616) (hi : i ≤ 9) (h0 : 0 < i → 0 < n) : uu i (Lib.uvarint n ++ rest) = .ok (n, (Lib.uvarint n).length) := by
  induction n using Nat.strongRecOn generalizing i with
  | ind n ih =>
    have h9 : i = 9 → n ≤ 1 := by
      rintro rfl
      rcases Nat.lt_or_ge n 2 with h | h
      · omega
      · have := Nat.mul_le_mul_right (128 ^ 9) h
        have e : 2 * 128 ^ 9 = 18446744073709551616 := by decide
        omega
    by_cases hs : n < 128
    · rw [Lib.uvarint_small hs]
      have e : n.toUInt8.toNat = n := Lib.toUInt8_toNat (by omega)
      show uu i (n.toUInt8 :: rest) = _
      rw [uu_last (by rw [e]; omega) (by rw [e]; exact hs), e]
      rfl
    · rw [Lib.uvarint_big (by omega)]
      have e : (n % 128 + 128).toUInt8.toNat = n % 128 + 128 := Lib.toUInt8_toNat (by omega)
      have hi9 : i ≠ 9 := fun h => by have := h9 h; omega
      rw [List.cons_append, uu, e, if_neg (by omega), if_neg (by omega)]
      have hlt : n / 128 * 128 ^ (i + 1) < 18446744073709551616 := by
        have h1 : n / 128 * 128 ^ (i + 1) ≤ n * 128 ^ i := by
          rw [Nat.pow_succ, Nat.mul_comm (128 ^ i), ← Nat.mul_assoc]
          exact Nat.mul_le_mul_right _ (Nat.div_mul_le_self n 128)
        omega
      rw [ih (n / 128) (by omega) (i + 1) hlt (by omega) (by omega)]
      simp
      omega

theorem uu0_back (n : Nat) (rest : List UInt8) (hn : n < 18446744073709551616) : uu 0 (Lib.uvarint n ++ rest) = .ok (n, (Lib.uvarint n).length) :=
  uu_back 0 n rest (by simpa using hn) (by omega) (by omega)

end Go.Proofs.Ytgippbbbfpkhhaa
