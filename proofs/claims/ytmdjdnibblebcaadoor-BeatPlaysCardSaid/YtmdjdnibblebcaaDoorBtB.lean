/- Layer 14, plain: sets of numbers. No program is named here. -/
import Derived.Test.YtmdjdnibblebcaaDoorWords
import Derived.Lib.TrailingZeros
namespace Go.Proofs.YtmdjdnibblebcaaDoor

/-- Which of the first k numbers t are below p: as a set. -/
def upS (p : Nat) (t : Nat → Nat) : Nat → Nat
  | 0 => 0
  | k + 1 => upS p t k + if t k < p then 2 ^ k else 0
theorem upS_lt (p : Nat) (t : Nat → Nat) (k : Nat) : upS p t k < 2 ^ k := by
  induction k with
  | zero => exact Nat.one_pos
  | succ k ih => unfold upS; rw [Nat.pow_succ]; split <;> omega
theorem upS_or (p : Nat) (t : Nat → Nat) (k : Nat) (h : t k < p) : upS p t k ||| 2 ^ k = upS p t (k + 1) := by
  show _ = upS p t k + (if t k < p then 2 ^ k else 0)
  rw [if_pos h, Nat.add_comm, ← Nat.mul_one (2 ^ k), Nat.two_pow_add_eq_or_of_lt (upS_lt p t k) 1, Nat.or_comm]
theorem upS_not (p : Nat) (t : Nat → Nat) (k : Nat) (h : ¬ t k < p) : upS p t (k + 1) = upS p t k := by
  show upS p t k + (if t k < p then 2 ^ k else 0) = _
  rw [if_neg h, Nat.add_zero]
theorem upS_bit (p : Nat) (t : Nat → Nat) (k i : Nat) : (upS p t k).testBit i = (decide (i < k) && decide (t i < p)) := by
  induction k with
  | zero => simp [upS]
  | succ k ih =>
    by_cases h : t k < p
    · rw [← upS_or p t k h, Nat.testBit_or, ih, Nat.testBit_two_pow]
      by_cases e : k = i
      · subst e; simp [h]
      · simp [e]
        by_cases h1 : i < k
        · simp [h1, show i < k + 1 by omega]
        · simp [h1, show ¬ i < k + 1 by omega]
    · rw [upS_not p t k h, ih]
      by_cases e : k = i
      · subst e; simp [h]
      · by_cases h1 : i < k
        · simp [h1, show i < k + 1 by omega]
        · simp [h1, show ¬ i < k + 1 by omega]
theorem upS_congr {p p' : Nat} {t t' : Nat → Nat} {k : Nat} (h : ∀ i, i < k → (t i < p ↔ t' i < p')) : upS p t k = upS p' t' k := by
  induction k with
  | zero => rfl
  | succ k ih =>
    unfold upS
    rw [ih fun i hi => h i (by omega)]
    by_cases e : t k < p
    · rw [if_pos e, if_pos ((h k (by omega)).1 e)]
    · rw [if_neg e, if_neg fun e2 => e ((h k (by omega)).2 e2)]
theorem upS_inj {p p' : Nat} {t t' : Nat → Nat} {k : Nat} (h : upS p t k = upS p' t' k) (i : Nat) (hi : i < k) : (t i < p ↔ t' i < p') := by
  have h1 := upS_bit p t k i
  rw [h, upS_bit] at h1
  simp only [hi, decide_true, Bool.true_and, decide_eq_decide] at h1
  exact h1.symm

/-- The numbers of a set, rising. -/
def lstU (x : Nat) : List Nat := (List.range 12).filter (fun i => x.testBit i)
theorem lst_bits : ∀ a : Fin 64, ∀ b : Fin 64, (a.val * 64 + b.val == 0 || lstU (a.val * 64 + b.val) == Lib.ctz 32 (a.val * 64 + b.val) :: lstU ((a.val * 64 + b.val) &&& (a.val * 64 + b.val - 1))) = true := by decide +kernel
theorem lst_step (x : Nat) (hx : x < 4096) (h0 : x ≠ 0) : lstU x = Lib.ctz 32 x :: lstU (x &&& (x - 1)) := by
  have := lst_bits ⟨x / 64, by omega⟩ ⟨x % 64, by omega⟩
  dsimp only at this
  rw [show x / 64 * 64 + x % 64 = x by omega, Bool.or_eq_true, beq_iff_eq, beq_iff_eq] at this
  exact this.resolve_left h0
theorem lst_zero : lstU 0 = [] := by decide
theorem mem_lst (x i : Nat) : i ∈ lstU x ↔ i < 12 ∧ x.testBit i = true := by simp [lstU]
theorem lst_sorted (x : Nat) : (lstU x).Pairwise (· < ·) := List.Pairwise.filter _ List.pairwise_lt_range
theorem lst_nodup (x : Nat) : (lstU x).Nodup := (lst_sorted x).imp fun h => by omega
theorem and_pred_lt (x : Nat) (h : x ≠ 0) : x &&& (x - 1) < x := by
  have := Nat.and_le_right (n := x) (m := x - 1)
  omega

end Go.Proofs.YtmdjdnibblebcaaDoor
