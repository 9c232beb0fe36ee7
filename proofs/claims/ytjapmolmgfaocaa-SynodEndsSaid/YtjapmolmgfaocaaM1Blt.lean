/- Of the proofs of layer 4, merged: Blt. -/
import Derived.WalkKit

/- Plain: ballots and votes. No program is named here. -/
namespace Go.Proofs.Ytjapmolmgfaocaa

structure Bl where
  n : Nat
  node : Int
def Bl.zero : Bl := ⟨0, 0⟩
structure Bl.Ok (b : Bl) : Prop where
  n : b.n < 18446744073709551616
  lo : -9223372036854775808 ≤ b.node
  hi : b.node ≤ 9223372036854775807
def Bl.right (b : Bl) : Bool := decide (0 < b.n) && (decide (0 ≤ b.node) && decide (b.node < 12))
def Bl.less (a b : Bl) : Bool := if a.n = b.n then decide (a.node < b.node) else decide (a.n < b.n)
theorem Bl.zero_ok : Bl.zero.Ok := ⟨by decide, by decide, by decide⟩
theorem Bl.right_iff (b : Bl) : b.right = true ↔ 0 < b.n ∧ 0 ≤ b.node ∧ b.node < 12 := by unfold Bl.right; simp
theorem Bl.ext_ {a b : Bl} (h1 : a.n = b.n) (h2 : a.node = b.node) : a = b := by cases a; cases b; simp_all
theorem Bl.less_zero {b : Bl} (h : b.right = true) : Bl.less Bl.zero b = true := by
  have := (Bl.right_iff b).1 h
  unfold Bl.less Bl.zero
  rw [if_neg (by show ¬ 0 = b.n; omega)]
  simpa using this.1
theorem Bl.less_self (b : Bl) : Bl.less b b = false := by unfold Bl.less; simp
theorem Bl.less_trans_f {a b c : Bl} (h1 : Bl.less b a = false) (h2 : Bl.less c b = false) : Bl.less c a = false := by
  unfold Bl.less at *
  split at h1 <;> split at h2 <;> split <;> simp only [decide_eq_false_iff_not] at * <;> omega
theorem Bl.less_f_of {a b : Bl} (h : Bl.less a b = true) : Bl.less b a = false := by
  unfold Bl.less at *
  split at h <;> split <;> simp only [decide_eq_false_iff_not, decide_eq_true_eq] at * <;> omega
theorem Bl.eq_of {a b : Bl} (h1 : Bl.less a b = false) (h2 : Bl.less b a = false) : a = b := by
  unfold Bl.less at *
  split at h1 <;> split at h2 <;> simp only [decide_eq_false_iff_not] at * <;> refine Bl.ext_ (by omega) (by omega)

structure Vt where
  slot : Nat
  bal : Bl
  val : List UInt8
def Vt.right (v : Vt) : Bool := v.bal.right && (decide (0 < v.slot) && decide (v.val.length ≤ 100))
end Go.Proofs.Ytjapmolmgfaocaa
