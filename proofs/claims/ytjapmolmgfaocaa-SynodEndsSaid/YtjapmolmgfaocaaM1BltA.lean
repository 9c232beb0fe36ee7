/- Of the proofs of layer 4, merged: BltA. -/
import Derived.Test.YtjapmolmgfaocaaM1Blt
import Derived.Test.YtjapmolmgfaocaaMWords
import Derived.Test.YtjapmolmgfaocaaProg
import Derived.WalkKit

/- The program's ballots: Right, Less. -/
namespace Go.Proofs.Ytjapmolmgfaocaa
open Go.RowKit

def blV (b : Bl) : Value := .agg #[.int .u64 (b.n : Int), .int .i64 b.node]
def vtV (v : Vt) (x : Value) : Value := .agg #[.int .u64 (v.slot : Int), .int .u64 (v.bal.n : Int), .int .i64 v.bal.node, x]
def vtA (v : Vt) (x : Value) : Array Value := #[.int .u64 (v.slot : Int), .int .u64 (v.bal.n : Int), .int .i64 v.bal.node, x]
def blA (b : Bl) : Array Value := #[.int .u64 (b.n : Int), .int .i64 b.node]

set_option maxRecDepth 100000 in
set_option maxHeartbeats 1000000 in
theorem aright_any (b : Bl) (w : World) : Calls Try.prog 53 #[blV b] w fun e w' => e = .returned (.bool b.right) ∧ Below w.heap.size w w' := by
  obtain ⟨n, d⟩ := b
  unfold blV Bl.right
  dsimp only
  by_cases h1 : 0 < n
  · have m1 : (0 : Int) < (n : Int) := by omega
    rw [decide_eq_true h1, Bool.true_and]
    by_cases h2 : 0 ≤ d
    · rw [decide_eq_true h2, Bool.true_and]
      by_cases h3 : d < 12
      · rw [decide_eq_true h3]
        go_enter Try.func53, Try.ntmps53
        go_wp2
        go_ret
        exact ⟨rfl, (Below.refl _ _).alloc (Nat.le_refl _) _⟩
      · rw [decide_eq_false h3]
        go_enter Try.func53, Try.ntmps53
        go_wp2
        go_ret
        exact ⟨rfl, (Below.refl _ _).alloc (Nat.le_refl _) _⟩
    · rw [decide_eq_false h2, Bool.false_and]
      go_enter Try.func53, Try.ntmps53
      go_wp2
      go_ret
      exact ⟨rfl, (Below.refl _ _).alloc (Nat.le_refl _) _⟩
  · have m1 : ¬ (0 : Int) < (n : Int) := by omega
    rw [decide_eq_false h1, Bool.false_and]
    go_enter Try.func53, Try.ntmps53
    go_wp2
    go_ret
    exact ⟨rfl, (Below.refl _ _).alloc (Nat.le_refl _) _⟩
set_option maxRecDepth 100000 in
set_option maxHeartbeats 1000000 in
theorem aless_any (a b : Bl) (w : World) : Calls Try.prog 54 #[blV a, blV b] w fun e w' => e = .returned (.bool (Bl.less a b)) ∧ Below w.heap.size w w' := by
  obtain ⟨n, d⟩ := a
  obtain ⟨n2, d2⟩ := b
  unfold blV Bl.less
  dsimp only
  have HB : Hid (∀ o1 o2 : Obj, Below w.heap.size w ((w.alloc o1).alloc o2)) := Lib.hid fun o1 o2 => ((Below.refl _ _).alloc (Nat.le_refl _) o1).alloc (by simp) o2
  by_cases h1 : n = n2
  · subst h1
    rw [if_pos rfl]
    by_cases h2 : d < d2
    · rw [decide_eq_true h2]
      go_enter Try.func54, Try.ntmps54
      go_wp2
      go_ret
      exact ⟨rfl, HB.out _ _⟩
    · rw [decide_eq_false h2]
      go_enter Try.func54, Try.ntmps54
      go_wp2
      go_ret
      exact ⟨rfl, HB.out _ _⟩
  · have m1 : ¬ (n : Int) = (n2 : Int) := by omega
    rw [if_neg h1]
    by_cases h2 : n < n2
    · have m2 : (n : Int) < (n2 : Int) := by omega
      rw [decide_eq_true h2]
      go_enter Try.func54, Try.ntmps54
      go_wp2
      go_ret
      exact ⟨rfl, HB.out _ _⟩
    · have m2 : ¬ (n : Int) < (n2 : Int) := by omega
      rw [decide_eq_false h2]
      go_enter Try.func54, Try.ntmps54
      go_wp2
      go_ret
      exact ⟨rfl, HB.out _ _⟩
end Go.Proofs.Ytjapmolmgfaocaa
