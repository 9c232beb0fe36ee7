/- Of the proofs of layer 4, merged: ProV2. -/
import Derived.Test.YtjapmolmgfaocaaM1BltA

/- The document's order of ballots. -/
namespace Go.Proofs.Ytjapmolmgfaocaa
open Go.RowKit

set_option maxRecDepth 100000 in
set_option maxHeartbeats 1000000 in
theorem less09_any (a b : Bl) (w : World) : Calls Try.prog 18 #[blV a, blV b] w fun e w' => e = .returned (.bool (Bl.less a b)) ∧ Below w.heap.size w w' := by
  obtain ⟨n, d⟩ := a
  obtain ⟨n2, d2⟩ := b
  unfold blV Bl.less
  dsimp only
  have HB : Hid (∀ o1 o2 : Obj, Below w.heap.size w ((w.alloc o1).alloc o2)) := Lib.hid fun o1 o2 => ((Below.refl _ _).alloc (Nat.le_refl _) o1).alloc (by simp) o2
  by_cases h1 : n = n2
  · subst h1
    rw [if_pos rfl]
    by_cases h2 : d < d2
    · rw [decide_eq_true h2]
      go_enter Try.func18, Try.ntmps18
      go_wp2
      go_ret
      exact ⟨rfl, HB.out _ _⟩
    · rw [decide_eq_false h2]
      go_enter Try.func18, Try.ntmps18
      go_wp2
      go_ret
      exact ⟨rfl, HB.out _ _⟩
  · have m1 : ¬ (n : Int) = (n2 : Int) := by omega
    rw [if_neg h1]
    by_cases h2 : n < n2
    · have m2 : (n : Int) < (n2 : Int) := by omega
      rw [decide_eq_true h2]
      go_enter Try.func18, Try.ntmps18
      go_wp2
      go_ret
      exact ⟨rfl, HB.out _ _⟩
    · have m2 : ¬ (n : Int) < (n2 : Int) := by omega
      rw [decide_eq_false h2]
      go_enter Try.func18, Try.ntmps18
      go_wp2
      go_ret
      exact ⟨rfl, HB.out _ _⟩
end Go.Proofs.Ytjapmolmgfaocaa
