/- bin.Uint answers the number that stands at a place, or the error. -/
import Derived.Test.YtbkbmmpcjpkkaaaProg
import Derived.Test.YtbkbmmpcjpkkaaaWords
import Derived.Test.YtbkbmmpcjpkkaaaGets
import Derived.Deep.LoopGhost
import Derived.BigQuiet
import Derived.Deep.QuietTactic
namespace Go.Proofs.Ytbkbmmpcjpkkaaa
open Go.RowKit

set_option maxHeartbeats 1000000 in
theorem inside_no (A : Option Addr) (n c : Nat) (at_ : Int) (w : World) (h : at_ < 0 ∨ (n : Int) < at_) :
    Calls Try.prog 38 #[.slice A n c, .int .i64 at_] w fun e w' => e = .returned (.bool false) ∧ w = w' := by
  rcases h with h | h
  · go_enter Try.func38, Try.ntmps38
    go_wp2
    go_ret
    exact ⟨rfl, rfl⟩
  · have h0 : 0 ≤ at_ := by omega
    have hd : decide (at_ ≤ (n : Int)) = false := by simp; omega
    go_enter Try.func38, Try.ntmps38
    go_wp2
    go_ret
    exact ⟨rfl, rfl⟩
set_option maxHeartbeats 1000000 in
theorem inside_yes (A : Option Addr) (n c : Nat) (at_ : Int) (w : World) (h0 : 0 ≤ at_) (h : at_ ≤ (n : Int)) :
    Calls Try.prog 38 #[.slice A n c, .int .i64 at_] w fun e w' => e = .returned (.bool true) ∧ w = w' := by
  have hd : decide (at_ ≤ (n : Int)) = true := by simp; omega
  go_enter Try.func38, Try.ntmps38
  go_wp2
  go_ret
  exact ⟨rfl, rfl⟩

end Go.Proofs.Ytbkbmmpcjpkkaaa
