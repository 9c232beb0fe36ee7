/- ref00.Same answers whether the two slices hold the same bytes. -/
import Derived.Test.YtgippbbbfpkhhaaProg
import Derived.Test.YtgippbbbfpkhhaaWords
namespace Go.Proofs.Ytgippbbbfpkhhaa
open Go.RowKit
set_option maxRecDepth 100000 in
set_option maxHeartbeats 400000 in
theorem same_any (A A' : Option Addr) (n n' c c' B B' : Nat) (l l' : List UInt8) (w : World) (h : Rd w B A n l) (h' : Rd w B' A' n' l') :
    Calls Try.prog 15 #[.slice A n c, .slice A' n' c'] w fun e w' => e = .returned (.bool (l == l')) ∧ w = w' := by
  have k1 := h.str Try.underlying33 Try.underlying5 Try.underlying9 c
  have k2 := h'.str Try.underlying33 Try.underlying5 Try.underlying9 c'
  clear h h'
  go_enter Try.func15, Try.ntmps15
  go_wp2
  go_ret
  exact ⟨rfl, rfl⟩
end Go.Proofs.Ytgippbbbfpkhhaa
