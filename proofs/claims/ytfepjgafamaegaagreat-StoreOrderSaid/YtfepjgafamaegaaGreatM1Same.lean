/- Of the proofs of layer 4, merged: Same. -/
import Derived.Test.YtfepjgafamaegaaGreatProg
import Derived.Test.YtfepjgafamaegaaGreatMWords

/- ref00.Same answers whether the two slices hold the same bytes. -/
namespace Go.Proofs.YtfepjgafamaegaaGreat
open Go.RowKit
set_option maxRecDepth 100000 in
set_option maxHeartbeats 400000 in
theorem same_any (A A' : Option Addr) (n n' c c' B B' : Nat) (l l' : List UInt8) (w : World) (h : Rd w B A n l) (h' : Rd w B' A' n' l') :
    Calls Tryz.prog 19 #[.slice A n c, .slice A' n' c'] w fun e w' => e = .returned (.bool (l == l')) ∧ w = w' := by
  have k1 := h.str Tryz.underlying23 Tryz.underlying5 Tryz.underlying9 c
  have k2 := h'.str Tryz.underlying23 Tryz.underlying5 Tryz.underlying9 c'
  clear h h'
  go_enter Tryz.func19, Tryz.ntmps19
  go_wp2
  go_ret
  exact ⟨rfl, rfl⟩
end Go.Proofs.YtfepjgafamaegaaGreat
