/- bin.PutUint answers the number's form. -/
import Derived.Test.YtbkbmmpcjpkkaaaProg
import Derived.Test.YtbkbmmpcjpkkaaaRefPut
import Derived.Test.YtbkbmmpcjpkkaaaLen
import Derived.OwnWalk
import Derived.Deep.LoopGhost
namespace Go.Proofs.Ytbkbmmpcjpkkaaa
open Go.RowKit

theorem madeBytes (n : Nat) : (madeCells #[Value.int .u8 0] n).toList = u8s (List.replicate n 0) := by
  rw [toList_madeCells_one]
  simp [u8s]

end Go.Proofs.Ytbkbmmpcjpkkaaa
