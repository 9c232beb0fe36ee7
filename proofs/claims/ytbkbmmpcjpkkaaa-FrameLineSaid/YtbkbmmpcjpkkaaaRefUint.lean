/- ref01.Uint answers the number that stands at a place, or the error. -/
import Derived.Test.YtbkbmmpcjpkkaaaProg
import Derived.Test.YtbkbmmpcjpkkaaaWords
import Derived.Test.YtbkbmmpcjpkkaaaGets2
import Derived.Deep.LoopGhost
import Derived.BigQuiet
import Derived.Deep.QuietTactic
namespace Go.Proofs.Ytbkbmmpcjpkkaaa
open Go.RowKit

end Go.Proofs.Ytbkbmmpcjpkkaaa
