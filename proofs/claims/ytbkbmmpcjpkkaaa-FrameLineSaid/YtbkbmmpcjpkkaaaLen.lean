/- math/bits.Len64 and bin.uintBytes answer how many bits, and how many bytes of a form, a number has. -/
import Derived.Shelf.Strconv.Itoa0
import Derived.Test.YtbkbmmpcjpkkaaaProg
import Derived.Test.YtbkbmmpcjpkkaaaWords
import Derived.Test.YtbkbmmpcjpkkaaaNums
namespace Go.Proofs.Ytbkbmmpcjpkkaaa
open Go.RowKit Go.Shelf

end Go.Proofs.Ytbkbmmpcjpkkaaa
