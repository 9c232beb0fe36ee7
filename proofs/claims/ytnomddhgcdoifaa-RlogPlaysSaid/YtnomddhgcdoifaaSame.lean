/- ref00.Same answers whether the two slices hold the same bytes. -/
import Derived.Test.YtnomddhgcdoifaaProg
import Derived.Test.YtnomddhgcdoifaaWords
namespace Go.Proofs.Ytnomddhgcdoifaa
open Go.RowKit
end Go.Proofs.Ytnomddhgcdoifaa
