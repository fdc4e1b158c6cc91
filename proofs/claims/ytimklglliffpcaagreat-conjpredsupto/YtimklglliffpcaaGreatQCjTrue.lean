/- The law ConjTrue: an expression is true just where one of its conjunctions holds. -/
import Derived.Test.YtimklglliffpcaaGreatQCjFix
import Derived.Test.YtimklglliffpcaaGreatQZSm
import Derived.Test.YtimklglliffpcaaGreatQZal
import Derived.Test.YtimklglliffpcaaGreatQCjEvs
namespace Go.Proofs.YtimklglliffpcaaGreat
open Go.RowKit Go.Sort Go.Shelf
end Go.Proofs.YtimklglliffpcaaGreat
