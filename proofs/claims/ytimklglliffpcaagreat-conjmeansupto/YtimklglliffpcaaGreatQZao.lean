/- eval.truth: its closures and loops. -/
import Derived.Test.YtimklglliffpcaaGreatQZag
namespace Go.Proofs.YtimklglliffpcaaGreat
open Go.RowKit Go.Sort

end Go.Proofs.YtimklglliffpcaaGreat
namespace Go.Proofs.YtimklglliffpcaaGreat
open Go.RowKit Go.Sort

end Go.Proofs.YtimklglliffpcaaGreat
