/- The reference's Wide, Width, pushed and Pushed. -/
import Derived.Test.YtikhopiegaoacabOPushSumsLaw
import Derived.Test.YtikhopiegaoacabOPushPlain
import Derived.Test.YtikhopiegaoacabORefCheck
namespace Go.Proofs.Ytikhopiegaoacab
open Go.RowKit Go.Sort

end Go.Proofs.Ytikhopiegaoacab
namespace Go.Proofs.Ytikhopiegaoacab
open Go.RowKit Go.Sort

end Go.Proofs.Ytikhopiegaoacab
