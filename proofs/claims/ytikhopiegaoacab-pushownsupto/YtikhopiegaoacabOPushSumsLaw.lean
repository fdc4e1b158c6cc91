/- The reference's Sum and Product, and the law PushSums. -/
import Derived.Test.YtikhopiegaoacabOPushFixed
import Derived.Test.YtikhopiegaoacabOKept
namespace Go.Proofs.Ytikhopiegaoacab
open Go.RowKit Go.Sort

end Go.Proofs.Ytikhopiegaoacab
