/- The reference's Push, and the law PushPlays. -/
import Derived.Test.YtikhopiegaoacabORefDown2
import Derived.Test.YtikhopiegaoacabOZaf
import Derived.Test.YtikhopiegaoacabOPushHelp
import Derived.Test.YtikhopiegaoacabOMemNodeAt
import Derived.Test.YtikhopiegaoacabOKeptNode
namespace Go.Proofs.Ytikhopiegaoacab
open Go.RowKit Go.Sort

end Go.Proofs.Ytikhopiegaoacab
