/- What eval.Holds returns, for every predicate and every event. -/
import Derived.Test.YtikhopiegaoacabOEvGet
import Derived.Test.YtikhopiegaoacabOPred
import Derived.Test.YtikhopiegaoacabOKept
import Derived.Lib.QuietBelow
import Derived.Shelf.Abstract
namespace Go.Proofs.Ytikhopiegaoacab
open Go.RowKit Go.Sort

theorem heap_lt {w:World} {b:Nat} {o:Obj} (h:w.heap[b]? = some o):b < w.heap.size:=(Array.getElem?_eq_some_iff.1 h).1
end Go.Proofs.Ytikhopiegaoacab
