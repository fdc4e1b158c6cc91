/- What eval.truth and eval.Eval return, for every tree and every event. -/
import Derived.Test.YtikhopiegaoacacDEvHolds
import Derived.Test.YtikhopiegaoacacDCheck
namespace Go.Proofs.Ytikhopiegaoacac
open Go.RowKit Go.Sort

mutual
/-- The truth of a tree. -/
def truN (ev:List Pr):Nd→Bool
 | .mk kind attr ints words lo hi op ks=>if op=2 then !(anyT ev ks) else if op=3 then allT ev ks else if op=4 then anyT ev ks else holdsB kind attr ints words lo hi ev
def anyT (ev:List Pr):List Nd→Bool
 | []=>false
 | x :: xs=>truN ev x || anyT ev xs
def allT (ev:List Pr):List Nd→Bool
 | []=>true
 | x :: xs=>truN ev x && allT ev xs
end
theorem chkL_mem {l:List Nd} (h:chkL l=true) {x:Nd} (hx:x ∈ l):chkN x=true:=by
 cases hc:chkN x with
 | true=>rfl
 | false=>rw [chkL_no hx hc] at h;cases h
end Go.Proofs.Ytikhopiegaoacac
