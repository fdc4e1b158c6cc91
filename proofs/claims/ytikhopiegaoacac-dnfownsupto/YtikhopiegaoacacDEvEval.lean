/- What eval.truth and eval.Eval return, for every tree and every event (the whole). -/
import Derived.Test.YtikhopiegaoacacDEvTruth
import Derived.Test.YtikhopiegaoacacDCloneTree
namespace Go.Proofs.Ytikhopiegaoacac
open Go.RowKit Go.Sort

theorem two {w Y:World} {o1 o2:Obj} (h:(w.alloc o1).alloc o2=Y):Y.heap[w.heap.size]? = some o1∧Y.heap[w.heap.size + 1]? = some o2∧Below w.heap.size w Y∧Y.heap.size=w.heap.size + 2:=by
 subst h
 have nw:=box_nw (w.alloc o1) o2
 have hs:(w.alloc o1).heap.size=w.heap.size + 1:=by simp
 rw [hs] at nw
 refine ⟨?_,nw,((Below.refl _ _).alloc (Nat.le_refl _) _).alloc (by simp) _,by simp⟩
 rw [((Below.refl (w.alloc o1).heap.size (w.alloc o1)).alloc (Nat.le_refl _) o2).block _ (by omega)]
 exact box_nw _ _
theorem wtN_parts {kind:Int} {attr:ByteArray} {ints:List Int} {words:List ByteArray} {lo hi op:Int} {kids:List Nd} (h:wtN (.mk kind attr ints words lo hi op kids)≤1000000000):ints.length≤1000000000∧words.length≤1000000000∧wtL kids≤1000000000:=by
 simp only [wtN] at h
 have:=words_len words
 omega
end Go.Proofs.Ytikhopiegaoacac
