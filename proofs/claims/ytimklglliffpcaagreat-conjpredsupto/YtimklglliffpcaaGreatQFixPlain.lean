/- A list of nodes in one block. -/
import Derived.Test.YtimklglliffpcaaGreatQJoin
import Derived.Test.YtimklglliffpcaaGreatQEvHolds
namespace Go.Proofs.YtimklglliffpcaaGreat
open Go.RowKit
theorem Xh (a:Nv):(Sort.flatK rb 8 [a].toArray).toList=rb a:=by
 apply List.ext_getElem?
 intro i
 by_cases hi:i < 8
 ·have h:=yp [a] 0 a rfl i hi
  rw [Nat.zero_mul,Nat.zero_add] at h
  rw [h]
  have hm:i=0 ∨ i=1 ∨ i=2 ∨ i=3 ∨ i=4 ∨ i=5 ∨ i=6 ∨ i=7:=by omega
  rcases hm with e | e | e | e | e | e | e | e <;> rw [e] <;> rfl
 ·rw [List.getElem?_eq_none (by rw [Db];simp;omega),List.getElem?_eq_none (by simp [rb];omega)]
theorem H0 {w:World} {M:Nat} {cs:Array Value} {vs:List Nv} (h:w.heap[M]? = some (.cells cs 56 (0,0))) (hf:(Sort.flatK rb 8 vs.toArray).toList=cs.toList) (hl:vs.length<=1000):SlOf rb 8 w (some ⟨M,0,none⟩) vs.length vs :=
 ⟨(fun h=>by cases h),Nat.le_refl _,by unfold maxLen;omega,fun _=>⟨M,0,rfl,jc h,fun j u hj=>by rw [Nat.zero_add,Lib.cell_of_heap h];rw [hf,Array.getElem?_toList] at hj;exact hj⟩⟩
end Go.Proofs.YtimklglliffpcaaGreat
