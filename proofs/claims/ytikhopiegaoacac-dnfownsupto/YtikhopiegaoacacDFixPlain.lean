/- A list of nodes in one block. -/
import Derived.Test.YtikhopiegaoacacDJoin
import Derived.Test.YtikhopiegaoacacDEvHolds
namespace Go.Proofs.Ytikhopiegaoacac
open Go.RowKit

theorem flat_1 (a:Nv):(Sort.flatK encV 8 [a].toArray).toList=encV a:=by
 apply List.ext_getElem?
 intro i
 by_cases hi:i < 8
 ·have h:=flat_at8 [a] 0 a rfl i hi
  rw [Nat.zero_mul,Nat.zero_add] at h
  rw [h]
  have hm:i=0 ∨ i=1 ∨ i=2 ∨ i=3 ∨ i=4 ∨ i=5 ∨ i=6 ∨ i=7:=by omega
  rcases hm with e | e | e | e | e | e | e | e <;> rw [e] <;> rfl
 ·rw [List.getElem?_eq_none (by rw [flat_len];simp;omega),List.getElem?_eq_none (by simp [encV];omega)]
theorem flat_2 (a b:Nv):(Sort.flatK encV 8 [a,b].toArray).toList=encV a ++ encV b:=by
 have:=flat_app encV 8 (by decide) [a] [b]
 rw [flat_1,flat_1] at this;exact this
theorem of_block {w:World} {M:Nat} {cs:Array Value} {vs:List Nv} (h:w.heap[M]? = some (.cells cs 28 (0,0))) (hf:(Sort.flatK encV 8 vs.toArray).toList=cs.toList) (hl:vs.length≤1000):SlOf encV 8 w (some ⟨M,0,none⟩) vs.length vs :=
 ⟨(fun h=>by cases h),Nat.le_refl _,by unfold maxLen;omega,fun _=>⟨M,0,rfl,heap_lt h,fun j u hj=>by rw [Nat.zero_add,Lib.cell_of_heap h];rw [hf,Array.getElem?_toList] at hj;exact hj⟩⟩
end Go.Proofs.Ytikhopiegaoacac
