/- The law's fixed calls: the tree that they build, plainly. -/
import Derived.Test.YtikhopiegaoacaaDoorTTextTree
import Derived.Test.YtikhopiegaoacaaDoorTJoin
namespace Go.Proofs.YtikhopiegaoacaaDoor
open Go.RowKit

def T1:Nd:=.mk 1 ⟨#[97]⟩ [1,-2] [] 0 0 1 []
def T2:Nd:=.mk 3 ⟨#[97]⟩ [] [] 5 3 1 []
def T3:Nd:=.mk 4 ⟨#[99]⟩ [] [⟨#[120]⟩] 0 0 1 []
def T4:Nd:=.mk 2 ⟨#[99]⟩ [] [⟨#[121]⟩] 0 0 1 []
def TA:Nd:=joinT 3 [joinT 4 [T1,T2],notT T3,T4]
theorem itI_at (n:Int) (l:List UInt8) (h1:-2147483648≤n) (h2:n≤2147483647) (h:Lib.itoa n=l):itI n=l:=by
 unfold itI textB
 rw [if_pos (chk_yes1 rfl h1 h2 ((empty_iff _).2 rfl)),if_neg (by decide)]
 exact h
theorem it_1:itI 1=[49]:=itI_at 1 _ (by decide) (by decide) (by unfold Lib.itoa;rw [if_neg (by decide),Lib.decDigits,dif_pos (by decide)];rfl)
theorem it_5:itI 5=[53]:=itI_at 5 _ (by decide) (by decide) (by unfold Lib.itoa;rw [if_neg (by decide),Lib.decDigits,dif_pos (by decide)];rfl)
theorem it_3:itI 3=[51]:=itI_at 3 _ (by decide) (by decide) (by unfold Lib.itoa;rw [if_neg (by decide),Lib.decDigits,dif_pos (by decide)];rfl)
theorem it_m2:itI (-2)=[45,50]:=itI_at (-2) _ (by decide) (by decide) (by unfold Lib.itoa;rw [if_pos (by decide),Lib.decDigits,dif_pos (by decide)];rfl)
theorem itW_at (s:ByteArray) (l:List UInt8) (h:s.size≤64) (h2:quoteL s.data.toList=l):itW s=l:=by
 unfold itW textB
 rw [if_pos (chk_yes2 rfl rfl (by omega)),if_pos rfl]
 exact h2
theorem it_x:itW ⟨#[120]⟩=[34,120,34]:=itW_at _ _ (by decide) (by rfl)
theorem it_y:itW ⟨#[121]⟩=[34,121,34]:=itW_at _ _ (by decide) (by rfl)
theorem chk_TA:chkN TA=true:=by decide +kernel
theorem chk_zero:chkN zeroT=false:=by decide +kernel
theorem pred_T4:predB 2 ⟨#[99]⟩ [] [⟨#[121]⟩] 0 0=true:=by decide +kernel
theorem dep_TA:depN TA=3:=by decide +kernel
theorem size_TA:sizeN TA=7:=by decide +kernel
theorem wt_TA:wtN TA≤1000:=by decide +kernel
theorem text_T1:textN T1=[97,32,123,49,44,32,45,50,125]:=by
 unfold T1;rw [textN_eq,if_pos rfl];unfold predL;rw [if_pos rfl];simp [jl,it_1,it_m2]
theorem text_T2:textN T2=[97,32,91,53,44,32,51,93]:=by
 unfold T2;rw [textN_eq,if_pos rfl];unfold predL;rw [if_neg (by decide),if_neg (by decide),if_pos rfl];simp [jl,it_5,it_3]
theorem text_T3:textN T3=[99,32,34,120,34,42]:=by
 unfold T3;rw [textN_eq,if_pos rfl];unfold predL;rw [if_neg (by decide),if_neg (by decide),if_neg (by decide),if_pos rfl];simp [jl,it_x]
theorem text_T4:textN T4=[99,32,123,34,121,34,125]:=by
 unfold T4;rw [textN_eq,if_pos rfl];unfold predL;rw [if_neg (by decide),if_pos rfl];simp [jl,it_y]
theorem text_TO:textN (joinT 4 [T1,T2])=[97,32,123,49,44,32,45,50,125,32,124,32,97,32,91,53,44,32,51,93]:=by
 rw [joinT_many 4 (by decide),textN_eq,if_neg (by decide),if_neg (by decide),if_neg (by decide),if_pos rfl]
 have e1:kidL 4 T1=textN T1:=kidL_no (by decide)
 have e2:kidL 4 T2=textN T2:=kidL_no (by decide)
 simp [jl,e1,e2,text_T1,text_T2]
theorem text_TN:textN (notT T3)=[33,99,32,34,120,34,42]:=by
 unfold notT
 rw [textN_eq,if_neg (by decide),if_pos rfl]
 have e1:kidL 2 T3=textN T3:=kidL_no (by decide)
 simp [jl,e1,text_T3]
def textA:List UInt8:=[40,97,32,123,49,44,32,45,50,125,32,124,32,97,32,91,53,44,32,51,93,41,32,38,32,33,99,32,34,120,34,42,32,38,32,99,32,123,34,121,34,125]
theorem text_TA:textN TA=textA:=by
 unfold TA
 rw [joinT_many 3 (by decide),textN_eq,if_neg (by decide),if_neg (by decide),if_pos rfl]
 have e1:kidL 3 (joinT 4 [T1,T2])=[40] ++ textN (joinT 4 [T1,T2]) ++ [41]:=kidL_yes (by decide)
 have e2:kidL 3 (notT T3)=textN (notT T3):=kidL_no (by decide)
 have e3:kidL 3 T4=textN T4:=kidL_no (by decide)
 simp [jl,e1,e2,e3,text_TO,text_TN,text_T4,textA]
theorem textB_TA:textB4 TA=⟨#[40,97,32,123,49,44,32,45,50,125,32,124,32,97,32,91,53,44,32,51,93,41,32,38,32,33,99,32,34,120,34,42,32,38,32,99,32,123,34,121,34,125]⟩:=by
 unfold textB4;rw [chk_TA,text_TA];rfl
theorem flat_1 (a:Nv):(Sort.flatK encV 8 [a].toArray).toList=encV a:=by
 apply List.ext_getElem?
 intro i
 by_cases hi:i < 8
 ·have h:=flat_at8 [a] 0 a rfl i hi
  rw [Nat.zero_mul,Nat.zero_add] at h
  rw [h]
  have hm:i=0 ∨ i=1 ∨ i=2 ∨ i=3 ∨ i=4 ∨ i=5 ∨ i=6 ∨ i=7:=by omega
  rcases hm with e | e | e | e | e | e | e | e <;> rw [e] <;> rfl
 ·rw [List.getElem?_eq_none (by rw [flat_len];simp;omega),List.getElem?_eq_none (by simp [encV];omega)]
theorem flat_2 (a b:Nv):(Sort.flatK encV 8 [a,b].toArray).toList=encV a ++ encV b:=by
 have:=flat_app encV 8 (by decide) [a] [b]
 rw [flat_1,flat_1] at this;exact this
theorem flat_3 (a b c:Nv):(Sort.flatK encV 8 [a,b,c].toArray).toList=encV a ++ (encV b ++ encV c):=by
 have:=flat_app encV 8 (by decide) [a] [b,c]
 rw [flat_1,flat_2] at this;exact this
theorem of_block {w:World} {M:Nat} {cs:Array Value} {vs:List Nv} (h:w.heap[M]? = some (.cells cs 29 (0,0))) (hf:(Sort.flatK encV 8 vs.toArray).toList=cs.toList) (hl:vs.length≤1000):SlOf encV 8 w (some ⟨M,0,none⟩) vs.length vs :=
 ⟨(fun h=>by cases h),Nat.le_refl _,by unfold maxLen;omega,fun _=>⟨M,0,rfl,heap_lt h,fun j u hj=>by rw [Nat.zero_add,Lib.cell_of_heap h];rw [hf,Array.getElem?_toList] at hj;exact hj⟩⟩
end Go.Proofs.YtikhopiegaoacaaDoor
