/- What is pushed: in form, pushed, the same again; its truth and its weight. -/
import Derived.Test.YtikhopiegaoacabOPushAll
import Derived.Test.YtikhopiegaoacabOZad
namespace Go.Proofs.Ytikhopiegaoacab
open Go.RowKit Go.Sort

theorem down_34 {kind lo hi op:Int} {attr:ByteArray} {ints:List Int} {words:List ByteArray} {kids:List Nd} (ho:op=3 ∨ op=4) (neg:Bool):downN (.mk kind attr ints words lo hi op kids) neg=.mk 0 ⟨#[]⟩ [] [] 0 0 (if neg then otherI op else op) (downL kids neg):=by
 have n1:¬ op=1:=by omega
 have n2:¬ op=2:=by omega
 simp only [downN,if_neg n1,if_neg n2]
theorem wt_down:∀ (t:Nd) (neg:Bool),chkN t=true→wtN (downN t neg)≤2 * wtN t:=by
 intro t
 induction t using Nd.ind with
 | h kind attr ints words lo hi op kids ih =>
  intro neg hc
  have e:(⟨#[]⟩:ByteArray).size=0:=rfl
  rcases chk_parts hc with ⟨rfl,rfl,hp⟩ | ⟨rfl,⟨x,rfl,hx⟩,_⟩ | ⟨ho,h2,hl,_⟩
  ·cases neg <;> simp only [downN,litT,notT,wtN,wtL,wordsWt,List.length_nil,e,if_true,if_false,Bool.false_eq_true] <;> omega
  ·have:=ih x (by simp) (!neg) hx
   simp only [downN,downH,wtN,wtL,if_true]
   rw [if_neg (by omega)]
   omega
  ·rw [down_34 ho]
   have hL:wtL (downL kids neg)≤2 * wtL kids:=by
    have hh:∀ x ∈ kids,wtN (downN x neg)≤2 * wtN x:=fun x hx=>ih x hx neg (chkL_all hl x hx)
    clear ih hl h2 hc ho
    induction kids with
    | nil=>simp [downL,wtL]
    | cons x l ih2 =>
     have h1:=hh x (by simp)
     have h3:=ih2 fun y hy=>hh y (by simp [hy])
     simp only [downL,wtL];omega
   simp only [wtN,wordsWt,List.length_nil,e]
   omega
end Go.Proofs.Ytikhopiegaoacab
