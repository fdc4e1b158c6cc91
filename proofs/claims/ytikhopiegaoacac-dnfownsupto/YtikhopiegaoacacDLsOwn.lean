/- A row with spare behind it, as a row that is owned. -/
import Derived.Test.YtikhopiegaoacacDMemNode
namespace Go.Proofs.Ytikhopiegaoacac
open Go.RowKit Go.Sort

theorem LsB.own {α:Type} [Inhabited α] {enc:α→List Value} {e:TypeId} {k B g c:Nat} {w:World} {l sp:List α} (h:LsB enc e k w g c (l ++ sp)) (hk:0 < k) (hn:l.length≤c) (hc:c≤maxLen) (hB:B≤g):OwnK enc e k B w (some ⟨g,0,Option.none⟩) c l:=by
 obtain ⟨hL,cur,hg,hs⟩:=h
 have hlen:(flatK enc k l.toArray).toList.length=l.length * k:=by simp [flatK]
 refine ⟨hlen,Or.inr ⟨g,c,cur,rfl,hB,hg,hn,hc,hs, ?_⟩⟩
 apply List.ext_getElem?
 intro i
 by_cases hi:i < l.length * k
 ·rw [List.getElem?_take_of_lt hi]
  have h1:(flatK enc k l.toArray).toList[i]? = some ((flatK enc k l.toArray).toList[i]'(by omega)):=List.getElem?_eq_getElem _
  rw [h1]
  have h2:(flatK enc k (l ++ sp).toArray).toList[i]? = some ((flatK enc k l.toArray).toList[i]'(by omega)):=by rw [flat_app enc k hk,List.getElem?_append_left (by omega)];exact h1
  have h0:0 < (l ++ sp).length:=by
   rw [List.length_append]
   rcases Nat.eq_zero_or_pos l.length with e | e
   ·rw [e,Nat.zero_mul] at hi;omega
   ·omega
  obtain ⟨b,off,hq,_,hA⟩:=hL h0
  injection hq with hq
  injection hq with e1 e2
  subst e1 e2
  have h3:=hA i _ h2
  rw [Nat.zero_add,Lib.cell_of_heap hg] at h3
  rw [Array.getElem?_toList]
  exact h3
 ·rw [List.getElem?_eq_none (by rw [List.length_take];omega),List.getElem?_eq_none (by omega)]
end Go.Proofs.Ytikhopiegaoacac
