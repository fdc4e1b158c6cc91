/- What ConjMeets wants besides: where the row is turned, pieces of a row, how great a meet is. -/
import Derived.Test.YtimklglliffpcaaGreatQCjMt16
import Derived.Test.YtimklglliffpcaaGreatQZSm
import Derived.Test.YtimklglliffpcaaGreatQCjTrue
import Derived.Test.YtimklglliffpcaaGreatQZSp
namespace Go.Proofs.YtimklglliffpcaaGreat
open Go.RowKit Go.Sort Go.Shelf
theorem Qb {α:Type} [Inhabited α] (enc:α->List Value) (k:Nat) (l:List α):(flatK enc k l.toArray).toList.length=l.length * k:=by simp [flatK]
theorem Jb {α:Type} [Inhabited α] {enc:α->List Value} {k:Nat} (hk:0 < k) {w:World} {b off c:Nat} {l:List α} (h:SlOf enc k w (some ⟨b,off,none⟩) c l) (m:Nat):SlOf enc k w (some ⟨b,off,none⟩) c (l.take m):=by
 refine ⟨(fun h=>by cases h),Nat.le_trans (by rw [List.length_take];omega) h.2.1,h.2.2.1,fun h0=>?_⟩
 obtain ⟨b',off',hq,hb,hc⟩:=h.2.2.2 (by rw [List.length_take] at h0;omega)
 cases hq
 refine ⟨b,off,rfl,hb,fun j u hj=>hc j u ?_⟩
 have e:(flatK enc k l.toArray).toList=(flatK enc k (l.take m).toArray).toList ++ (flatK enc k (l.drop m).toArray).toList:=by rw [<- ma enc k hk,List.take_append_drop]
 rw [e,List.getElem?_append_left (List.getElem?_eq_some_iff.1 hj).1]
 exact hj
theorem G5 {α:Type} [Inhabited α] {enc:α->List Value} {k:Nat} (hk:0 < k) {w:World} {b off c:Nat} {l:List α} (h:SlOf enc k w (some ⟨b,off,none⟩) c l) (m:Nat) (hm:m<=l.length):SlOf enc k w (some ⟨b,off + m * k,none⟩) (c - m) (l.drop m):=by
 refine ⟨(fun h=>by cases h),(by have:=h.2.1;rw [List.length_drop];omega),(by have:=h.2.2.1;omega),fun h0=>?_⟩
 obtain ⟨b',off',hq,hb,hc⟩:=h.2.2.2 (by rw [List.length_drop] at h0;omega)
 cases hq
 refine ⟨b,off + m * k,rfl,hb,fun j u hj=>?_⟩
 rw [Nat.add_assoc]
 refine hc (m * k + j) u ?_
 have e:(flatK enc k l.toArray).toList=(flatK enc k (l.take m).toArray).toList ++ (flatK enc k (l.drop m).toArray).toList:=by rw [<- ma enc k hk,List.take_append_drop]
 have e2:(flatK enc k (l.take m).toArray).toList.length=m * k:=by rw [Qb,List.length_take,Nat.min_eq_left hm]
 rw [e,List.getElem?_append_right (by omega),e2,Nat.add_sub_cancel_left]
 exact hj
theorem Kp {l:List Pd}:((kz l).getD pr).small:=by
 cases hm:kz l with
 | none=>exact ⟨by decide,by decide⟩
 | some m =>
  obtain ⟨h1,a,h2⟩:=A3 hm
  have h3:=(vi h2 hm).1
  exact Tg h3.1
end Go.Proofs.YtimklglliffpcaaGreat
