/- The conjunctions of a pushed tree: how many they are, what they mean, which stands at a place. -/
import Derived.Test.YtikhopiegaoacacDZae
namespace Go.Proofs.Ytikhopiegaoacac
open Go.RowKit Go.Sort

/-- A literal. -/
structure Lt where
 kind:Int
 attr:ByteArray
 ints:List Int
 words:List ByteArray
 lo:Int
 hi:Int
 neg:Bool
def crossL (a b:List (List Lt)):List (List Lt):=a.flatMap (fun x=>b.map (fun y=>x ++ y))
def negLit:List Nd→List (List Lt)
 | []=>[]
 | .mk kind attr ints words lo hi _ _ :: _=>[[⟨kind,attr,ints,words,lo,hi,true⟩]]
mutual
/-- The conjunctions of a pushed tree, in their order. -/
def cjN:Nd→List (List Lt)
 | .mk kind attr ints words lo hi op ks=>if op=4 then cjSum ks else if op=3 then cjProd ks else if op=2 then negLit ks else [[⟨kind,attr,ints,words,lo,hi,false⟩]]
def cjSum:List Nd→List (List Lt)
 | []=>[]
 | x :: xs=>cjN x ++ cjSum xs
def cjProd:List Nd→List (List Lt)
 | []=>[[]]
 | x :: xs=>crossL (cjN x) (cjProd xs)
end
theorem cross_len (a b:List (List Lt)):(crossL a b).length=a.length * b.length:=by
 induction a with
 | nil=>simp [crossL]
 | cons x a ih =>
  have:crossL (x :: a) b=b.map (fun y=>x ++ y) ++ crossL a b:=by simp [crossL]
  rw [this,List.length_append,List.length_map,ih,List.length_cons,Nat.add_mul,Nat.one_mul,Nat.add_comm]
/-- What stands at a place of a choice. -/
theorem cross_get (a b:List (List Lt)) (i j:Nat) (x y:List Lt) (hi:a[i]? = some x) (hj:b[j]? = some y):(crossL a b)[i * b.length + j]? = some (x ++ y):=by
 induction a generalizing i with
 | nil=>simp at hi
 | cons z a ih =>
  have hc:crossL (z :: a) b=b.map (fun y=>z ++ y) ++ crossL a b:=by simp [crossL]
  have hjl:=(List.getElem?_eq_some_iff.1 hj).1
  rw [hc]
  cases i with
  | zero =>
   simp only [List.getElem?_cons_zero,Option.some.injEq] at hi
   subst hi
   rw [Nat.zero_mul,Nat.zero_add,List.getElem?_append_left (by rw [List.length_map];exact hjl),List.getElem?_map,hj]
   rfl
  | succ i =>
   rw [List.getElem?_append_right (by rw [List.length_map,Nat.add_mul];omega),List.length_map,show (i + 1) * b.length + j - b.length=i * b.length + j by rw [Nat.add_mul];omega]
   exact ih i (by simpa using hi)
def ltH (ev:List Pr) (l:Lt):Bool:=holdsB l.kind l.attr l.ints l.words l.lo l.hi ev != l.neg
/-- Does one of the conjunctions hold? -/
def anyC (ev:List Pr) (cs:List (List Lt)):Bool:=cs.any (fun c=>c.all (ltH ev))
theorem anyC_app (ev:List Pr) (a b:List (List Lt)):anyC ev (a ++ b)=(anyC ev a || anyC ev b):=by simp [anyC]
theorem anyC_map (ev:List Pr) (x:List Lt) (b:List (List Lt)):anyC ev (b.map (fun y=>x ++ y))=(x.all (ltH ev) && anyC ev b):=by
 induction b with
 | nil=>simp [anyC]
 | cons y b ih =>
  simp only [anyC,List.map_cons,List.any_cons] at ih ⊢
  rw [ih,List.all_append]
  cases x.all (ltH ev) <;> simp
theorem anyC_cross (ev:List Pr) (a b:List (List Lt)):anyC ev (crossL a b)=(anyC ev a && anyC ev b):=by
 induction a with
 | nil=>simp [crossL,anyC]
 | cons x a ih =>
  have hc:crossL (x :: a) b=b.map (fun y=>x ++ y) ++ crossL a b:=by simp [crossL]
  rw [hc,anyC_app,anyC_map,ih]
  have:anyC ev (x :: a)=(x.all (ltH ev) || anyC ev a):=by simp [anyC]
  rw [this]
  cases x.all (ltH ev) <;> cases anyC ev a <;> cases anyC ev b <;> rfl
theorem atL_all {l:List Nd} (h:atL l=true):∀ x ∈ l,atN x=true:=by
 induction l with
 | nil=>intro x hx;simp at hx
 | cons y l ih =>
  simp only [atL,Bool.and_eq_true] at h
  intro x hx
  rcases List.mem_cons.1 hx with rfl | hx
  ·exact h.1
  ·exact ih h.2 x hx
/-- As many as the width, and true just where the tree is. -/
theorem cj_all (ev:List Pr):∀ t,chkN t=true→atN t=true→((cjN t).length:Int)=wN t∧anyC ev (cjN t)=truN ev t:=by
 intro t
 induction t using Nd.ind with
 | h kind attr ints words lo hi op kids ih =>
  intro hc ha
  rcases chk_parts hc with ⟨rfl,rfl,hp⟩ | ⟨rfl,⟨x,rfl,hx⟩,_⟩ | ⟨ho,h2,hl,_⟩
  ·simp [cjN,wN,truN,anyC,ltH]
  ·have h1:opN x=1:=by
    simpa [atN,headPred] using ha
   cases x with
   | mk k1 a1 i1 w1 l1 h1' o1 ks1 =>
    simp only [opN] at h1
    subst h1
    simp [cjN,negLit,wN,truN,anyT,anyC,ltH]
  ·have n2:¬ op=2:=by omega
   have hall:∀ x ∈ kids,((cjN x).length:Int)=wN x∧anyC ev (cjN x)=truN ev x:=by
    simp only [atN,if_neg n2] at ha
    exact fun x hx=>ih x hx (chkL_all hl x hx) (atL_all ha x hx)
   have hs:((cjSum kids).length:Int)=wSum kids∧anyC ev (cjSum kids)=anyT ev kids∧((cjProd kids).length:Int)=wProd kids∧anyC ev (cjProd kids)=allT ev kids:=by
    clear ih hc ha h2 hl
    induction kids with
    | nil=>simp [cjSum,cjProd,wSum,wProd,anyC,anyT,allT]
    | cons x l ih2 =>
     obtain ⟨i1,i2,i3,i4⟩:=ih2 fun y hy=>hall y (by simp [hy])
     obtain ⟨j1,j2⟩:=hall x (by simp)
     refine ⟨?_, ?_, ?_, ?_⟩
     ·simp only [cjSum,wSum,List.length_append,Int.natCast_add,i1,j1]
     ·simp only [cjSum,anyT,anyC_app,i2,j2]
     ·simp only [cjProd,wProd,cross_len,Int.natCast_mul,i3,j1]
     ·simp only [cjProd,allT,anyC_cross,i4,j2]
   rcases ho with rfl | rfl
   ·have n34:¬ (3:Int)=4:=by decide
    have n32:¬ (3:Int)=2:=by decide
    simp only [cjN,wN,truN,if_neg n34,if_neg n32,if_true]
    exact ⟨hs.2.2.1,hs.2.2.2⟩
   ·have n42:¬ (4:Int)=2:=by decide
    have n43:¬ (4:Int)=3:=by decide
    simp only [cjN,wN,truN,if_neg n42,if_neg n43,if_true]
    exact ⟨hs.1,hs.2.1⟩
/-- The place of a conjunction of an Or. -/
theorem sum_get (x:Nd) (l:List Nd) (p:Nat):(cjSum (x :: l))[p]? = if p < (cjN x).length then (cjN x)[p]? else (cjSum l)[p - (cjN x).length]?:=by
 simp only [cjSum]
 by_cases h:p < (cjN x).length
 ·rw [if_pos h,List.getElem?_append_left h]
 ·rw [if_neg h,List.getElem?_append_right (by omega)]
/-- The place of a conjunction of an And. -/
theorem prod_get (x:Nd) (l:List Nd) (p:Nat) (hp:p < (cjN x).length * (cjProd l).length):∃ c d,(cjN x)[p / (cjProd l).length]? = some c∧(cjProd l)[p % (cjProd l).length]? = some d∧(cjProd (x :: l))[p]? = some (c ++ d):=by
 have hpos:0 < (cjProd l).length:=by
  rcases Nat.eq_zero_or_pos (cjProd l).length with h | h
  ·rw [h,Nat.mul_zero] at hp;omega
  ·exact h
 have h1:p / (cjProd l).length < (cjN x).length:=(Nat.div_lt_iff_lt_mul hpos).2 hp
 have h2:p % (cjProd l).length < (cjProd l).length:=Nat.mod_lt _ hpos
 refine ⟨_,_,List.getElem?_eq_getElem h1,List.getElem?_eq_getElem h2, ?_⟩
 have:=cross_get (cjN x) (cjProd l) _ _ _ _ (List.getElem?_eq_getElem h1) (List.getElem?_eq_getElem h2)
 simp only [cjProd]
 rw [Nat.mul_comm,Nat.div_add_mod] at this
 exact this
end Go.Proofs.Ytikhopiegaoacac
