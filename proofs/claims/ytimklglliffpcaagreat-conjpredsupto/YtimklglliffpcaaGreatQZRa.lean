/- What the document's Meet comes to, as plain data: the same as the program's. -/
import Derived.Test.YtimklglliffpcaaGreatQZSm
namespace Go.Proofs.YtimklglliffpcaaGreat
/-- Does a predicate ask numbers? -/
def xa (p:Pd):Bool:=decide (p.kind=1) || decide (p.kind=3)
abbrev yI (x:Int):Pr:=⟨⟨#[]⟩,1,x,⟨#[]⟩⟩
abbrev yS (s:ByteArray):Pr:=⟨⟨#[]⟩,2,0,s⟩
def jo (l:List Pd) (y:Pr):Bool:=l.all (lw · y)
def Ff (l:List Pd):Int:=l.foldl (fun m p=>if p.kind=3 then max m p.lo else m) (-2147483648)
def tw (l:List Pd):Int:=l.foldl (fun m p=>if p.kind=3 then min m p.hi else m) 2147483647
def ly (s:ByteArray) (p:Pd):ByteArray:=if p.kind=4 then (if s.size < (sm p).size then sm p else s) else s
def rp (l:List Pd):ByteArray:=l.foldl ly ⟨#[]⟩
def vp (l:List Pd) (a:ByteArray) (n:Bool):Option Pd:=match l.find? mu with
 | some s=>jr ⟨s.kind,a,s.ints.filter fun x=>jo l (yI x),s.words.filter fun x=>jo l (yS x),0,0⟩
 | none=>if n then jr ⟨3,a,[],[],Ff l,tw l⟩ else if jo l (yS (rp l)) then jr ⟨4,a,[],[rp l],0,0⟩ else none
def Bb (p0 p:Pd):Bool:=p.ok && (decide (p.attr=p0.attr) && (xa p == xa p0))
def zal (l:List Pd):Option Pd:=match l with
 | []=>none
 | p0 :: r=>if (p0 :: r).all (Bb p0) then vp (p0 :: r) p0.attr (xa p0) else none
theorem G8 {p:Pd} {y y':Pr} (h:y.kind=1) (h':y'.kind=1) (hi:y.int=y'.int):lw p y=lw p y':=by
 unfold lw mc
 rw [h,h',hi]
 split
 ·rfl
 ·split
  ·simp
  ·split
   ·rfl
   ·simp
theorem Ej {p:Pd} {y y':Pr} (h:y.kind=2) (h':y'.kind=2) (hi:y.word=y'.word):lw p y=lw p y':=by
 unfold lw mc
 rw [h,h',hi]
 split
 ·simp
 ·split
  ·rfl
  ·split
   ·simp
   ·rfl
theorem Ac {l:List Pd} {y y':Pr} (h:y.kind=1) (h':y'.kind=1) (hi:y.int=y'.int):jo l y=jo l y':=by
 unfold jo
 exact congrArg (fun f=>l.all f) (funext fun p=>G8 h h' hi)
theorem xx {l:List Pd} {y y':Pr} (h:y.kind=2) (h':y'.kind=2) (hi:y.word=y'.word):jo l y=jo l y':=by
 unfold jo
 exact congrArg (fun f=>l.all f) (funext fun p=>Ej h h' hi)
theorem ng {l:List Pd} {y:Pr} (h:jo l y=true) {p:Pd} (hp:p ∈ l):lw p y=true:=List.all_eq_true.1 h p hp
/-- A normal predicate of one that means f. -/
theorem ym {p:Pd} {f:Pr->Bool} (h1:∀ y,lw p y=f y) (h2:p.ok=false->∀ y,f y=false):Vl (jr p) f p.attr:=by
 cases hk:p.ok with
 | false=>rw [mw hk];exact ⟨(fun m hm=>by cases hm),fun _=>h2 hk⟩
 | true =>
  obtain ⟨n1,n2⟩:=qq hk
  refine ⟨fun m hm=>?_,fun hm y=>by rw [<- h1 y];exact n2 hm y⟩
  obtain ⟨a1,a2,a3⟩:=n1 m hm
  exact ⟨a1,a2,fun y=>by rw [a3 y,h1 y]⟩
theorem Gb {p m:Pd} (h:jr p=some m):p.ok=true:=by
 cases hk:p.ok with
 | true=>rfl
 | false=>rw [mw hk] at h;cases h
theorem F8 {l:List Pd} (h:∀ p ∈ l,p.kind=3) (m x:Int):l.foldl (fun m p=>if p.kind=3 then max m p.lo else m) m<=x ↔ m<=x/\∀ p ∈ l,p.lo<=x:=by
 induction l generalizing m with
 | nil=>simp
 | cons p l ih =>
  rw [List.foldl_cons,if_pos (h p (by simp)),ih (fun q hq=>h q (by simp [hq]))]
  simp only [List.mem_cons,forall_eq_or_imp]
  rw [<- and_assoc]
  refine and_congr_left fun _=>?_
  omega
theorem Cf {l:List Pd} (h:∀ p ∈ l,p.kind=3) (m x:Int):x<=l.foldl (fun m p=>if p.kind=3 then min m p.hi else m) m ↔ x<=m/\∀ p ∈ l,x<=p.hi:=by
 induction l generalizing m with
 | nil=>simp
 | cons p l ih =>
  rw [List.foldl_cons,if_pos (h p (by simp)),ih (fun q hq=>h q (by simp [hq]))]
  simp only [List.mem_cons,forall_eq_or_imp]
  rw [<- and_assoc]
  refine and_congr_left fun _=>?_
  omega
theorem Nm {l:List Pd} (h:∀ p ∈ l,p.kind=4) (s:ByteArray):(∀ p ∈ l,(sm p).size<=(l.foldl ly s).size)/\s.size<=(l.foldl ly s).size/\(l.foldl ly s=s ∨ ∃ p ∈ l,l.foldl ly s=sm p):=by
 induction l generalizing s with
 | nil=>exact ⟨fun p hp=>by simp at hp,Nat.le_refl _,Or.inl rfl⟩
 | cons p l ih =>
  rw [List.foldl_cons]
  obtain ⟨i1,i2,i3⟩:=ih (fun q hq=>h q (by simp [hq])) (ly s p)
  have e:(ly s p=s/\(sm p).size<=s.size) ∨ (ly s p=sm p/\s.size < (sm p).size):=by
   unfold ly
   rw [if_pos (h p (by simp))]
   split
   ·next hs=>exact Or.inr ⟨rfl,hs⟩
   ·next hs=>exact Or.inl ⟨rfl,by omega⟩
  refine ⟨fun q hq=>?_, ?_, ?_⟩
  ·rcases List.mem_cons.1 hq with rfl | hq
   ·rcases e with ⟨e1,e2⟩ | ⟨e1,e2⟩
    ·rw [e1] at i2 ⊢;omega
    ·rw [e1] at i2 ⊢;exact i2
   ·exact i1 q hq
  ·rcases e with ⟨e1,e2⟩ | ⟨e1,e2⟩
   ·rw [e1] at i2 ⊢;exact i2
   ·rw [e1] at i2 ⊢;omega
  ·rcases i3 with i3 | ⟨q,hq,i3⟩
   ·rcases e with ⟨e1,_⟩ | ⟨e1,_⟩
    ·exact Or.inl (i3.trans e1)
    ·exact Or.inr ⟨p,by simp,i3.trans e1⟩
   ·exact Or.inr ⟨q,by simp [hq],i3⟩
theorem Ms {l:List Pd} {a:ByteArray} {s:Pd} (hs:s ∈ l) (hk:mu s=true) (h:∀ q ∈ l,q.ok=true/\q.attr=a) :
  Vl (jr ⟨s.kind,a,s.ints.filter fun x=>jo l (yI x),s.words.filter fun x=>jo l (yS x),0,0⟩) (jo l) a:=by
 obtain ⟨hok,ha⟩:=h s hs
 obtain ⟨hn,hp⟩:=j5 hok
 rw [ha] at hn
 rw [kv] at hk
 rcases hp with ⟨k1,h1,h2,_⟩ | ⟨k1,h1,h2,_⟩ | ⟨k1,_⟩ | ⟨k1,_⟩
 ·have hf:∀ y:Pr,lw ⟨s.kind,a,s.ints.filter fun x=>jo l (yI x),s.words.filter fun x=>jo l (yS x),0,0⟩ y=jo l y:=fun y=>by
   rw [zg (by exact k1),Bool.eq_iff_iff,Bool.and_eq_true,ml,List.mem_filter,beq_iff_eq]
   constructor
   ·rintro ⟨e1,_,e3⟩
    rw [Ac (y:=y) (y':=yI y.int) e1 rfl rfl];exact e3
   ·intro hy
    have h3:=ng hy hs
    rw [zg k1,Bool.and_eq_true,ml,beq_iff_eq] at h3
    exact ⟨h3.1,h3.2,by rw [<- Ac (y:=y) (y':=yI y.int) h3.1 rfl rfl];exact hy⟩
  refine ym hf fun hno y=>?_
  cases hy:jo l y with
  | false=>rfl
  | true =>
   exfalso
   rw [<- hf y,zg (by exact k1),Bool.and_eq_true,ml] at hy
   have hw:(s.words.filter fun x=>jo l (yS x))=[]:=by rw [h2];rfl
   rw [hw,k1] at hno
   rw [zad hn (tp h1 (fun x hx=>(List.mem_filter.1 hx).1) (List.length_filter_le _ _) (List.ne_nil_of_mem hy.2))] at hno
   cases hno
 ·have hf:∀ y:Pr,lw ⟨s.kind,a,s.ints.filter fun x=>jo l (yI x),s.words.filter fun x=>jo l (yS x),0,0⟩ y=jo l y:=fun y=>by
   rw [A8 (by exact k1),Bool.eq_iff_iff,Bool.and_eq_true,nu,List.mem_filter,beq_iff_eq]
   constructor
   ·rintro ⟨e1,_,e3⟩
    rw [xx (y:=y) (y':=yS y.word) e1 rfl rfl];exact e3
   ·intro hy
    have h3:=ng hy hs
    rw [A8 k1,Bool.and_eq_true,nu,beq_iff_eq] at h3
    exact ⟨h3.1,h3.2,by rw [<- xx (y:=y) (y':=yS y.word) h3.1 rfl rfl];exact hy⟩
  refine ym hf fun hno y=>?_
  cases hy:jo l y with
  | false=>rfl
  | true =>
   exfalso
   rw [<- hf y,A8 (by exact k1),Bool.and_eq_true,nu] at hy
   have hw:(s.ints.filter fun x=>jo l (yI x))=[]:=by rw [h2];rfl
   rw [hw,k1] at hno
   rw [zb5 hn (tp h1 (fun x hx=>(List.mem_filter.1 hx).1) (List.length_filter_le _ _) (List.ne_nil_of_mem hy.2))] at hno
   cases hno
 ·omega
 ·omega
theorem F0 {l:List Pd} {a:ByteArray} (hl:l ≠ []) (hk:∀ p ∈ l,p.kind=3) (h:∀ q ∈ l,q.ok=true/\q.attr=a):Vl (jr ⟨3,a,[],[],Ff l,tw l⟩) (jo l) a:=by
 obtain ⟨p,hp⟩:=List.exists_mem_of_ne_nil _ hl
 have hnum:∀ q ∈ l,(-2147483648<=q.lo/\q.lo<=2147483647)/\(-2147483648<=q.hi/\q.hi<=2147483647):=fun q hq=>by
  have hkq:=hk q hq
  rcases (j5 (h q hq).1).2 with ⟨k1,_⟩ | ⟨k1,_⟩ | ⟨_,n1,n2,_⟩ | ⟨k1,_⟩
  ·omega
  ·omega
  ·exact ⟨my.1 n1,my.1 n2⟩
  ·omega
 have hn:ko a=true:=by have:=(j5 (h p hp).1).1;rwa [(h p hp).2] at this
 have hf:∀ y:Pr,lw ⟨3,a,[],[],Ff l,tw l⟩ y=jo l y:=fun y=>by
  rw [qz rfl,Bool.eq_iff_iff,Bool.and_eq_true,Bool.and_eq_true,decide_eq_true_eq,decide_eq_true_eq,beq_iff_eq]
  unfold Ff tw jo
  rw [F8 hk,Cf hk,List.all_eq_true]
  constructor
  ·rintro ⟨e1,⟨_,e2⟩,_,e3⟩ q hq
   rw [qz (hk q hq),Bool.and_eq_true,Bool.and_eq_true,decide_eq_true_eq,decide_eq_true_eq,beq_iff_eq]
   exact ⟨e1,e2 q hq,e3 q hq⟩
  ·intro hy
   have hq:∀ q ∈ l,y.kind=1/\q.lo<=y.int/\y.int<=q.hi:=fun q hq=>by
    have:=hy q hq
    rwa [qz (hk q hq),Bool.and_eq_true,Bool.and_eq_true,decide_eq_true_eq,decide_eq_true_eq,beq_iff_eq] at this
   have h1:=hq p hp
   have h2:=hnum p hp
   exact ⟨h1.1,⟨by omega,fun q h=>(hq q h).2.1⟩,by omega,fun q h=>(hq q h).2.2⟩
 refine ym hf fun hno y=>?_
 exfalso
 have l1:Ff l<=2147483647:=(F8 hk _ _).2 ⟨by omega,fun q hq=>(hnum q hq).1.2⟩
 have l2:-2147483648<=Ff l:=((F8 hk _ _).1 (Int.le_refl (Ff l))).1
 have g1:-2147483648<=tw l:=(Cf hk _ _).2 ⟨by omega,fun q hq=>(hnum q hq).2.1⟩
 have g2:tw l<=2147483647:=((Cf hk _ _).1 (Int.le_refl (tw l))).1
 rw [zcn hn (my.2 ⟨l2,l1⟩) (my.2 ⟨g1,g2⟩)] at hno
 cases hno
theorem Ls (s:ByteArray):s.toList.length=s.size:=by rw [ByteArray.toList_eq];simp
theorem Jm {l:List Pd} {a:ByteArray} (hl:l ≠ []) (hk:∀ p ∈ l,p.kind=4) (h:∀ q ∈ l,q.ok=true/\q.attr=a):Vl (if jo l (yS (rp l)) then jr ⟨4,a,[],[rp l],0,0⟩ else none) (jo l) a:=by
 obtain ⟨p,hp⟩:=List.exists_mem_of_ne_nil _ hl
 have hn:ko a=true:=by have:=(j5 (h p hp).1).1;rwa [(h p hp).2] at this
 obtain ⟨s1,_,s3⟩:=Nm hk ⟨#[]⟩
 have s1':∀ p ∈ l,(sm p).size<=(rp l).size:=s1
 have hpre:∀ y:Pr,jo l y=true->y.kind=2/\(rp l).toList <+: y.word.toList:=fun y hy=>by
  have hq:∀ q ∈ l,y.kind=2/\(sm q).toList <+: y.word.toList:=fun q hq=>by
   have:=ng hy hq
   rw [ph (hk q hq),Bool.and_eq_true,beq_iff_eq] at this
   exact ⟨this.1,j8.1 this.2⟩
  refine ⟨(hq p hp).1, ?_⟩
  rcases s3 with s3 | ⟨q,hq',s3⟩
  ·show (l.foldl ly ⟨#[]⟩).toList <+: _
   rw [s3]
   have e:(⟨#[]⟩:ByteArray).toList=[]:=by rw [ByteArray.toList_eq]
   rw [e]
   exact List.nil_prefix
  ·show (l.foldl ly ⟨#[]⟩).toList <+: _
   rw [s3]
   exact (hq q hq').2
 have hwok:jp (rp l)=true:=by
  rcases s3 with s3 | ⟨q,hq',s3⟩
  ·show jp (l.foldl ly ⟨#[]⟩)=true
   rw [s3];decide
  ·show jp (l.foldl ly ⟨#[]⟩)=true
   rw [s3]
   have hkq:=hk q hq'
   rcases (j5 (h q hq').1).2 with ⟨k1,_⟩ | ⟨k1,_⟩ | ⟨k1,_⟩ | ⟨_,n1,_⟩
   ·omega
   ·omega
   ·omega
   ·unfold sm
    have hne:=xo n1
    have hall:q.words.all jp=true:=by simp only [p9,Bool.and_eq_true] at n1;exact n1.1
    cases hw:q.words with
    | nil=>exact absurd hw hne
    | cons x r=>rw [hw] at hall;exact List.all_eq_true.1 hall x (by simp)
 split
 ·next hall =>
  have hq:∀ q ∈ l,(sm q).toList <+: (rp l).toList:=fun q hq=>by
   have:=ng hall hq
   rw [ph (hk q hq),Bool.and_eq_true] at this
   exact j8.1 this.2
  have hf:∀ y:Pr,lw ⟨4,a,[],[rp l],0,0⟩ y=jo l y:=fun y=>by
   rw [ph rfl,Bool.eq_iff_iff,Bool.and_eq_true,beq_iff_eq,j8]
   show y.kind=2/\(rp l).toList <+: y.word.toList ↔ _
   constructor
   ·rintro ⟨e1,e2⟩
    unfold jo
    rw [List.all_eq_true]
    intro q hq'
    rw [ph (hk q hq'),Bool.and_eq_true,beq_iff_eq,j8]
    exact ⟨e1,(hq q hq').trans e2⟩
   ·exact hpre y
  refine ym hf fun hno y=>?_
  exfalso
  rw [zb0 hn (vh hwok (by decide))] at hno
  cases hno
 ·next hall =>
  refine ⟨(fun m hm=>by cases hm),fun _ y=>?_⟩
  cases hy:jo l y with
  | false=>rfl
  | true =>
   exfalso
   apply hall
   obtain ⟨h1,h2⟩:=hpre y hy
   unfold jo
   rw [List.all_eq_true]
   intro q hq
   rw [ph (hk q hq),Bool.and_eq_true,beq_iff_eq,j8]
   refine ⟨rfl, ?_⟩
   have h3:=ng hy hq
   rw [ph (hk q hq),Bool.and_eq_true] at h3
   exact List.prefix_of_prefix_length_le (j8.1 h3.2) h2 (by rw [Ls,Ls];exact s1' q hq)
theorem Pk {l:List Pd} {a:ByteArray} {n:Bool} (hl:l ≠ []) (h:∀ q ∈ l,q.ok=true/\q.attr=a) (hn:∀ q ∈ l,xa q=n):Vl (vp l a n) (jo l) a/\∀ m,vp l a n=some m->Yd (l.any mu) m:=by
 unfold vp
 cases hs:l.find? mu with
 | some s =>
  have h1:=List.mem_of_find?_eq_some hs
  have h2:=List.find?_some hs
  refine ⟨Ms h1 h2 h,fun m hm=>?_⟩
  have hany:l.any mu=true:=List.any_eq_true.2 ⟨s,h1,h2⟩
  rw [hany]
  obtain ⟨n1,n2,_⟩:=Aa (Gb hm) hm
  exact ⟨n1,(fun _=>n2 (by rw [kv] at h2 ⊢;exact h2)),(fun e=>by cases e)⟩
 | none =>
  have hno:∀ p ∈ l,mu p=false:=fun p hp=>by
   have:=List.find?_eq_none.1 hs p hp
   simpa using this
  have hany:l.any mu=false:=by
   rw [List.any_eq_false]
   exact fun p hp=>by rw [hno p hp];simp
  have hkind:∀ p ∈ l,if n then p.kind=3 else p.kind=4:=fun p hp=>by
   have h1:=tg (h p hp).1
   have h2:=zy.1 (hno p hp)
   have h3:=hn p hp
   unfold xa at h3
   cases n with
   | true=>simp only [Bool.or_eq_true,decide_eq_true_eq] at h3;simp only [if_true];omega
   | false=>simp only [Bool.or_eq_false_iff,decide_eq_false_iff_not] at h3;simp only [Bool.false_eq_true,if_false];omega
  rw [hany]
  cases n with
  | true =>
   simp only [if_true] at hkind ⊢
   refine ⟨F0 hl hkind h,fun m hm=>?_⟩
   obtain ⟨n1,n2,n3⟩:=Aa (Gb hm) hm
   exact ⟨n1,(fun e=>by cases e),fun _=>n3 rfl⟩
  | false =>
   simp only [Bool.false_eq_true,if_false] at hkind ⊢
   refine ⟨Jm hl hkind h,fun m hm=>?_⟩
   split at hm
   ·obtain ⟨n1,n2,n3⟩:=Aa (Gb hm) hm
    exact ⟨n1,(fun e=>by cases e),fun _=>n3 rfl⟩
   ·cases hm
/-- The document's Meet is the program's. -/
theorem Hu (l:List Pd):zal l=kz l:=by
 cases l with
 | nil=>rfl
 | cons p0 r =>
  show (if (p0 :: r).all (Bb p0) then vp (p0 :: r) p0.attr (xa p0) else none)=_
  have hl:(p0 :: r) ≠ []:=by simp
  split
  ·next hall =>
   have hq:∀ q ∈ p0 :: r,q.ok=true/\q.attr=p0.attr/\xa q=xa p0:=fun q hq=>by
    have:=List.all_eq_true.1 hall q hq
    unfold Bb at this
    simp only [Bool.and_eq_true,decide_eq_true_eq,beq_iff_eq] at this
    exact this
   have h:=fun q hq'=>And.intro (hq q hq').1 (hq q hq').2.1
   obtain ⟨c1,c2⟩:=Pk hl h (fun q hq'=>(hq q hq').2.2)
   have s:=Eb hl h
   cases hm:kz (p0 :: r) with
   | none =>
    cases hr:vp (p0 :: r) p0.attr (xa p0) with
    | none=>rfl
    | some m =>
     exfalso
     obtain ⟨y,hy⟩:=Di (c2 m hr).1
     rw [(c1.1 m hr).2.2 y] at hy
     have:=s.2 hm y
     unfold jo at hy
     simp only at this
     rw [this] at hy
     cases hy
   | some m =>
    cases hr:vp (p0 :: r) p0.attr (xa p0) with
    | none =>
     exfalso
     obtain ⟨y,hy⟩:=Di (vi h hm).1
     rw [(s.1 m hm).2.2 y] at hy
     have:=c1.2 hr y
     unfold jo at this
     simp only at hy
     rw [this] at hy
     cases hy
    | some m' =>
     rw [zcg (c2 m' hr) (vi h hm) ((c1.1 m' hr).2.1.trans (s.1 m hm).2.1.symm) (fun y=>by rw [(c1.1 m' hr).2.2 y,(s.1 m hm).2.2 y];rfl)]
  ·next hall =>
   cases hm:kz (p0 :: r) with
   | none=>rfl
   | some m =>
    exfalso
    apply hall
    obtain ⟨_,a,h⟩:=A3 hm
    have s:=Eb hl h
    obtain ⟨y,hy⟩:=Di (vi h hm).1
    rw [(s.1 m hm).2.2 y] at hy
    have hy':jo (p0 :: r) y=true:=hy
    have hnum:∀ q ∈ p0 :: r,xa q=decide (y.kind=1):=fun q hq=>by
     have ht:=ng hy' hq
     rcases tg (h q hq).1 with k | k | k | k
     ·rw [decide_eq_true (Al (Or.inl k) ht)];unfold xa;simp [k]
     ·have:=zl (Or.inl k) ht;unfold xa;simp [k,this]
     ·rw [decide_eq_true (Al (Or.inr k) ht)];unfold xa;simp [k]
     ·have:=zl (Or.inr k) ht;unfold xa;simp [k,this]
    rw [List.all_eq_true]
    intro q hq
    unfold Bb
    rw [(h q hq).1,(h q hq).2,(h p0 (by simp)).2,hnum q hq,hnum p0 (by simp)]
    simp
end Go.Proofs.YtimklglliffpcaaGreat
namespace Go.Proofs.YtimklglliffpcaaGreat
/-- Where the first set stands; -1: there is none. -/
def Ap (l:List Pd):Int:=match l.findIdx? mu with
 | some i=>(i:Int)
 | none=>-1
theorem Mm (l:List Pd) (p:Pd):Ap (l ++ [p])=if Ap l < 0 then (if mu p then (l.length:Int) else -1) else Ap l:=by
 unfold Ap
 rw [List.findIdx?_append]
 cases h:l.findIdx? mu with
 | some i=>simp only [Option.some_or];rw [if_neg (by omega)]
 | none =>
  simp only [Option.none_or]
  rw [if_pos (by omega)]
  cases hk:mu p with
  | true=>simp [List.findIdx?_cons,hk]
  | false=>simp [List.findIdx?_cons,hk]
theorem zr {l:List Pd} {t:Nat} {p:Pd} (h:l[t]? = some p):Ap (l.take (t + 1))=if Ap (l.take t) < 0 then (if mu p then (t:Int) else -1) else Ap (l.take t):=by
 rw [jh h,Mm,List.length_take,Nat.min_eq_left (by have:=(List.getElem?_eq_some_iff.1 h).1;omega)]
theorem Tl {l:List Pd} (h:Ap l < 0):l.find? mu=none:=by
 unfold Ap at h
 cases hf:l.findIdx? mu with
 | some i=>rw [hf] at h;simp only at h;omega
 | none =>
  rw [List.findIdx?_eq_none_iff] at hf
  rw [List.find?_eq_none]
  exact fun x hx=>by rw [hf x hx];simp
theorem Rb {l:List Pd} (h:¬ Ap l < 0):∃ (i:Nat) (s:Pd),Ap l=(i:Int)/\l[i]? = some s/\l.find? mu=some s/\mu s=true:=by
 unfold Ap at h ⊢
 cases hf:l.findIdx? mu with
 | none=>rw [hf] at h;simp only at h;omega
 | some i =>
  obtain ⟨hi,h1,h2⟩:=List.findIdx?_eq_some_iff_getElem.1 hf
  refine ⟨i,l[i],rfl,List.getElem?_eq_getElem hi, ?_,h1⟩
  rw [List.find?_eq_some_iff_getElem]
  exact ⟨h1,i,hi,rfl,fun j hj=>by have:=h2 j hj;simpa using this⟩
theorem Yc (l:List Pd):-1<=Ap l/\Ap l < (l.length:Int) + 1:=by
 unfold Ap
 cases hf:l.findIdx? mu with
 | none=>simp only;omega
 | some i =>
  obtain ⟨hi,_,_⟩:=List.findIdx?_eq_some_iff_getElem.1 hf
  simp only
  omega
theorem Dx {l:List Pd} {t:Nat} {p:Pd} (h:l[t]? = some p):Ff (l.take (t + 1))=if p.kind=3 then max (Ff (l.take t)) p.lo else Ff (l.take t):=by
 unfold Ff;rw [jh h,List.foldl_append];rfl
theorem Bp {l:List Pd} {t:Nat} {p:Pd} (h:l[t]? = some p):tw (l.take (t + 1))=if p.kind=3 then min (tw (l.take t)) p.hi else tw (l.take t):=by
 unfold tw;rw [jh h,List.foldl_append];rfl
theorem xg {l:List Pd} {t:Nat} {p:Pd} (h:l[t]? = some p):rp (l.take (t + 1))=ly (rp (l.take t)) p:=by
 unfold rp;rw [jh h,List.foldl_append];rfl
theorem xm {l:List Pd} {p0 p:Pd} (h0:l[0]? = some p0) (hp:p ∈ l) (h:Bb p0 p=false):kz l=none:=by
 rw [<- Hu]
 cases l with
 | nil=>rfl
 | cons a r =>
  obtain rfl:a=p0:=by simpa using h0
  show (if (a :: r).all (Bb a) then vp (a :: r) a.attr (xa a) else none)=none
  rw [if_neg]
  intro hall
  have:=List.all_eq_true.1 hall p hp
  rw [h] at this
  cases this
theorem Tc {l:List Pd} {p0:Pd} (h0:l[0]? = some p0) (h:∀ p ∈ l,Bb p0 p=true):kz l=vp l p0.attr (xa p0):=by
 rw [<- Hu]
 cases l with
 | nil=>simp at h0
 | cons a r =>
  obtain rfl:a=p0:=by simpa using h0
  show (if (a :: r).all (Bb a) then vp (a :: r) a.attr (xa a) else none)=_
  rw [if_pos (List.all_eq_true.2 h)]
end Go.Proofs.YtimklglliffpcaaGreat
