/- What normal predicates, their meets and the conjunctions mean. -/
import Derived.Test.YtimklglliffpcaaGreatQZak
import Derived.Test.YtimklglliffpcaaGreatQZad
namespace Go.Proofs.YtimklglliffpcaaGreat
def lw (p:Pd) (y:Pr):Bool:=mc p.kind p.ints p.words p.lo p.hi y
theorem Pl (ev:List Pr) {p:Pd} (h:p.ok=true):mm ev p=match qr p.attr ev with | none=>false | some y=>decide (rx y.kind y.int y.word=0) && lw p y:=by
 unfold mm mr lw
 unfold Pd.ok at h
 rw [h,Bool.true_and]
 cases qr p.attr ev <;> rfl
theorem Mt {a b:ByteArray} (h:a.toList=b.toList):a=b:=by
 rw [ByteArray.toList_eq,ByteArray.toList_eq] at h
 cases a;cases b
 simp only at h
 rw [Array.toList_inj.1 h]
theorem ml {v:Int} {l:List Int}:Cm v l=true ↔ v ∈ l:=by
 unfold Cm
 rw [List.any_eq_true]
 constructor
 ·rintro ⟨x,hx,e⟩
  have:v=x:=by simpa using e
  rw [this];exact hx
 ·intro h
  exact ⟨v,h,by simp⟩
theorem nu {v:ByteArray} {l:List ByteArray}:vx v l=true ↔ v ∈ l:=by
 unfold vx
 rw [List.any_eq_true]
 constructor
 ·rintro ⟨x,hx,e⟩
  have:v=x:=Mt (by simpa using e)
  rw [this];exact hx
 ·intro h
  exact ⟨v,h,by simp⟩
/-- The parts of a predicate in form. -/
theorem j5 {p:Pd} (h:p.ok=true):ko p.attr=true/\((p.kind=1/\p9 ki p.ints 64=true/\p.words=[]/\p.lo=0/\p.hi=0) ∨ (p.kind=2/\p9 jp p.words 64=true/\p.ints=[]/\p.lo=0/\p.hi=0) ∨ (p.kind=3/\ki p.lo=true/\ki p.hi=true/\p.ints=[]/\p.words=[]) ∨ (p.kind=4/\p9 jp p.words 1=true/\p.ints=[]/\p.lo=0/\p.hi=0)):=by
 unfold Pd.ok kg at h
 rw [Bool.and_eq_true] at h
 refine ⟨h.1, ?_⟩
 have h2:=h.2
 unfold l8 at h2
 split at h2
 ·next hk =>
  simp only [Bool.and_eq_true,decide_eq_true_eq] at h2
  exact Or.inl ⟨hk,h2.1,List.length_eq_zero_iff.1 h2.2.2.1,h2.2.2.2.1,h2.2.2.2.2⟩
 ·split at h2
  ·next hk =>
   simp only [Bool.and_eq_true,decide_eq_true_eq] at h2
   exact Or.inr (Or.inl ⟨hk,h2.1,List.length_eq_zero_iff.1 h2.2.1,h2.2.2.2.1,h2.2.2.2.2⟩)
  ·split at h2
   ·next hk =>
    simp only [Bool.and_eq_true,decide_eq_true_eq] at h2
    exact Or.inr (Or.inr (Or.inl ⟨hk,h2.1.1,h2.1.2,List.length_eq_zero_iff.1 h2.2.1,List.length_eq_zero_iff.1 h2.2.2.1⟩))
   ·split at h2
    ·next hk =>
     simp only [Bool.and_eq_true,decide_eq_true_eq] at h2
     exact Or.inr (Or.inr (Or.inr ⟨hk,h2.1,List.length_eq_zero_iff.1 h2.2.1,h2.2.2.2.1,h2.2.2.2.2⟩))
    ·cases h2
theorem zad {a:ByteArray} {l:List Int} (h1:ko a=true) (h2:p9 ki l 64=true):(Pd.ok ⟨1,a,l,[],0,0⟩)=true:=by simp [Pd.ok,kg,l8,h1,h2]
theorem zb5 {a:ByteArray} {l:List ByteArray} (h1:ko a=true) (h2:p9 jp l 64=true):(Pd.ok ⟨2,a,[],l,0,0⟩)=true:=by simp [Pd.ok,kg,l8,h1,h2]
theorem zcn {a:ByteArray} {lo hi:Int} (h1:ko a=true) (h2:ki lo=true) (h3:ki hi=true):(Pd.ok ⟨3,a,[],[],lo,hi⟩)=true:=by simp [Pd.ok,kg,l8,h1,h2,h3]
theorem zb0 {a:ByteArray} {l:List ByteArray} (h1:ko a=true) (h2:p9 jp l 1=true):(Pd.ok ⟨4,a,[],l,0,0⟩)=true:=by simp [Pd.ok,kg,l8,h1,h2]
theorem tp {α:Type} {f:α->Bool} {l l':List α} {m:Int} (h:p9 f l m=true) (h1:∀ x ∈ l',x ∈ l) (h2:l'.length<=l.length) (h3:l' ≠ []):p9 f l' m=true:=by
 unfold p9 at *
 simp only [Bool.and_eq_true,decide_eq_true_eq,List.all_eq_true] at *
 refine ⟨fun x hx=>h.1 x (h1 x hx), ?_,by omega⟩
 have:=List.length_pos_iff.2 h3
 omega
theorem vh {α:Type} {f:α->Bool} {x:α} {m:Int} (h:f x=true) (hm:1<=m):p9 f [x] m=true:=by simp [p9,h,hm]
theorem xo {α:Type} {f:α->Bool} {l:List α} {m:Int} (h:p9 f l m=true):l ≠ []:=by
 unfold p9 at h
 simp only [Bool.and_eq_true,decide_eq_true_eq] at h
 intro e
 rw [e] at h
 simp at h
/-- The normal predicate holds where the predicate does. -/
theorem qq {p:Pd} (hp:p.ok=true):(∀ m,jr p=some m->m.ok=true/\m.attr=p.attr/\∀ y,lw m y=lw p y)/\(jr p=none->∀ y,lw p y=false):=by
 obtain ⟨hn,hc⟩:=j5 hp
 rcases hc with ⟨hk,h1,h2,h3,h4⟩ | ⟨hk,h1,h2,h3,h4⟩ | ⟨hk,h1,h2,h3,h4⟩ | ⟨hk,h1,h2,h3,h4⟩
 ·rw [qt hp hk]
  refine ⟨fun m hm=>?_,fun e=>by cases e⟩
  cases hm
  obtain ⟨o1,_,o3⟩:=nh p.ints
  refine ⟨zad hn (tp h1 (fun x hx=>(o1 x).1 hx) o3 (Fl (xo h1))),rfl,fun y=>?_⟩
  have e:Cm y.int (mx p.ints)=Cm y.int p.ints:=by
   rw [Bool.eq_iff_iff,ml,ml];exact o1 _
  simp only [lw,mc,hk,if_true,e]
 ·rw [xi hp hk]
  refine ⟨fun m hm=>?_,fun e=>by cases e⟩
  cases hm
  obtain ⟨o1,_,o3⟩:=mj p.words
  refine ⟨zb5 hn (tp h1 (fun x hx=>(o1 x).1 hx) o3 (Cz (xo h1))),rfl,fun y=>?_⟩
  have e:vx y.word (mq p.words)=vx y.word p.words:=by
   rw [Bool.eq_iff_iff,nu,nu];exact o1 _
  simp only [lw,mc,hk,if_neg (show ¬ (2:Int)=1 by decide),if_true,e]
 ·rw [qv hp hk]
  by_cases hlt:p.hi < p.lo
  ·rw [if_pos hlt]
   refine ⟨(fun m hm=>by cases hm),fun _ y=>?_⟩
   simp only [lw,mc,hk,if_neg (show ¬ (3:Int)=1 by decide),if_neg (show ¬ (3:Int)=2 by decide),if_true]
   by_cases ha:p.lo<=y.int
   ·have:¬ y.int<=p.hi:=by omega
    simp [this]
   ·simp [ha]
  ·rw [if_neg hlt]
   by_cases he:p.lo=p.hi
   ·rw [if_pos he]
    refine ⟨fun m hm=>?_,fun e=>by cases e⟩
    cases hm
    refine ⟨zad hn (vh h1 (by decide)),rfl,fun y=>?_⟩
    simp only [lw,mc,hk,if_neg (show ¬ (3:Int)=1 by decide),if_neg (show ¬ (3:Int)=2 by decide),if_true]
    congr 1
    rw [Bool.eq_iff_iff,ml]
    simp
    omega
   ·rw [if_neg he]
    refine ⟨fun m hm=>?_,fun e=>by cases e⟩
    cases hm
    refine ⟨zcn hn h1 h2,rfl,fun y=>?_⟩
    simp only [lw,mc,hk,if_neg (show ¬ (3:Int)=1 by decide),if_neg (show ¬ (3:Int)=2 by decide),if_true]
 ·rw [ta hp hk]
  refine ⟨fun m hm=>?_,fun e=>by cases e⟩
  cases hm
  refine ⟨zb0 hn h1,rfl,fun y=>?_⟩
  simp only [lw,mc,hk,if_neg (show ¬ (4:Int)=1 by decide),if_neg (show ¬ (4:Int)=2 by decide),if_neg (show ¬ (4:Int)=3 by decide)]
theorem Jq {b:Pd} (hb:b.ok=true) (x:Int) (nm w:ByteArray):qa b x=lw b ⟨nm,1,x,w⟩:=by
 obtain ⟨_,hc⟩:=j5 hb
 unfold qa lw mc
 rcases hc with ⟨hk,h1,h2,h3,h4⟩ | ⟨hk,h1,h2,h3,h4⟩ | ⟨hk,h1,h2,h3,h4⟩ | ⟨hk,h1,h2,h3,h4⟩
 ·rw [if_neg (by omega),if_pos hk]
  rw [Bool.eq_iff_iff]
  simp [ml]
 ·rw [if_neg (by omega),if_neg (by omega),if_pos hk,h2]
  simp
 ·rw [if_pos hk,if_neg (by omega),if_neg (by omega),if_pos hk]
  simp
 ·rw [if_neg (by omega),if_neg (by omega),if_neg (by omega),if_neg (by omega),h2]
  simp
theorem Ka {b:Pd} (hb:b.ok=true) (s:ByteArray) (nm:ByteArray) (x:Int):r8 b s=lw b ⟨nm,2,x,s⟩:=by
 obtain ⟨_,hc⟩:=j5 hb
 unfold r8 lw mc sm
 rcases hc with ⟨hk,h1,h2,h3,h4⟩ | ⟨hk,h1,h2,h3,h4⟩ | ⟨hk,h1,h2,h3,h4⟩ | ⟨hk,h1,h2,h3,h4⟩
 ·rw [if_neg (by omega),if_pos hk,h2]
  simp [vx]
 ·rw [if_neg (by omega),if_neg (by omega),if_pos hk]
  simp
 ·rw [if_neg (by omega),if_neg (by omega),if_neg (by omega),if_pos hk,h4]
  simp [vx]
 ·rw [if_pos hk,if_neg (by omega),if_neg (by omega),if_neg (by omega)]
  simp
theorem E4 {b:Pd} {y y':Pr} (h1:y.kind=y'.kind) (h2:y.int=y'.int) (h3:y.word=y'.word):lw b y=lw b y':=by
 unfold lw mc
 rw [h1,h2,h3]
theorem j8 {s p:ByteArray}:ll s p=true ↔ p.toList <+: s.toList:=by
 unfold ll
 rw [Bool.and_eq_true,decide_eq_true_eq,beq_iff_eq,ByteArray.toList_eq,ByteArray.toList_eq,ByteArray.toList_eq]
 have hx:(s.extract 0 p.size).data.toList=s.data.toList.take p.size:=by simp [ByteArray.data_extract]
 rw [hx]
 have hps:p.size=p.data.toList.length:=by rw [Array.length_toList];rfl
 have hss:s.size=s.data.toList.length:=by rw [Array.length_toList];rfl
 rw [hps,hss]
 constructor
 ·rintro ⟨_,h2⟩
  rw [<- h2]
  exact List.take_prefix _ _
 ·intro h
  exact ⟨h.length_le,(List.prefix_iff_eq_take.1 h).symm⟩
/-- What two hold together. -/
def And2 (o:Option Pd) (a b:Pd):Prop:=(∀ m,o=some m->m.ok=true/\m.attr=a.attr/\∀ y,lw m y=(lw a y && lw b y))/\(o=none->∀ y,(lw a y && lw b y)=false)
theorem V9 {a b:Pd} (ha:a.ok=true) (hb:b.ok=true) (hk:a.kind=1):And2 (kl a b) a b:=by
 obtain ⟨hn,hc⟩:=j5 ha
 rcases hc with ⟨_,h1,h2,h3,h4⟩ | ⟨h,_⟩ | ⟨h,_⟩ | ⟨h,_⟩
 case inr.inl=>omega
 case inr.inr.inl=>omega
 case inr.inr.inr=>omega
 have key:∀ y,((y.kind == 1) && Cm y.int (a.ints.filter (qa b)))=(lw a y && lw b y):=fun y=>by
  have e1:lw a y=((y.kind == 1) && Cm y.int a.ints):=by unfold lw mc;rw [if_pos hk]
  rw [e1,Bool.and_assoc]
  by_cases hy:y.kind=1
  ·congr 1
   rw [Bool.eq_iff_iff,Bool.and_eq_true,ml,ml,List.mem_filter,Jq hb y.int y.name y.word]
   rw [E4 (b:=b) (y:=⟨y.name,1,y.int,y.word⟩) (y':=y) hy.symm rfl rfl]
  ·have:(y.kind == 1)=false:=by simp [hy]
   rw [this];rfl
 have hco:kl a b=mkI a.attr (a.ints.filter (qa b)):=by unfold kl;rw [if_pos hk]
 rw [hco]
 unfold mkI
 refine ⟨fun m hm=>?_,fun hm y=>?_⟩
 ·split at hm
  ·cases hm
  ·next h0 =>
   cases hm
   refine ⟨zad hn (tp h1 (fun x hx=>(List.mem_filter.1 hx).1) (List.length_filter_le _ _) (fun e=>h0 (by rw [e];rfl))),rfl,fun y=>?_⟩
   rw [<- key y]
   rfl
 ·split at hm
  ·next h0 =>
   rw [<- key y,List.length_eq_zero_iff.1 h0]
   simp [Cm]
  ·cases hm
theorem Xm {a b:Pd} (ha:a.ok=true) (hb:b.ok=true) (hk:a.kind=2):And2 (kl a b) a b:=by
 obtain ⟨hn,hc⟩:=j5 ha
 rcases hc with ⟨h,_⟩ | ⟨_,h1,h2,h3,h4⟩ | ⟨h,_⟩ | ⟨h,_⟩
 case inl=>omega
 case inr.inr.inl=>omega
 case inr.inr.inr=>omega
 have key:∀ y,((y.kind == 2) && vx y.word (a.words.filter (r8 b)))=(lw a y && lw b y):=fun y=>by
  have e1:lw a y=((y.kind == 2) && vx y.word a.words):=by unfold lw mc;rw [if_neg (by omega),if_pos hk]
  rw [e1,Bool.and_assoc]
  by_cases hy:y.kind=2
  ·congr 1
   rw [Bool.eq_iff_iff,Bool.and_eq_true,nu,nu,List.mem_filter,Ka hb y.word y.name y.int]
   rw [E4 (b:=b) (y:=⟨y.name,2,y.int,y.word⟩) (y':=y) hy.symm rfl rfl]
  ·have:(y.kind == 2)=false:=by simp [hy]
   rw [this];rfl
 have hco:kl a b=mkS a.attr (a.words.filter (r8 b)):=by unfold kl;rw [if_neg (by omega),if_pos hk]
 rw [hco]
 unfold mkS
 refine ⟨fun m hm=>?_,fun hm y=>?_⟩
 ·split at hm
  ·cases hm
  ·next h0 =>
   cases hm
   refine ⟨zb5 hn (tp h1 (fun x hx=>(List.mem_filter.1 hx).1) (List.length_filter_le _ _) (fun e=>h0 (by rw [e];rfl))),rfl,fun y=>?_⟩
   rw [<- key y]
   rfl
 ·split at hm
  ·next h0 =>
   rw [<- key y,List.length_eq_zero_iff.1 h0]
   simp [vx]
  ·cases hm
theorem my {x:Int}:ki x=true ↔ -2147483648<=x/\x<=2147483647:=by simp [ki]
theorem qz {p:Pd} (hk:p.kind=3) (y:Pr):lw p y=((y.kind == 1) && (decide (p.lo<=y.int) && decide (y.int<=p.hi))):=by unfold lw mc;rw [if_neg (by omega),if_neg (by omega),if_pos hk]
theorem ph {p:Pd} (hk:p.kind=4) (y:Pr):lw p y=((y.kind == 2) && ll y.word (sm p)):=by unfold lw mc sm;rw [if_neg (by omega),if_neg (by omega),if_neg (by omega)]
theorem zbd {a b:Pd} (ha:a.ok=true) (hb:b.ok=true) (hk:a.kind=3) (hkb:b.kind=3):And2 (kl a b) a b:=by
 obtain ⟨hn,hc⟩:=j5 ha
 rcases hc with ⟨h,_⟩ | ⟨h,_⟩ | ⟨_,h1,h2,h3,h4⟩ | ⟨h,_⟩
 case inl=>omega
 case inr.inl=>omega
 case inr.inr.inr=>omega
 obtain ⟨_,hc2⟩:=j5 hb
 rcases hc2 with ⟨h,_⟩ | ⟨h,_⟩ | ⟨_,g1,g2,g3,g4⟩ | ⟨h,_⟩
 case inl=>omega
 case inr.inl=>omega
 case inr.inr.inr=>omega
 rw [my] at h1 h2 g1 g2
 have hco:kl a b=Dl a.attr (max a.lo b.lo) (min a.hi b.hi):=by unfold kl;rw [if_neg (by omega),if_neg (by omega),if_neg (by omega),if_pos hk]
 rw [hco]
 have key:∀ y,(lw a y && lw b y)=((y.kind == 1) && (decide (max a.lo b.lo<=y.int) && decide (y.int<=min a.hi b.hi))):=fun y=>by
  rw [qz hk,qz hkb]
  cases (y.kind == 1)
  ·rfl
  ·rw [Bool.eq_iff_iff]
   simp only [Bool.true_and,Bool.and_eq_true,decide_eq_true_eq]
   omega
 unfold Dl
 refine ⟨fun m hm=>?_,fun hm y=>?_⟩
 ·split at hm
  ·cases hm
  ·split at hm
   ·next h5 h6 =>
    cases hm
    refine ⟨zad hn (vh (my.2 (by omega)) (by decide)),rfl,fun y=>?_⟩
    rw [key y]
    simp only [lw,mc,if_true]
    congr 1
    rw [Bool.eq_iff_iff,ml]
    simp
    omega
   ·cases hm
    refine ⟨zcn hn (my.2 (by omega)) (my.2 (by omega)),rfl,fun y=>?_⟩
    rw [key y,qz rfl]
 ·split at hm
  ·next h5 =>
   rw [key y]
   by_cases h7:max a.lo b.lo<=y.int
   ·have:¬ y.int<=min a.hi b.hi:=by omega
    rw [decide_eq_false this];simp
   ·rw [decide_eq_false h7];simp
  ·split at hm <;> cases hm
theorem zax {a b:Pd} (ha:a.ok=true) (hb:b.ok=true) (hk:a.kind=4) (hkb:b.kind=4):And2 (kl a b) a b:=by
 obtain ⟨hn,hc⟩:=j5 ha
 rcases hc with ⟨h,_⟩ | ⟨h,_⟩ | ⟨h,_⟩ | ⟨_,h1,h2,h3,h4⟩
 case inl=>omega
 case inr.inl=>omega
 case inr.inr.inl=>omega
 obtain ⟨_,hc2⟩:=j5 hb
 rcases hc2 with ⟨h,_⟩ | ⟨h,_⟩ | ⟨h,_⟩ | ⟨_,g1,g2,g3,g4⟩
 case inl=>omega
 case inr.inl=>omega
 case inr.inr.inl=>omega
 have one:∀ {l:List ByteArray},p9 jp l 1=true->∃ s,l=[s]/\jp s=true:=fun {l} h=>by
  have hl:=xo h
  unfold p9 at h
  simp only [Bool.and_eq_true,decide_eq_true_eq] at h
  match l,hl,h with
  | [s],_,h=>exact ⟨s,rfl,by simpa using h.1⟩
  | _ :: _ :: _,_,h=>simp at h;omega
 obtain ⟨s,hs,ws⟩:=one h1
 obtain ⟨t,ht,wt⟩:=one g1
 have fa:sm a=s:=by unfold sm;rw [hs];rfl
 have fb:sm b=t:=by unfold sm;rw [ht];rfl
 have hco:kl a b=Dj a.attr s t:=by unfold kl;rw [if_neg (by omega),if_neg (by omega),if_neg (by omega),if_neg (by omega),fa,fb]
 rw [hco]
 have key:∀ y,(lw a y && lw b y)=((y.kind == 2) && (ll y.word s && ll y.word t)):=fun y=>by
  rw [ph hk,ph hkb,fa,fb]
  cases (y.kind == 2) <;> simp
 have szs:∀ x:ByteArray,x.toList.length=x.size:=fun x=>yz x
 unfold Dj
 split
 ·next hlt =>
  have main:∀ y:Pr,(ll y.word s && ll y.word t)=(ll t s && ll y.word t):=fun y=>by
   rw [Bool.eq_iff_iff,Bool.and_eq_true,Bool.and_eq_true,j8,j8,j8]
   constructor
   ·rintro ⟨u1,u2⟩
    exact ⟨List.prefix_of_prefix_length_le u1 u2 (by rw [szs,szs];omega),u2⟩
   ·rintro ⟨u1,u2⟩
    exact ⟨u1.trans u2,u2⟩
  cases hp:ll t s with
  | true =>
   rw [if_pos rfl]
   refine ⟨fun m hm=>?_,fun hm=>by cases hm⟩
   cases hm
   refine ⟨zb0 hn (vh wt (by decide)),rfl,fun y=>?_⟩
   rw [key y,main y,hp,ph rfl]
   rfl
  | false =>
   rw [if_neg (by simp)]
   refine ⟨(fun m hm=>by cases hm),fun _ y=>?_⟩
   rw [key y,main y,hp]
   simp
 ·next hlt =>
  have main:∀ y:Pr,(ll y.word s && ll y.word t)=(ll s t && ll y.word s):=fun y=>by
   rw [Bool.eq_iff_iff,Bool.and_eq_true,Bool.and_eq_true,j8,j8,j8]
   constructor
   ·rintro ⟨u1,u2⟩
    exact ⟨List.prefix_of_prefix_length_le u2 u1 (by rw [szs,szs];omega),u1⟩
   ·rintro ⟨u1,u2⟩
    exact ⟨u2,u1.trans u2⟩
  cases hp:ll s t with
  | true =>
   rw [if_pos rfl]
   refine ⟨fun m hm=>?_,fun hm=>by cases hm⟩
   cases hm
   refine ⟨zb0 hn (vh ws (by decide)),rfl,fun y=>?_⟩
   rw [key y,main y,hp,ph rfl]
   rfl
  | false =>
   rw [if_neg (by simp)]
   refine ⟨(fun m hm=>by cases hm),fun _ y=>?_⟩
   rw [key y,main y,hp]
   simp
theorem M5 {a b:Pd} (hab:(a.kind=3/\b.kind=4) ∨ (a.kind=4/\b.kind=3)):And2 (kl a b) a b:=by
 have hco:kl a b=none:=by unfold kl;rcases hab with ⟨h1,h2⟩ | ⟨h1,h2⟩ <;> rw [if_neg (by omega),if_neg (by omega),if_pos (by omega)]
 rw [hco]
 refine ⟨(fun m hm=>by cases hm),fun _ y=>?_⟩
 rcases hab with ⟨h1,h2⟩ | ⟨h1,h2⟩
 ·rw [qz h1,ph h2]
  by_cases hy:y.kind=1
  ·have:(y.kind == 2)=false:=by simp;omega
   simp [this]
  ·have:(y.kind == 1)=false:=by simp [hy]
   simp [this]
 ·rw [ph h1,qz h2]
  by_cases hy:y.kind=1
  ·have:(y.kind == 2)=false:=by simp;omega
   simp [this]
  ·have:(y.kind == 1)=false:=by simp [hy]
   simp [this]
theorem And2.swap {o:Option Pd} {a b:Pd} (h:And2 o b a) (hab:b.attr=a.attr):And2 o a b:=⟨fun m hm=>by obtain ⟨h1,h2,h3⟩:=h.1 m hm;exact ⟨h1,h2.trans hab,fun y=>by rw [h3 y,Bool.and_comm]⟩,fun hm y=>by rw [Bool.and_comm];exact h.2 hm y⟩
theorem tg {p:Pd} (h:p.ok=true):p.kind=1 ∨ p.kind=2 ∨ p.kind=3 ∨ p.kind=4:=by
 obtain ⟨_,hc⟩:=j5 h
 rcases hc with ⟨h,_⟩ | ⟨h,_⟩ | ⟨h,_⟩ | ⟨h,_⟩ <;> omega
theorem yi {a b:Pd} (ha:a.ok=true) (hb:b.ok=true) (hab:b.attr=a.attr):And2 (ry a b) a b:=by
 have ka:=tg ha
 have kb:=tg hb
 unfold ry
 cases hs:mu b with
 | true =>
  rw [if_pos rfl]
  refine And2.swap ?_ hab
  unfold mu at hs
  simp only [Bool.or_eq_true,decide_eq_true_eq] at hs
  rcases hs with h | h
  ·exact V9 hb ha h
  ·exact Xm hb ha h
 | false =>
  rw [if_neg (by simp)]
  unfold mu at hs
  simp only [Bool.or_eq_false_iff,decide_eq_false_iff_not] at hs
  rcases ka with h | h | h | h
  ·exact V9 ha hb h
  ·exact Xm ha hb h
  ·rcases kb with g | g | g | g
   ·exact absurd g hs.1
   ·exact absurd g hs.2
   ·exact zbd ha hb h g
   ·exact M5 (Or.inl ⟨h,g⟩)
  ·rcases kb with g | g | g | g
   ·exact absurd g hs.1
   ·exact absurd g hs.2
   ·exact M5 (Or.inr ⟨h,g⟩)
   ·exact zax ha hb h g
end Go.Proofs.YtimklglliffpcaaGreat
namespace Go.Proofs.YtimklglliffpcaaGreat
/-- What a row of predicates of one attribute holds together. -/
def Vl (o:Option Pd) (f:Pr->Bool) (a:ByteArray):Prop:=(∀ m,o=some m->m.ok=true/\m.attr=a/\∀ y,lw m y=f y)/\(o=none->∀ y,f y=false)
theorem Bd {a:ByteArray}:∀ (qs:List Pd) (o:Option Pd) (f:Pr->Bool),Vl o f a->(∀ q ∈ qs,q.ok=true/\q.attr=a)->Vl (kr o qs) (fun y=>f y && qs.all (lw · y)) a
 | [],o,f,h,_=>by
  have e:kr o []=o:=by cases o <;> rfl
  rw [e]
  refine ⟨fun m hm=>?_,fun hm y=>?_⟩
  ·obtain ⟨h1,h2,h3⟩:=h.1 m hm
   exact ⟨h1,h2,fun y=>by rw [h3 y];simp⟩
  ·simp only [h.2 hm y,Bool.false_and]
 | q :: qs,o,f,h,hq=>by
  obtain ⟨q1,q2⟩:=hq q (by simp)
  have ns:=qq q1
  cases o with
  | none =>
   rw [pt]
   exact ⟨(fun m hm=>by cases hm),fun _ y=>by simp only [h.2 rfl y,Bool.false_and]⟩
  | some m =>
   obtain ⟨m1,m2,m3⟩:=h.1 m rfl
   cases hn:jr q with
   | none =>
    have e:kr (some m) (q :: qs)=none:=by simp only [kr,hn]
    rw [e]
    refine ⟨(fun m hm=>by cases hm),fun _ y=>?_⟩
    have:=ns.2 hn y
    simp [this]
   | some n =>
    obtain ⟨n1,n2,n3⟩:=ns.1 n hn
    have e:kr (some m) (q :: qs)=kr (ry m n) qs:=by simp only [kr,hn];rw [if_pos (by rw [n2,q2,m2])]
    rw [e]
    have hb:=yi m1 n1 (by rw [n2,q2,m2])
    have ih:=Bd qs (ry m n) (fun y=>f y && lw q y) ⟨fun k hk=>by
     obtain ⟨b1,b2,b3⟩:=hb.1 k hk
     exact ⟨b1,b2.trans m2,fun y=>by rw [b3 y,m3 y,n3 y]⟩,fun hk y=>by simp only [<- m3 y,<- n3 y];exact hb.2 hk y⟩ (fun r hr=>hq r (by simp [hr]))
    refine ⟨fun k hk=>?_,fun hk y=>?_⟩
    ·obtain ⟨i1,i2,i3⟩:=ih.1 k hk
     exact ⟨i1,i2,fun y=>by rw [i3 y];simp [Bool.and_assoc]⟩
    ·have:=ih.2 hk y
     simp only [List.all_cons,<- Bool.and_assoc]
     exact this
theorem Eb {a:ByteArray} {l:List Pd} (hl:l ≠ []) (h:∀ q ∈ l,q.ok=true/\q.attr=a):Vl (kz l) (fun y=>l.all (lw · y)) a:=by
 cases l with
 | nil=>exact absurd rfl hl
 | cons p ps =>
  obtain ⟨p1,p2⟩:=h p (by simp)
  have ns:=qq p1
  have:=Bd (a:=a) ps (jr p) (fun y=>lw p y) ⟨fun m hm=>by
   obtain ⟨n1,n2,n3⟩:=ns.1 m hm
   exact ⟨n1,n2.trans p2,n3⟩,fun hm y=>ns.2 hm y⟩ (fun q hq=>h q (by simp [hq]))
  simpa [kz] using this
end Go.Proofs.YtimklglliffpcaaGreat
namespace Go.Proofs.YtimklglliffpcaaGreat
/-- A normal predicate. -/
def Nf (m:Pd):Prop:=m.ok=true/\((m.kind=1/\m.ints.Pairwise (· < ·)) ∨ (m.kind=2/\m.words.Pairwise ltS) ∨ (m.kind=3/\m.lo < m.hi) ∨ m.kind=4)
/-- A set of one number. -/
def Lk (m:Pd):Prop:=m.kind=1/\∃ x,m.ints=[x]
theorem kv {p:Pd}:mu p=true ↔ p.kind=1 ∨ p.kind=2:=by unfold mu;simp
theorem zy {p:Pd}:mu p=false ↔ ¬ p.kind=1/\¬ p.kind=2:=by unfold mu;simp
theorem Aa {p m:Pd} (hp:p.ok=true) (h:jr p=some m):Nf m/\(mu p=true->mu m=true)/\(mu p=false->mu m=true->Lk m):=by
 have hok:=((qq hp).1 m h).1
 rcases tg hp with hk | hk | hk | hk
 ·rw [qt hp hk] at h
  cases h
  exact ⟨⟨hok,Or.inl ⟨rfl,(nh p.ints).2.1⟩⟩,(fun _=>rfl),fun e=>by rw [zy] at e;exact absurd hk e.1⟩
 ·rw [xi hp hk] at h
  cases h
  exact ⟨⟨hok,Or.inr (Or.inl ⟨rfl,(mj p.words).2.1⟩)⟩,(fun _=>rfl),fun e=>by rw [zy] at e;exact absurd hk e.2⟩
 ·rw [qv hp hk] at h
  split at h
  ·cases h
  ·split at h
   ·cases h
    exact ⟨⟨hok,Or.inl ⟨rfl,List.pairwise_singleton _ _⟩⟩,(fun _=>rfl),fun _ _=>⟨rfl,_,rfl⟩⟩
   ·next h1 h2 =>
    cases h
    refine ⟨⟨hok,Or.inr (Or.inr (Or.inl ⟨rfl, ?_⟩))⟩,fun e=>?_,fun _ e=>?_⟩
    ·show p.lo < p.hi
     omega
    ·rw [kv] at e;omega
    ·rw [kv] at e;simp at e
 ·rw [ta hp hk] at h
  cases h
  refine ⟨⟨hok,Or.inr (Or.inr (Or.inr rfl))⟩,fun e=>?_,fun _ e=>?_⟩
  ·rw [kv] at e;omega
  ·rw [kv] at e;simp at e
theorem M7 {a b m:Pd} (ha:Nf a) (hmo:m.ok=true) (h:kl a b=some m):Nf m/\(mu a=true->mu m=true)/\(mu m=true->Lk a->Lk m)/\(mu a=false->mu m=true->Lk m):=by
 unfold kl at h
 split at h
 ·next hk =>
  unfold mkI at h
  split at h
  ·cases h
  ·next h0 =>
   cases h
   have hs:a.ints.Pairwise (· < ·):=by
    rcases ha.2 with ⟨_,h⟩ | ⟨h,_⟩ | ⟨h,_⟩ | h
    ·exact h
    ·omega
    ·omega
    ·omega
   refine ⟨⟨hmo,Or.inl ⟨rfl,hs.sublist List.filter_sublist⟩⟩,(fun _=>rfl),fun _ ho=>⟨rfl, ?_⟩,fun e=>?_⟩
   ·obtain ⟨_,x,hx⟩:=ho
    rw [hx] at h0 ⊢
    refine ⟨x, ?_⟩
    by_cases hf:qa b x=true
    ·simp [hf]
    ·simp [hf] at h0
   ·rw [zy] at e;exact absurd hk e.1
 ·next hk1 =>
  split at h
  ·next hk =>
   unfold mkS at h
   split at h
   ·cases h
   ·cases h
    have hs:a.words.Pairwise ltS:=by
     rcases ha.2 with ⟨h,_⟩ | ⟨_,h⟩ | ⟨h,_⟩ | h
     ·omega
     ·exact h
     ·omega
     ·omega
    exact ⟨⟨hmo,Or.inr (Or.inl ⟨rfl,hs.sublist List.filter_sublist⟩)⟩,(fun _=>rfl),(fun _ ho=>absurd ho.1 hk1),fun e=>by rw [zy] at e;exact absurd hk e.2⟩
  ·next hk2 =>
   split at h
   ·cases h
   ·split at h
    ·unfold Dl at h
     split at h
     ·cases h
     ·split at h
      ·cases h
       exact ⟨⟨hmo,Or.inl ⟨rfl,List.pairwise_singleton _ _⟩⟩,(fun _=>rfl),fun _ _=>⟨rfl,_,rfl⟩,fun _ _=>⟨rfl,_,rfl⟩⟩
      ·next h5 h6 =>
       cases h
       refine ⟨⟨hmo,Or.inr (Or.inr (Or.inl ⟨rfl, ?_⟩))⟩,fun e=>?_,fun e=>?_,fun _ e=>?_⟩
       ·show max a.lo b.lo < min a.hi b.hi
        omega
       ·rw [kv] at e;omega
       ·rw [kv] at e;simp at e
       ·rw [kv] at e;simp at e
    ·unfold Dj at h
     have done4:∀ w,m=⟨4,a.attr,[],[w],0,0⟩->Nf m/\(mu a=true->mu m=true)/\(mu m=true->Lk a->Lk m)/\(mu a=false->mu m=true->Lk m):=fun w e=>by
      subst e
      refine ⟨⟨hmo,Or.inr (Or.inr (Or.inr rfl))⟩,fun e=>?_,fun e=>?_,fun _ e=>?_⟩
      ·rw [kv] at e;omega
      ·rw [kv] at e;simp at e
      ·rw [kv] at e;simp at e
     split at h <;> split at h <;> first | (cases h;exact done4 _ rfl) | cases h
theorem Xo {a b m:Pd} (ha:Nf a) (hb:Nf b) (hab:b.attr=a.attr) (h:ry a b=some m):Nf m/\(mu a=true ∨ mu b=true->mu m=true)/\((mu a=true->Lk a)->(mu b=true->Lk b)->mu m=true->Lk m):=by
 have hmo:=((yi ha.1 hb.1 hab).1 m h).1
 unfold ry at h
 cases hs:mu b with
 | true =>
  rw [hs,if_pos rfl] at h
  obtain ⟨c1,c2,c3,c4⟩:=M7 hb hmo h
  exact ⟨c1,fun _=>c2 hs,fun _ h2 hm=>c3 hm (h2 rfl)⟩
 | false =>
  rw [hs,if_neg (by simp)] at h
  obtain ⟨c1,c2,c3,c4⟩:=M7 ha hmo h
  refine ⟨c1,fun e=>?_,fun h1 _ hm=>?_⟩
  ·rcases e with e | e
   ·exact c2 e
   ·cases e
  ·cases hsa:mu a with
   | true=>exact c3 hm (h1 hsa)
   | false=>exact c4 hsa hm
/-- What a normal predicate of a row is. -/
def Yd (s:Bool) (m:Pd):Prop:=Nf m/\(s=true->mu m=true)/\(s=false->mu m=true->Lk m)
theorem Bo {a:ByteArray}:∀ (qs:List Pd) (m0:Pd) (s:Bool),Yd s m0->m0.attr=a->(∀ q ∈ qs,q.ok=true/\q.attr=a)->∀ m,kr (some m0) qs=some m->Yd (s || qs.any mu) m
 | [],m0,s,h,_,_,m,hm=>by
  cases hm
  simpa using h
 | q :: qs,m0,s,h,ha,hq,m,hm=>by
  obtain ⟨q1,q2⟩:=hq q (by simp)
  cases hn:jr q with
  | none=>simp only [kr,hn] at hm;cases hm
  | some n =>
   obtain ⟨n1,n2,n3⟩:=Aa q1 hn
   have hna:n.attr=a:=(((qq q1).1 n hn).2.1).trans q2
   have e:kr (some m0) (q :: qs)=kr (ry m0 n) qs:=by simp only [kr,hn];rw [if_pos (by rw [hna,ha])]
   rw [e] at hm
   cases hb:ry m0 n with
   | none=>rw [hb,pt] at hm;cases hm
   | some k =>
    rw [hb] at hm
    obtain ⟨b1,b2,b3⟩:=Xo h.1 n1 (by rw [hna,ha]) hb
    have hka:k.attr=a:=(((yi h.1.1 n1.1 (by rw [hna,ha])).1 k hb).2.1).trans ha
    have:=Bo qs k (s || mu q) ⟨b1,fun e=>by
     rw [Bool.or_eq_true] at e
     rcases e with e | e
     ·exact b2 (Or.inl (h.2.1 e))
     ·exact b2 (Or.inr (n2 e)),fun e he=>by
     rw [Bool.or_eq_false_iff] at e
     exact b3 (h.2.2 e.1) (n3 e.2) he⟩ hka (fun r hr=>hq r (by simp [hr])) m hm
    simpa [Bool.or_assoc] using this
theorem vi {a:ByteArray} {l:List Pd} (h:∀ q ∈ l,q.ok=true/\q.attr=a) {m:Pd} (hm:kz l=some m):Yd (l.any mu) m:=by
 cases l with
 | nil=>cases hm
 | cons p ps =>
  obtain ⟨p1,p2⟩:=h p (by simp)
  change kr (jr p) ps=some m at hm
  cases hn:jr p with
  | none=>rw [hn,pt] at hm;cases hm
  | some n =>
   rw [hn] at hm
   obtain ⟨n1,n2,n3⟩:=Aa p1 hn
   have:=Bo ps n (mu p) ⟨n1,n2,n3⟩ ((((qq p1).1 n hn).2.1).trans p2) (fun q hq=>h q (by simp [hq])) m hm
   simpa using this
/-- A normal predicate holds of some value. -/
theorem Di {m:Pd} (h:Nf m):∃ y,lw m y=true:=by
 obtain ⟨_,hc⟩:=j5 h.1
 rcases hc with ⟨hk,h1,_⟩ | ⟨hk,h1,_⟩ | ⟨hk,_⟩ | ⟨hk,h1,_⟩
 ·obtain ⟨x,hx⟩:=List.exists_mem_of_ne_nil _ (xo h1)
  refine ⟨⟨⟨#[]⟩,1,x,⟨#[]⟩⟩, ?_⟩
  unfold lw mc
  rw [if_pos hk]
  simp [ml.2 hx]
 ·obtain ⟨x,hx⟩:=List.exists_mem_of_ne_nil _ (xo h1)
  refine ⟨⟨⟨#[]⟩,2,0,x⟩, ?_⟩
  unfold lw mc
  rw [if_neg (by omega),if_pos hk]
  simp [nu.2 hx]
 ·have hlt:m.lo < m.hi:=by
   rcases h.2 with ⟨h,_⟩ | ⟨h,_⟩ | ⟨_,h⟩ | h
   ·omega
   ·omega
   ·exact h
   ·omega
  refine ⟨⟨⟨#[]⟩,1,m.lo,⟨#[]⟩⟩, ?_⟩
  rw [qz hk]
  simp
  omega
 ·refine ⟨⟨⟨#[]⟩,2,0,sm m⟩, ?_⟩
  rw [ph hk]
  have:ll (sm m) (sm m)=true:=j8.2 (List.prefix_refl _)
  simp [this]
theorem zg {p:Pd} (hk:p.kind=1) (y:Pr):lw p y=((y.kind == 1) && Cm y.int p.ints):=by unfold lw mc;rw [if_pos hk]
theorem A8 {p:Pd} (hk:p.kind=2) (y:Pr):lw p y=((y.kind == 2) && vx y.word p.words):=by unfold lw mc;rw [if_neg (by omega),if_pos hk]
theorem Al {m:Pd} (hk:m.kind=1 ∨ m.kind=3) {y:Pr} (hy:lw m y=true):y.kind=1:=by
 rcases hk with hk | hk
 ·rw [zg hk,Bool.and_eq_true] at hy;simpa using hy.1
 ·rw [qz hk,Bool.and_eq_true] at hy;simpa using hy.1
theorem zl {m:Pd} (hk:m.kind=2 ∨ m.kind=4) {y:Pr} (hy:lw m y=true):y.kind=2:=by
 rcases hk with hk | hk
 ·rw [A8 hk,Bool.and_eq_true] at hy;simpa using hy.1
 ·rw [ph hk,Bool.and_eq_true] at hy;simpa using hy.1
theorem Du {m m':Pd} (h:Nf m) (ht:∀ y,lw m y=lw m' y) (k1:m.kind=1 ∨ m.kind=3) (k2:m'.kind=2 ∨ m'.kind=4):False:=by
 obtain ⟨y,hy⟩:=Di h
 have a:=Al k1 hy
 rw [ht y] at hy
 have b:=zl k2 hy
 omega
theorem vt {m m':Pd} (hm:Lk m) (h':Nf m') (hk:m'.kind=3) (ht:∀ y,lw m y=lw m' y):False:=by
 obtain ⟨k1,x,hx⟩:=hm
 have hlt:m'.lo < m'.hi:=by
  rcases h'.2 with ⟨h,_⟩ | ⟨h,_⟩ | ⟨_,h⟩ | h
  ·omega
  ·omega
  ·exact h
  ·omega
 have a:=ht ⟨⟨#[]⟩,1,m'.lo,⟨#[]⟩⟩
 have b:=ht ⟨⟨#[]⟩,1,m'.hi,⟨#[]⟩⟩
 rw [zg k1,qz hk,hx] at a b
 have l1:m'.lo<=m'.hi:=by omega
 simp [Cm,l1] at a b
 omega
/-- Two normal predicates of one row's kind that hold of the same values are the same. -/
theorem zcg {s:Bool} {m m':Pd} (h:Yd s m) (h':Yd s m') (ha:m.attr=m'.attr) (ht:∀ y,lw m y=lw m' y):m=m':=by
 obtain ⟨_,hc⟩:=j5 h.1.1
 obtain ⟨_,hc'⟩:=j5 h'.1.1
 have hset:∀ {k:Pd},Yd s k->k.kind=3 ∨ k.kind=4->s=false:=fun {k} hr hk=>by
  cases s with
  | false=>rfl
  | true =>
   have:=hr.2.1 rfl
   rw [kv] at this
   omega
 rcases hc with ⟨hk,h1,h2,h3,h4⟩ | ⟨hk,h1,h2,h3,h4⟩ | ⟨hk,h1,h2,h3,h4⟩ | ⟨hk,h1,h2,h3,h4⟩
 ·rcases hc' with ⟨gk,g1,g2,g3,g4⟩ | ⟨gk,_⟩ | ⟨gk,g1,g2,g3,g4⟩ | ⟨gk,_⟩
  ·have e:m.ints=m'.ints:=by
    have s1:m.ints.Pairwise (· < ·):=by
     rcases h.1.2 with ⟨_,h⟩ | ⟨h,_⟩ | ⟨h,_⟩ | h
     ·exact h
     ·omega
     ·omega
     ·omega
    have s2:m'.ints.Pairwise (· < ·):=by
     rcases h'.1.2 with ⟨_,h⟩ | ⟨h,_⟩ | ⟨h,_⟩ | h
     ·exact h
     ·omega
     ·omega
     ·omega
    rw [<- pj (l:=m.ints) (fun x=>Iff.rfl) s1]
    refine pj (fun x=>?_) s2
    have:=ht ⟨⟨#[]⟩,1,x,⟨#[]⟩⟩
    rw [zg hk,zg gk] at this
    simp at this
    rw [<- ml,<- ml,this]
   obtain ⟨a1,a2,a3,a4,a5,a6⟩:=m
   obtain ⟨b1,b2,b3,b4,b5,b6⟩:=m'
   simp only at *
   subst hk gk ha e h2 h3 h4 g2 g3 g4
   rfl
  ·exact (Du h.1 ht (Or.inl hk) (Or.inl gk)).elim
  ·exact (vt (h.2.2 (hset h' (Or.inl gk)) (kv.2 (Or.inl hk))) h'.1 gk ht).elim
  ·exact (Du h.1 ht (Or.inl hk) (Or.inr gk)).elim
 ·rcases hc' with ⟨gk,_⟩ | ⟨gk,g1,g2,g3,g4⟩ | ⟨gk,_⟩ | ⟨gk,_⟩
  ·exact (Du h'.1 (fun y=>(ht y).symm) (Or.inl gk) (Or.inl hk)).elim
  ·have e:m.words=m'.words:=by
    have s1:m.words.Pairwise ltS:=by
     rcases h.1.2 with ⟨h,_⟩ | ⟨_,h⟩ | ⟨h,_⟩ | h
     ·omega
     ·exact h
     ·omega
     ·omega
    have s2:m'.words.Pairwise ltS:=by
     rcases h'.1.2 with ⟨h,_⟩ | ⟨_,h⟩ | ⟨h,_⟩ | h
     ·omega
     ·exact h
     ·omega
     ·omega
    rw [<- rn (l:=m.words) (fun x=>Iff.rfl) s1]
    refine rn (fun x=>?_) s2
    have:=ht ⟨⟨#[]⟩,2,0,x⟩
    rw [A8 hk,A8 gk] at this
    simp at this
    rw [<- nu,<- nu,this]
   obtain ⟨a1,a2,a3,a4,a5,a6⟩:=m
   obtain ⟨b1,b2,b3,b4,b5,b6⟩:=m'
   simp only at *
   subst hk gk ha e h2 h3 h4 g2 g3 g4
   rfl
  ·exact (Du h'.1 (fun y=>(ht y).symm) (Or.inr gk) (Or.inl hk)).elim
  ·have:=(h.2.2 (hset h' (Or.inr gk)) (kv.2 (Or.inr hk))).1
   omega
 ·rcases hc' with ⟨gk,_⟩ | ⟨gk,_⟩ | ⟨gk,g1,g2,g3,g4⟩ | ⟨gk,_⟩
  ·exact (vt (h'.2.2 (hset h (Or.inl hk)) (kv.2 (Or.inl gk))) h.1 hk (fun y=>(ht y).symm)).elim
  ·exact (Du h.1 ht (Or.inr hk) (Or.inl gk)).elim
  ·have l1:m.lo < m.hi:=by
    rcases h.1.2 with ⟨h,_⟩ | ⟨h,_⟩ | ⟨_,h⟩ | h
    ·omega
    ·omega
    ·exact h
    ·omega
   have l2:m'.lo < m'.hi:=by
    rcases h'.1.2 with ⟨h,_⟩ | ⟨h,_⟩ | ⟨_,h⟩ | h
    ·omega
    ·omega
    ·exact h
    ·omega
   have t1:=ht ⟨⟨#[]⟩,1,m.lo,⟨#[]⟩⟩
   have t2:=ht ⟨⟨#[]⟩,1,m.hi,⟨#[]⟩⟩
   have t3:=ht ⟨⟨#[]⟩,1,m'.lo,⟨#[]⟩⟩
   have t4:=ht ⟨⟨#[]⟩,1,m'.hi,⟨#[]⟩⟩
   rw [qz hk,qz gk] at t1 t2 t3 t4
   rw [Bool.eq_iff_iff] at t1 t2 t3 t4
   simp only [Bool.and_eq_true,decide_eq_true_eq,beq_self_eq_true,true_and] at t1 t2 t3 t4
   have e1:m.lo=m'.lo:=by omega
   have e2:m.hi=m'.hi:=by omega
   obtain ⟨a1,a2,a3,a4,a5,a6⟩:=m
   obtain ⟨b1,b2,b3,b4,b5,b6⟩:=m'
   simp only at *
   subst hk gk ha e1 e2 h3 h4 g3 g4
   rfl
  ·exact (Du h.1 ht (Or.inr hk) (Or.inr gk)).elim
 ·rcases hc' with ⟨gk,_⟩ | ⟨gk,_⟩ | ⟨gk,_⟩ | ⟨gk,g1,g2,g3,g4⟩
  ·exact (Du h'.1 (fun y=>(ht y).symm) (Or.inl gk) (Or.inr hk)).elim
  ·have:=(h'.2.2 (hset h (Or.inr hk)) (kv.2 (Or.inr gk))).1
   omega
  ·exact (Du h'.1 (fun y=>(ht y).symm) (Or.inr gk) (Or.inr hk)).elim
  ·obtain ⟨_,x,hx⟩:True/\∃ x,m.words=[x]:=by
    rcases ql h.1.1 with e | e | e | ⟨_,e⟩
    ·omega
    ·omega
    ·omega
    ·exact ⟨trivial,e⟩
   obtain ⟨_,y,hy⟩:True/\∃ y,m'.words=[y]:=by
    rcases ql h'.1.1 with e | e | e | ⟨_,e⟩
    ·omega
    ·omega
    ·omega
    ·exact ⟨trivial,e⟩
   have f1:sm m=x:=by unfold sm;rw [hx];rfl
   have f2:sm m'=y:=by unfold sm;rw [hy];rfl
   have t1:=ht ⟨⟨#[]⟩,2,0,x⟩
   have t2:=ht ⟨⟨#[]⟩,2,0,y⟩
   rw [ph hk,ph gk,f1,f2] at t1 t2
   have r1:ll x x=true:=j8.2 (List.prefix_refl _)
   have r2:ll y y=true:=j8.2 (List.prefix_refl _)
   rw [r1] at t1
   rw [r2] at t2
   simp at t1 t2
   have p1:=j8.1 t1
   have p2:=j8.1 t2
   have e:x=y:=Mt (p2.eq_of_length_le p1.length_le)
   obtain ⟨a1,a2,a3,a4,a5,a6⟩:=m
   obtain ⟨b1,b2,b3,b4,b5,b6⟩:=m'
   simp only at *
   subst hk gk ha e hx hy h2 h3 h4 g2 g3 g4
   rfl
end Go.Proofs.YtimklglliffpcaaGreat
namespace Go.Proofs.YtimklglliffpcaaGreat
theorem Ai {a:ByteArray}:∀ (qs:List Pd) (m0:Pd),m0.ok=true->m0.attr=a->∀ m,kr (some m0) qs=some m->∀ q ∈ qs,q.ok=true/\q.attr=a
 | [],_,_,_,_,_,q,hq=>by simp at hq
 | q :: qs,m0,h0,ha,m,hm,r,hr=>by
  cases hn:jr q with
  | none=>simp only [kr,hn] at hm;cases hm
  | some n =>
   have hq:q.ok=true:=by
    cases hk:q.ok with
    | true=>rfl
    | false=>rw [mw hk] at hn;cases hn
   obtain ⟨n1,n2,_⟩:=(qq hq).1 n hn
   simp only [kr,hn] at hm
   split at hm
   ·next he =>
    have hqa:q.attr=a:=by rw [<- n2,he,ha]
    rcases List.mem_cons.1 hr with rfl | hr
    ·exact ⟨hq,hqa⟩
    ·cases hb:ry m0 n with
     | none=>rw [hb,pt] at hm;cases hm
     | some k =>
      rw [hb] at hm
      obtain ⟨k1,k2,_⟩:=(yi h0 n1 he).1 k hb
      exact Ai qs k k1 (k2.trans ha) m hm r hr
   ·cases hm
/-- What has a meet is in form, and of one attribute. -/
theorem A3 {l:List Pd} {m:Pd} (hm:kz l=some m):l ≠ []/\∃ a,∀ q ∈ l,q.ok=true/\q.attr=a:=by
 cases l with
 | nil=>cases hm
 | cons p ps =>
  refine ⟨by simp,p.attr,fun q hq=>?_⟩
  change kr (jr p) ps=some m at hm
  cases hn:jr p with
  | none=>rw [hn,pt] at hm;cases hm
  | some n =>
   have hp:p.ok=true:=by
    cases hk:p.ok with
    | true=>rfl
    | false=>rw [mw hk] at hn;cases hn
   obtain ⟨n1,n2,_⟩:=(qq hp).1 n hn
   rw [hn] at hm
   rcases List.mem_cons.1 hq with rfl | hq
   ·exact ⟨hp,rfl⟩
   ·exact Ai ps n n1 n2 m hm q hq
end Go.Proofs.YtimklglliffpcaaGreat
namespace Go.Proofs.YtimklglliffpcaaGreat
theorem pm {α:Type} {f:α->Bool} {l:List α} {m:Int} (h:p9 f l m=true):(l.length:Int)<=m:=by
 simp [p9] at h
 omega
theorem Tg {p:Pd} (h:p.ok=true):p.small:=by
 unfold Pd.small
 rcases (j5 h).2 with ⟨_,h1,h2,_⟩ | ⟨_,h1,h2,_⟩ | ⟨_,_,_,h1,h2⟩ | ⟨_,h1,h2,_⟩
 ·have:=pm h1;rw [h2];simp only [List.length_nil];omega
 ·have:=pm h1;rw [h2];simp only [List.length_nil];omega
 ·rw [h1,h2];simp only [List.length_nil];omega
 ·have:=pm h1;rw [h2];simp only [List.length_nil];omega
end Go.Proofs.YtimklglliffpcaaGreat
