/- What normal predicates, their meets and the conjunctions mean. -/
import Derived.Test.YtimklglliffpcaaGreatQZan
import Derived.Test.YtimklglliffpcaaGreatQZaf
namespace Go.Proofs.YtimklglliffpcaaGreat

def told (p:Pd) (y:Pr):Bool:=toldB p.kind p.ints p.words p.lo p.hi y
theorem holdsD_eq (ev:List Pr) {p:Pd} (h:p.ok=true):holdsD ev p=match getP p.attr ev with | none=>false | some y=>decide (chkV y.kind y.int y.word=0) && told p y:=by
 unfold holdsD holdsB told
 unfold Pd.ok at h
 rw [h,Bool.true_and]
 cases getP p.attr ev <;> rfl
theorem holdsD_no (ev:List Pr) {p:Pd} (h:p.ok=false):holdsD ev p=false:=by
 unfold holdsD holdsB
 unfold Pd.ok at h
 rw [h,Bool.false_and]
/-- Of one attribute: what is told of every value is told of every event. -/
theorem holds_of_told (ev:List Pr) {m p:Pd} (hm:m.ok=true) (hp:p.ok=true) (ha:m.attr=p.attr) (h:∀ y,told m y=told p y):holdsD ev m=holdsD ev p:=by
 rw [holdsD_eq ev hm,holdsD_eq ev hp,ha]
 cases getP p.attr ev with
 | none=>rfl
 | some y=>simp only [h]
theorem ba_list {a b:ByteArray} (h:a.toList=b.toList):a=b:=by
 rw [ByteArray.toList_eq,ByteArray.toList_eq] at h
 cases a;cases b
 simp only at h
 rw [Array.toList_inj.1 h]
theorem hasI_iff {v:Int} {l:List Int}:hasI v l=true ↔ v ∈ l:=by
 unfold hasI
 rw [List.any_eq_true]
 constructor
 ·rintro ⟨x,hx,e⟩
  have:v=x:=by simpa using e
  rw [this];exact hx
 ·intro h
  exact ⟨v,h,by simp⟩
theorem hasS_iff {v:ByteArray} {l:List ByteArray}:hasS v l=true ↔ v ∈ l:=by
 unfold hasS
 rw [List.any_eq_true]
 constructor
 ·rintro ⟨x,hx,e⟩
  have:v=x:=ba_list (by simpa using e)
  rw [this];exact hx
 ·intro h
  exact ⟨v,h,by simp⟩
/-- The parts of a predicate in form. -/
theorem ok_parts {p:Pd} (h:p.ok=true):nameOk p.attr=true∧((p.kind=1∧memB numOk p.ints 64=true∧p.words=[]∧p.lo=0∧p.hi=0) ∨ (p.kind=2∧memB wordOk p.words 64=true∧p.ints=[]∧p.lo=0∧p.hi=0) ∨ (p.kind=3∧numOk p.lo=true∧numOk p.hi=true∧p.ints=[]∧p.words=[]) ∨ (p.kind=4∧memB wordOk p.words 1=true∧p.ints=[]∧p.lo=0∧p.hi=0)):=by
 unfold Pd.ok predB at h
 rw [Bool.and_eq_true] at h
 refine ⟨h.1, ?_⟩
 have h2:=h.2
 unfold emptyB at h2
 split at h2
 ·next hk =>
  simp only [Bool.and_eq_true,decide_eq_true_eq] at h2
  exact Or.inl ⟨hk,h2.1,List.length_eq_zero_iff.1 h2.2.2.1,h2.2.2.2.1,h2.2.2.2.2⟩
 ·split at h2
  ·next hk =>
   simp only [Bool.and_eq_true,decide_eq_true_eq] at h2
   exact Or.inr (Or.inl ⟨hk,h2.1,List.length_eq_zero_iff.1 h2.2.1,h2.2.2.2.1,h2.2.2.2.2⟩)
  ·split at h2
   ·next hk =>
    simp only [Bool.and_eq_true,decide_eq_true_eq] at h2
    exact Or.inr (Or.inr (Or.inl ⟨hk,h2.1.1,h2.1.2,List.length_eq_zero_iff.1 h2.2.1,List.length_eq_zero_iff.1 h2.2.2.1⟩))
   ·split at h2
    ·next hk =>
     simp only [Bool.and_eq_true,decide_eq_true_eq] at h2
     exact Or.inr (Or.inr (Or.inr ⟨hk,h2.1,List.length_eq_zero_iff.1 h2.2.1,h2.2.2.2.1,h2.2.2.2.2⟩))
    ·cases h2
theorem ok_1 {a:ByteArray} {l:List Int} (h1:nameOk a=true) (h2:memB numOk l 64=true):(Pd.ok ⟨1,a,l,[],0,0⟩)=true:=by simp [Pd.ok,predB,emptyB,h1,h2]
theorem ok_2 {a:ByteArray} {l:List ByteArray} (h1:nameOk a=true) (h2:memB wordOk l 64=true):(Pd.ok ⟨2,a,[],l,0,0⟩)=true:=by simp [Pd.ok,predB,emptyB,h1,h2]
theorem ok_3 {a:ByteArray} {lo hi:Int} (h1:nameOk a=true) (h2:numOk lo=true) (h3:numOk hi=true):(Pd.ok ⟨3,a,[],[],lo,hi⟩)=true:=by simp [Pd.ok,predB,emptyB,h1,h2,h3]
theorem ok_4 {a:ByteArray} {l:List ByteArray} (h1:nameOk a=true) (h2:memB wordOk l 1=true):(Pd.ok ⟨4,a,[],l,0,0⟩)=true:=by simp [Pd.ok,predB,emptyB,h1,h2]
theorem memB_sub {α:Type} {f:α→Bool} {l l':List α} {m:Int} (h:memB f l m=true) (h1:∀ x ∈ l',x ∈ l) (h2:l'.length≤l.length) (h3:l' ≠ []):memB f l' m=true:=by
 unfold memB at *
 simp only [Bool.and_eq_true,decide_eq_true_eq,List.all_eq_true] at *
 refine ⟨fun x hx=>h.1 x (h1 x hx), ?_,by omega⟩
 have:=List.length_pos_iff.2 h3
 omega
theorem memB_one {α:Type} {f:α→Bool} {x:α} {m:Int} (h:f x=true) (hm:1≤m):memB f [x] m=true:=by simp [memB,h,hm]
theorem memB_ne {α:Type} {f:α→Bool} {l:List α} {m:Int} (h:memB f l m=true):l ≠ []:=by
 unfold memB at h
 simp only [Bool.and_eq_true,decide_eq_true_eq] at h
 intro e
 rw [e] at h
 simp at h
/-- The normal predicate holds where the predicate does. -/
theorem norm_sem {p:Pd} (hp:p.ok=true):(∀ m,normD p=some m→m.ok=true∧m.attr=p.attr∧∀ y,told m y=told p y)∧(normD p=none→∀ y,told p y=false):=by
 obtain ⟨hn,hc⟩:=ok_parts hp
 rcases hc with ⟨hk,h1,h2,h3,h4⟩ | ⟨hk,h1,h2,h3,h4⟩ | ⟨hk,h1,h2,h3,h4⟩ | ⟨hk,h1,h2,h3,h4⟩
 ·rw [normD_1 hp hk]
  refine ⟨fun m hm=>?_,fun e=>by cases e⟩
  cases hm
  obtain ⟨o1,_,o3⟩:=onceI_spec p.ints
  refine ⟨ok_1 hn (memB_sub h1 (fun x hx=>(o1 x).1 hx) o3 (once_ne (memB_ne h1))),rfl,fun y=>?_⟩
  have e:hasI y.int (onceI p.ints)=hasI y.int p.ints:=by
   rw [Bool.eq_iff_iff,hasI_iff,hasI_iff];exact o1 _
  simp only [told,toldB,hk,if_true,e]
 ·rw [normD_2 hp hk]
  refine ⟨fun m hm=>?_,fun e=>by cases e⟩
  cases hm
  obtain ⟨o1,_,o3⟩:=onceS_spec p.words
  refine ⟨ok_2 hn (memB_sub h1 (fun x hx=>(o1 x).1 hx) o3 (onceS_ne (memB_ne h1))),rfl,fun y=>?_⟩
  have e:hasS y.word (onceS p.words)=hasS y.word p.words:=by
   rw [Bool.eq_iff_iff,hasS_iff,hasS_iff];exact o1 _
  simp only [told,toldB,hk,if_neg (show ¬ (2:Int)=1 by decide),if_true,e]
 ·rw [normD_3 hp hk]
  by_cases hlt:p.hi < p.lo
  ·rw [if_pos hlt]
   refine ⟨(fun m hm=>by cases hm),fun _ y=>?_⟩
   simp only [told,toldB,hk,if_neg (show ¬ (3:Int)=1 by decide),if_neg (show ¬ (3:Int)=2 by decide),if_true]
   by_cases ha:p.lo≤y.int
   ·have:¬ y.int≤p.hi:=by omega
    simp [this]
   ·simp [ha]
  ·rw [if_neg hlt]
   by_cases he:p.lo=p.hi
   ·rw [if_pos he]
    refine ⟨fun m hm=>?_,fun e=>by cases e⟩
    cases hm
    refine ⟨ok_1 hn (memB_one h1 (by decide)),rfl,fun y=>?_⟩
    simp only [told,toldB,hk,if_neg (show ¬ (3:Int)=1 by decide),if_neg (show ¬ (3:Int)=2 by decide),if_true]
    congr 1
    rw [Bool.eq_iff_iff,hasI_iff]
    simp
    omega
   ·rw [if_neg he]
    refine ⟨fun m hm=>?_,fun e=>by cases e⟩
    cases hm
    refine ⟨ok_3 hn h1 h2,rfl,fun y=>?_⟩
    simp only [told,toldB,hk,if_neg (show ¬ (3:Int)=1 by decide),if_neg (show ¬ (3:Int)=2 by decide),if_true]
 ·rw [normD_4 hp hk]
  refine ⟨fun m hm=>?_,fun e=>by cases e⟩
  cases hm
  refine ⟨ok_4 hn h1,rfl,fun y=>?_⟩
  simp only [told,toldB,hk,if_neg (show ¬ (4:Int)=1 by decide),if_neg (show ¬ (4:Int)=2 by decide),if_neg (show ¬ (4:Int)=3 by decide)]
theorem hasID_told {b:Pd} (hb:b.ok=true) (x:Int) (nm w:ByteArray):hasID b x=told b ⟨nm,1,x,w⟩:=by
 obtain ⟨_,hc⟩:=ok_parts hb
 unfold hasID told toldB
 rcases hc with ⟨hk,h1,h2,h3,h4⟩ | ⟨hk,h1,h2,h3,h4⟩ | ⟨hk,h1,h2,h3,h4⟩ | ⟨hk,h1,h2,h3,h4⟩
 ·rw [if_neg (by omega),if_pos hk]
  rw [Bool.eq_iff_iff]
  simp [hasI_iff]
 ·rw [if_neg (by omega),if_neg (by omega),if_pos hk,h2]
  simp
 ·rw [if_pos hk,if_neg (by omega),if_neg (by omega),if_pos hk]
  simp
 ·rw [if_neg (by omega),if_neg (by omega),if_neg (by omega),if_neg (by omega),h2]
  simp
theorem hasSD_told {b:Pd} (hb:b.ok=true) (s:ByteArray) (nm:ByteArray) (x:Int):hasSD b s=told b ⟨nm,2,x,s⟩:=by
 obtain ⟨_,hc⟩:=ok_parts hb
 unfold hasSD told toldB fstW
 rcases hc with ⟨hk,h1,h2,h3,h4⟩ | ⟨hk,h1,h2,h3,h4⟩ | ⟨hk,h1,h2,h3,h4⟩ | ⟨hk,h1,h2,h3,h4⟩
 ·rw [if_neg (by omega),if_pos hk,h2]
  simp [hasS]
 ·rw [if_neg (by omega),if_neg (by omega),if_pos hk]
  simp
 ·rw [if_neg (by omega),if_neg (by omega),if_neg (by omega),if_pos hk,h4]
  simp [hasS]
 ·rw [if_pos hk,if_neg (by omega),if_neg (by omega),if_neg (by omega)]
  simp
theorem told_kind {b:Pd} {y y':Pr} (h1:y.kind=y'.kind) (h2:y.int=y'.int) (h3:y.word=y'.word):told b y=told b y':=by
 unfold told toldB
 rw [h1,h2,h3]
theorem prefB_list {s p:ByteArray}:prefB s p=true ↔ p.toList <+: s.toList:=by
 unfold prefB
 rw [Bool.and_eq_true,decide_eq_true_eq,beq_iff_eq,ByteArray.toList_eq,ByteArray.toList_eq,ByteArray.toList_eq]
 have hx:(s.extract 0 p.size).data.toList=s.data.toList.take p.size:=by simp [ByteArray.data_extract]
 rw [hx]
 have hps:p.size=p.data.toList.length:=by rw [Array.length_toList];rfl
 have hss:s.size=s.data.toList.length:=by rw [Array.length_toList];rfl
 rw [hps,hss]
 constructor
 ·rintro ⟨_,h2⟩
  rw [← h2]
  exact List.take_prefix _ _
 ·intro h
  exact ⟨h.length_le,(List.prefix_iff_eq_take.1 h).symm⟩
/-- What two hold together. -/
def And2 (o:Option Pd) (a b:Pd):Prop:=(∀ m,o=some m→m.ok=true∧m.attr=a.attr∧∀ y,told m y=(told a y && told b y))∧(o=none→∀ y,(told a y && told b y)=false)
theorem core_1 {a b:Pd} (ha:a.ok=true) (hb:b.ok=true) (hk:a.kind=1):And2 (coreD a b) a b:=by
 obtain ⟨hn,hc⟩:=ok_parts ha
 rcases hc with ⟨_,h1,h2,h3,h4⟩ | ⟨h,_⟩ | ⟨h,_⟩ | ⟨h,_⟩
 case inr.inl=>omega
 case inr.inr.inl=>omega
 case inr.inr.inr=>omega
 have key:∀ y,((y.kind == 1) && hasI y.int (a.ints.filter (hasID b)))=(told a y && told b y):=fun y=>by
  have e1:told a y=((y.kind == 1) && hasI y.int a.ints):=by unfold told toldB;rw [if_pos hk]
  rw [e1,Bool.and_assoc]
  by_cases hy:y.kind=1
  ·congr 1
   rw [Bool.eq_iff_iff,Bool.and_eq_true,hasI_iff,hasI_iff,List.mem_filter,hasID_told hb y.int y.name y.word]
   rw [told_kind (b:=b) (y:=⟨y.name,1,y.int,y.word⟩) (y':=y) hy.symm rfl rfl]
  ·have:(y.kind == 1)=false:=by simp [hy]
   rw [this];rfl
 have hco:coreD a b=mkI a.attr (a.ints.filter (hasID b)):=by unfold coreD;rw [if_pos hk]
 rw [hco]
 unfold mkI
 refine ⟨fun m hm=>?_,fun hm y=>?_⟩
 ·split at hm
  ·cases hm
  ·next h0 =>
   cases hm
   refine ⟨ok_1 hn (memB_sub h1 (fun x hx=>(List.mem_filter.1 hx).1) (List.length_filter_le _ _) (fun e=>h0 (by rw [e];rfl))),rfl,fun y=>?_⟩
   rw [← key y]
   rfl
 ·split at hm
  ·next h0 =>
   rw [← key y,List.length_eq_zero_iff.1 h0]
   simp [hasI]
  ·cases hm
theorem core_2 {a b:Pd} (ha:a.ok=true) (hb:b.ok=true) (hk:a.kind=2):And2 (coreD a b) a b:=by
 obtain ⟨hn,hc⟩:=ok_parts ha
 rcases hc with ⟨h,_⟩ | ⟨_,h1,h2,h3,h4⟩ | ⟨h,_⟩ | ⟨h,_⟩
 case inl=>omega
 case inr.inr.inl=>omega
 case inr.inr.inr=>omega
 have key:∀ y,((y.kind == 2) && hasS y.word (a.words.filter (hasSD b)))=(told a y && told b y):=fun y=>by
  have e1:told a y=((y.kind == 2) && hasS y.word a.words):=by unfold told toldB;rw [if_neg (by omega),if_pos hk]
  rw [e1,Bool.and_assoc]
  by_cases hy:y.kind=2
  ·congr 1
   rw [Bool.eq_iff_iff,Bool.and_eq_true,hasS_iff,hasS_iff,List.mem_filter,hasSD_told hb y.word y.name y.int]
   rw [told_kind (b:=b) (y:=⟨y.name,2,y.int,y.word⟩) (y':=y) hy.symm rfl rfl]
  ·have:(y.kind == 2)=false:=by simp [hy]
   rw [this];rfl
 have hco:coreD a b=mkS a.attr (a.words.filter (hasSD b)):=by unfold coreD;rw [if_neg (by omega),if_pos hk]
 rw [hco]
 unfold mkS
 refine ⟨fun m hm=>?_,fun hm y=>?_⟩
 ·split at hm
  ·cases hm
  ·next h0 =>
   cases hm
   refine ⟨ok_2 hn (memB_sub h1 (fun x hx=>(List.mem_filter.1 hx).1) (List.length_filter_le _ _) (fun e=>h0 (by rw [e];rfl))),rfl,fun y=>?_⟩
   rw [← key y]
   rfl
 ·split at hm
  ·next h0 =>
   rw [← key y,List.length_eq_zero_iff.1 h0]
   simp [hasS]
  ·cases hm
theorem numOk_iff {x:Int}:numOk x=true ↔ -2147483648≤x∧x≤2147483647:=by simp [numOk]
theorem told_3 {p:Pd} (hk:p.kind=3) (y:Pr):told p y=((y.kind == 1) && (decide (p.lo≤y.int) && decide (y.int≤p.hi))):=by unfold told toldB;rw [if_neg (by omega),if_neg (by omega),if_pos hk]
theorem told_4 {p:Pd} (hk:p.kind=4) (y:Pr):told p y=((y.kind == 2) && prefB y.word (fstW p)):=by unfold told toldB fstW;rw [if_neg (by omega),if_neg (by omega),if_neg (by omega)]
theorem core_3 {a b:Pd} (ha:a.ok=true) (hb:b.ok=true) (hk:a.kind=3) (hkb:b.kind=3):And2 (coreD a b) a b:=by
 obtain ⟨hn,hc⟩:=ok_parts ha
 rcases hc with ⟨h,_⟩ | ⟨h,_⟩ | ⟨_,h1,h2,h3,h4⟩ | ⟨h,_⟩
 case inl=>omega
 case inr.inl=>omega
 case inr.inr.inr=>omega
 obtain ⟨_,hc2⟩:=ok_parts hb
 rcases hc2 with ⟨h,_⟩ | ⟨h,_⟩ | ⟨_,g1,g2,g3,g4⟩ | ⟨h,_⟩
 case inl=>omega
 case inr.inl=>omega
 case inr.inr.inr=>omega
 rw [numOk_iff] at h1 h2 g1 g2
 have hco:coreD a b=betwD a.attr (max a.lo b.lo) (min a.hi b.hi):=by unfold coreD;rw [if_neg (by omega),if_neg (by omega),if_neg (by omega),if_pos hk]
 rw [hco]
 have key:∀ y,(told a y && told b y)=((y.kind == 1) && (decide (max a.lo b.lo≤y.int) && decide (y.int≤min a.hi b.hi))):=fun y=>by
  rw [told_3 hk,told_3 hkb]
  cases (y.kind == 1)
  ·rfl
  ·rw [Bool.eq_iff_iff]
   simp only [Bool.true_and,Bool.and_eq_true,decide_eq_true_eq]
   omega
 unfold betwD
 refine ⟨fun m hm=>?_,fun hm y=>?_⟩
 ·split at hm
  ·cases hm
  ·split at hm
   ·next h5 h6 =>
    cases hm
    refine ⟨ok_1 hn (memB_one (numOk_iff.2 (by omega)) (by decide)),rfl,fun y=>?_⟩
    rw [key y]
    simp only [told,toldB,if_true]
    congr 1
    rw [Bool.eq_iff_iff,hasI_iff]
    simp
    omega
   ·cases hm
    refine ⟨ok_3 hn (numOk_iff.2 (by omega)) (numOk_iff.2 (by omega)),rfl,fun y=>?_⟩
    rw [key y,told_3 rfl]
 ·split at hm
  ·next h5 =>
   rw [key y]
   by_cases h7:max a.lo b.lo≤y.int
   ·have:¬ y.int≤min a.hi b.hi:=by omega
    rw [decide_eq_false this];simp
   ·rw [decide_eq_false h7];simp
  ·split at hm <;> cases hm
theorem core_4 {a b:Pd} (ha:a.ok=true) (hb:b.ok=true) (hk:a.kind=4) (hkb:b.kind=4):And2 (coreD a b) a b:=by
 obtain ⟨hn,hc⟩:=ok_parts ha
 rcases hc with ⟨h,_⟩ | ⟨h,_⟩ | ⟨h,_⟩ | ⟨_,h1,h2,h3,h4⟩
 case inl=>omega
 case inr.inl=>omega
 case inr.inr.inl=>omega
 obtain ⟨_,hc2⟩:=ok_parts hb
 rcases hc2 with ⟨h,_⟩ | ⟨h,_⟩ | ⟨h,_⟩ | ⟨_,g1,g2,g3,g4⟩
 case inl=>omega
 case inr.inl=>omega
 case inr.inr.inl=>omega
 have one:∀ {l:List ByteArray},memB wordOk l 1=true→∃ s,l=[s]∧wordOk s=true:=fun {l} h=>by
  have hl:=memB_ne h
  unfold memB at h
  simp only [Bool.and_eq_true,decide_eq_true_eq] at h
  match l,hl,h with
  | [s],_,h=>exact ⟨s,rfl,by simpa using h.1⟩
  | _ :: _ :: _,_,h=>simp at h;omega
 obtain ⟨s,hs,ws⟩:=one h1
 obtain ⟨t,ht,wt⟩:=one g1
 have fa:fstW a=s:=by unfold fstW;rw [hs];rfl
 have fb:fstW b=t:=by unfold fstW;rw [ht];rfl
 have hco:coreD a b=longD a.attr s t:=by unfold coreD;rw [if_neg (by omega),if_neg (by omega),if_neg (by omega),if_neg (by omega),fa,fb]
 rw [hco]
 have key:∀ y,(told a y && told b y)=((y.kind == 2) && (prefB y.word s && prefB y.word t)):=fun y=>by
  rw [told_4 hk,told_4 hkb,fa,fb]
  cases (y.kind == 2) <;> simp
 have szs:∀ x:ByteArray,x.toList.length=x.size:=fun x=>size_toList x
 unfold longD
 split
 ·next hlt =>
  have main:∀ y:Pr,(prefB y.word s && prefB y.word t)=(prefB t s && prefB y.word t):=fun y=>by
   rw [Bool.eq_iff_iff,Bool.and_eq_true,Bool.and_eq_true,prefB_list,prefB_list,prefB_list]
   constructor
   ·rintro ⟨u1,u2⟩
    exact ⟨List.prefix_of_prefix_length_le u1 u2 (by rw [szs,szs];omega),u2⟩
   ·rintro ⟨u1,u2⟩
    exact ⟨u1.trans u2,u2⟩
  cases hp:prefB t s with
  | true =>
   rw [if_pos rfl]
   refine ⟨fun m hm=>?_,fun hm=>by cases hm⟩
   cases hm
   refine ⟨ok_4 hn (memB_one wt (by decide)),rfl,fun y=>?_⟩
   rw [key y,main y,hp,told_4 rfl]
   rfl
  | false =>
   rw [if_neg (by simp)]
   refine ⟨(fun m hm=>by cases hm),fun _ y=>?_⟩
   rw [key y,main y,hp]
   simp
 ·next hlt =>
  have main:∀ y:Pr,(prefB y.word s && prefB y.word t)=(prefB s t && prefB y.word s):=fun y=>by
   rw [Bool.eq_iff_iff,Bool.and_eq_true,Bool.and_eq_true,prefB_list,prefB_list,prefB_list]
   constructor
   ·rintro ⟨u1,u2⟩
    exact ⟨List.prefix_of_prefix_length_le u2 u1 (by rw [szs,szs];omega),u1⟩
   ·rintro ⟨u1,u2⟩
    exact ⟨u2,u1.trans u2⟩
  cases hp:prefB s t with
  | true =>
   rw [if_pos rfl]
   refine ⟨fun m hm=>?_,fun hm=>by cases hm⟩
   cases hm
   refine ⟨ok_4 hn (memB_one ws (by decide)),rfl,fun y=>?_⟩
   rw [key y,main y,hp,told_4 rfl]
   rfl
  | false =>
   rw [if_neg (by simp)]
   refine ⟨(fun m hm=>by cases hm),fun _ y=>?_⟩
   rw [key y,main y,hp]
   simp
theorem core_34 {a b:Pd} (hab:(a.kind=3∧b.kind=4) ∨ (a.kind=4∧b.kind=3)):And2 (coreD a b) a b:=by
 have hco:coreD a b=none:=by unfold coreD;rcases hab with ⟨h1,h2⟩ | ⟨h1,h2⟩ <;> rw [if_neg (by omega),if_neg (by omega),if_pos (by omega)]
 rw [hco]
 refine ⟨(fun m hm=>by cases hm),fun _ y=>?_⟩
 rcases hab with ⟨h1,h2⟩ | ⟨h1,h2⟩
 ·rw [told_3 h1,told_4 h2]
  by_cases hy:y.kind=1
  ·have:(y.kind == 2)=false:=by simp;omega
   simp [this]
  ·have:(y.kind == 1)=false:=by simp [hy]
   simp [this]
 ·rw [told_4 h1,told_3 h2]
  by_cases hy:y.kind=1
  ·have:(y.kind == 2)=false:=by simp;omega
   simp [this]
  ·have:(y.kind == 1)=false:=by simp [hy]
   simp [this]
theorem And2.swap {o:Option Pd} {a b:Pd} (h:And2 o b a) (hab:b.attr=a.attr):And2 o a b:=⟨fun m hm=>by obtain ⟨h1,h2,h3⟩:=h.1 m hm;exact ⟨h1,h2.trans hab,fun y=>by rw [h3 y,Bool.and_comm]⟩,fun hm y=>by rw [Bool.and_comm];exact h.2 hm y⟩
theorem ok_kinds {p:Pd} (h:p.ok=true):p.kind=1 ∨ p.kind=2 ∨ p.kind=3 ∨ p.kind=4:=by
 obtain ⟨_,hc⟩:=ok_parts h
 rcases hc with ⟨h,_⟩ | ⟨h,_⟩ | ⟨h,_⟩ | ⟨h,_⟩ <;> omega
theorem both_sem {a b:Pd} (ha:a.ok=true) (hb:b.ok=true) (hab:b.attr=a.attr):And2 (bothD a b) a b:=by
 have ka:=ok_kinds ha
 have kb:=ok_kinds hb
 unfold bothD
 cases hs:setK b with
 | true =>
  rw [if_pos rfl]
  refine And2.swap ?_ hab
  unfold setK at hs
  simp only [Bool.or_eq_true,decide_eq_true_eq] at hs
  rcases hs with h | h
  ·exact core_1 hb ha h
  ·exact core_2 hb ha h
 | false =>
  rw [if_neg (by simp)]
  unfold setK at hs
  simp only [Bool.or_eq_false_iff,decide_eq_false_iff_not] at hs
  rcases ka with h | h | h | h
  ·exact core_1 ha hb h
  ·exact core_2 ha hb h
  ·rcases kb with g | g | g | g
   ·exact absurd g hs.1
   ·exact absurd g hs.2
   ·exact core_3 ha hb h g
   ·exact core_34 (Or.inl ⟨h,g⟩)
  ·rcases kb with g | g | g | g
   ·exact absurd g hs.1
   ·exact absurd g hs.2
   ·exact core_34 (Or.inr ⟨h,g⟩)
   ·exact core_4 ha hb h g
end Go.Proofs.YtimklglliffpcaaGreat
namespace Go.Proofs.YtimklglliffpcaaGreat

/-- What a row of predicates of one attribute holds together. -/
def AndL (o:Option Pd) (f:Pr→Bool) (a:ByteArray):Prop:=(∀ m,o=some m→m.ok=true∧m.attr=a∧∀ y,told m y=f y)∧(o=none→∀ y,f y=false)
theorem meetGo_sem {a:ByteArray}:∀ (qs:List Pd) (o:Option Pd) (f:Pr→Bool),AndL o f a→(∀ q ∈ qs,q.ok=true∧q.attr=a)→AndL (meetGo o qs) (fun y=>f y && qs.all (told · y)) a
 | [],o,f,h,_=>by
  have e:meetGo o []=o:=by cases o <;> rfl
  rw [e]
  refine ⟨fun m hm=>?_,fun hm y=>?_⟩
  ·obtain ⟨h1,h2,h3⟩:=h.1 m hm
   exact ⟨h1,h2,fun y=>by rw [h3 y];simp⟩
  ·simp only [h.2 hm y,Bool.false_and]
 | q :: qs,o,f,h,hq=>by
  obtain ⟨q1,q2⟩:=hq q (by simp)
  have ns:=norm_sem q1
  cases o with
  | none =>
   rw [meetGo_none]
   exact ⟨(fun m hm=>by cases hm),fun _ y=>by simp only [h.2 rfl y,Bool.false_and]⟩
  | some m =>
   obtain ⟨m1,m2,m3⟩:=h.1 m rfl
   cases hn:normD q with
   | none =>
    have e:meetGo (some m) (q :: qs)=none:=by simp only [meetGo,hn]
    rw [e]
    refine ⟨(fun m hm=>by cases hm),fun _ y=>?_⟩
    have:=ns.2 hn y
    simp [this]
   | some n =>
    obtain ⟨n1,n2,n3⟩:=ns.1 n hn
    have e:meetGo (some m) (q :: qs)=meetGo (bothD m n) qs:=by simp only [meetGo,hn];rw [if_pos (by rw [n2,q2,m2])]
    rw [e]
    have hb:=both_sem m1 n1 (by rw [n2,q2,m2])
    have ih:=meetGo_sem qs (bothD m n) (fun y=>f y && told q y) ⟨fun k hk=>by
     obtain ⟨b1,b2,b3⟩:=hb.1 k hk
     exact ⟨b1,b2.trans m2,fun y=>by rw [b3 y,m3 y,n3 y]⟩,fun hk y=>by simp only [← m3 y,← n3 y];exact hb.2 hk y⟩ (fun r hr=>hq r (by simp [hr]))
    refine ⟨fun k hk=>?_,fun hk y=>?_⟩
    ·obtain ⟨i1,i2,i3⟩:=ih.1 k hk
     exact ⟨i1,i2,fun y=>by rw [i3 y];simp [Bool.and_assoc]⟩
    ·have:=ih.2 hk y
     simp only [List.all_cons,← Bool.and_assoc]
     exact this
theorem meetD_sem {a:ByteArray} {l:List Pd} (hl:l ≠ []) (h:∀ q ∈ l,q.ok=true∧q.attr=a):AndL (meetD l) (fun y=>l.all (told · y)) a:=by
 cases l with
 | nil=>exact absurd rfl hl
 | cons p ps =>
  obtain ⟨p1,p2⟩:=h p (by simp)
  have ns:=norm_sem p1
  have:=meetGo_sem (a:=a) ps (normD p) (fun y=>told p y) ⟨fun m hm=>by
   obtain ⟨n1,n2,n3⟩:=ns.1 m hm
   exact ⟨n1,n2.trans p2,n3⟩,fun hm y=>ns.2 hm y⟩ (fun q hq=>h q (by simp [hq]))
  simpa [meetD] using this
theorem all_holds (ev:List Pr) {a:ByteArray}:∀ {l:List Pd},l ≠ []→(∀ q ∈ l,q.ok=true∧q.attr=a)→l.all (holdsD ev)=match getP a ev with | none=>false | some y=>decide (chkV y.kind y.int y.word=0) && l.all (told · y):=by
 intro l hl h
 cases hg:getP a ev with
 | none =>
  cases l with
  | nil=>exact absurd rfl hl
  | cons p ps =>
   obtain ⟨p1,p2⟩:=h p (by simp)
   have:holdsD ev p=false:=by rw [holdsD_eq ev p1,p2,hg]
   simp [this]
 | some y =>
  have he:∀ q ∈ l,holdsD ev q=(decide (chkV y.kind y.int y.word=0) && told q y):=fun q hq=>by
   obtain ⟨q1,q2⟩:=h q hq
   rw [holdsD_eq ev q1,q2,hg]
  simp only
  cases hc:decide (chkV y.kind y.int y.word=0) with
  | true =>
   rw [Bool.true_and,Bool.eq_iff_iff,List.all_eq_true,List.all_eq_true]
   constructor
   ·intro hx q hq
    have:=hx q hq
    rw [he q hq,hc,Bool.true_and] at this
    exact this
   ·intro hx q hq
    rw [he q hq,hc,Bool.true_and]
    exact hx q hq
  | false =>
   rw [Bool.false_and,List.all_eq_false]
   obtain ⟨p,hp⟩:=List.exists_mem_of_ne_nil l hl
   exact ⟨p,hp,by rw [he p hp,hc];simp⟩
/-- A meet holds just where all do. -/
theorem meet_holds (ev:List Pr) {a:ByteArray} {l:List Pd} (hl:l ≠ []) (h:∀ q ∈ l,q.ok=true∧q.attr=a):(∀ m,meetD l=some m→m.ok=true∧m.attr=a∧holdsD ev m=l.all (holdsD ev))∧(meetD l=none→l.all (holdsD ev)=false):=by
 have hs:=meetD_sem hl h
 rw [all_holds ev hl h]
 refine ⟨fun m hm=>?_,fun hm=>?_⟩
 ·obtain ⟨m1,m2,m3⟩:=hs.1 m hm
  refine ⟨m1,m2, ?_⟩
  rw [holdsD_eq ev m1,m2]
  cases getP a ev with
  | none=>rfl
  | some y=>simp only [m3 y]
 ·have:=hs.2 hm
  cases getP a ev with
  | none=>rfl
  | some y=>simp only [this y,Bool.and_false]
theorem okL_pos {ls:List Lt} (h:okL ls=true):∀ p ∈ posL ls,p.ok=true:=fun p hp=>by
 obtain ⟨l,hl,hn⟩:=List.mem_filterMap.1 hp
 split at hn
 ·cases hn
 ·cases hn
  unfold okL at h
  exact List.all_eq_true.1 h l hl
theorem grp_mem {ls:List Lt} {a:ByteArray} {p:Pd}:p ∈ grpD ls a ↔ p ∈ posL ls∧p.attr=a:=by
 unfold grpD
 rw [List.mem_filter]
 simp
theorem posGo_sem {ls:List Lt} (h:okL ls=true) (ev:List Pr):∀ (ns:List ByteArray),(∀ a ∈ ns,grpD ls a ≠ [])→(∀ d,posGo ls ns=some d→(d.all (holdsD ev)=ns.all fun a=>(grpD ls a).all (holdsD ev))∧d.length=ns.length)∧(posGo ls ns=none→(ns.all fun a=>(grpD ls a).all (holdsD ev))=false)
 | [],_=>⟨fun d hd=>by cases hd;exact ⟨rfl,rfl⟩,(fun hd=>by cases hd)⟩
 | a :: ns,hne=>by
  have ih:=posGo_sem h ev ns (fun b hb=>hne b (by simp [hb]))
  have hm:=meet_holds ev (a:=a) (hne a (by simp)) (fun q hq=>⟨okL_pos h q (grp_mem.1 hq).1,(grp_mem.1 hq).2⟩)
  simp only [posGo]
  cases hmd:meetD (grpD ls a) with
  | none =>
   refine ⟨(fun d hd=>by cases hd),fun _=>?_⟩
   simp [hm.2 hmd]
  | some m =>
   obtain ⟨_,_,m3⟩:=hm.1 m hmd
   cases hg:posGo ls ns with
   | none =>
    refine ⟨(fun d hd=>by cases hd),fun _=>?_⟩
    simp [ih.2 hg]
   | some d =>
    refine ⟨fun e he=>?_,(fun hd=>by cases hd)⟩
    obtain ⟨i1,i2⟩:=ih.1 d hg
    cases he
    simp [m3,i1,i2]
theorem names_ne {ls:List Lt}:∀ a ∈ namesD ls,grpD ls a ≠ []:=fun a ha=>by
 have:=((onceS_spec ((posL ls).map Pd.attr)).1 a).1 ha
 obtain ⟨p,hp,he⟩:=List.mem_map.1 this
 exact List.ne_nil_of_mem (grp_mem.2 ⟨hp,he⟩)
theorem names_all (ls:List Lt) (f:Pd→Bool):((namesD ls).all fun a=>(grpD ls a).all f)=(posL ls).all f:=by
 rw [Bool.eq_iff_iff,List.all_eq_true,List.all_eq_true]
 constructor
 ·intro h p hp
  have ha:p.attr ∈ namesD ls:=((onceS_spec ((posL ls).map Pd.attr)).1 p.attr).2 (List.mem_map.2 ⟨p,hp,rfl⟩)
  exact List.all_eq_true.1 (h _ ha) p (grp_mem.2 ⟨hp,rfl⟩)
 ·intro h a _
  rw [List.all_eq_true]
  exact fun p hp=>h p (grp_mem.1 hp).1
theorem cptD_mem:∀ (l acc:List Pd) (x:Pd),x ∈ l.foldl stepD acc ↔ x ∈ acc ∨ x ∈ l
 | [],acc,x=>by simp
 | y :: l,acc,x=>by
  rw [List.foldl_cons,cptD_mem l]
  have:x ∈ stepD acc y ↔ x ∈ acc ∨ x=y:=by
   unfold stepD
   split
   ·next h =>
    have hy:y ∈ acc:=List.mem_of_getLast? h
    constructor
    ·exact Or.inl
    ·rintro (h | rfl)
     ·exact h
     ·exact hy
   ·simp
  rw [this,List.mem_cons,or_assoc]
theorem negD_mem {ls:List Lt} {x:Pd}:x ∈ negD ls ↔ x ∈ negL ls:=by
 unfold negD cptD
 rw [cptD_mem]
 simp [(srtD_perm (negL ls)).mem_iff]
theorem neg_any {ls:List Lt} (h:okL ls=true) (ev:List Pr):(negD ls).any (holdsD ev)=ls.any fun l=>l.neg && holdsD ev (ltPd l):=by
 rw [Bool.eq_iff_iff,List.any_eq_true,List.any_eq_true]
 constructor
 ·rintro ⟨m,hm,hh⟩
  obtain ⟨l,hl,hn⟩:=List.mem_filterMap.1 (negD_mem.1 hm)
  have hok:(ltPd l).ok=true:=by unfold okL at h;exact List.all_eq_true.1 h l hl
  split at hn
  ·next hneg =>
   obtain ⟨n1,n2,n3⟩:=(norm_sem hok).1 m hn
   refine ⟨l,hl, ?_⟩
   rw [hneg,Bool.true_and,← holds_of_told ev n1 hok n2 n3]
   exact hh
  ·cases hn
 ·rintro ⟨l,hl,hh⟩
  rw [Bool.and_eq_true] at hh
  have hok:(ltPd l).ok=true:=by unfold okL at h;exact List.all_eq_true.1 h l hl
  cases hn:normD (ltPd l) with
  | none =>
   exfalso
   have:=(norm_sem hok).2 hn
   have h2:=hh.2
   rw [holdsD_eq ev hok] at h2
   cases hg:getP (ltPd l).attr ev with
   | none=>rw [hg] at h2;cases h2
   | some y=>rw [hg] at h2;simp [this y] at h2
  | some m =>
   obtain ⟨n1,n2,n3⟩:=(norm_sem hok).1 m hn
   exact ⟨m,negD_mem.2 (List.mem_filterMap.2 ⟨l,hl,by rw [if_pos hh.1];exact hn⟩),by rw [holds_of_told ev n1 hok n2 n3];exact hh.2⟩
theorem ltH_pd (ev:List Pr) (l:Lt):ltH ev l=(holdsD ev (ltPd l) != l.neg):=rfl
theorem all_lt (ls:List Lt) (ev:List Pr):ls.all (ltH ev)=((posL ls).all (holdsD ev) && !(ls.any fun l=>l.neg && holdsD ev (ltPd l))):=by
 induction ls with
 | nil=>rfl
 | cons l ls ih =>
  rw [List.all_cons,ih,ltH_pd,List.any_cons]
  cases hn:l.neg with
  | true =>
   have:posL (l :: ls)=posL ls:=by unfold posL;rw [List.filterMap_cons];simp [hn]
   rw [this]
   cases holdsD ev (ltPd l) <;> simp
  | false =>
   have:posL (l :: ls)=ltPd l :: posL ls:=by unfold posL;rw [List.filterMap_cons];simp [hn]
   rw [this,List.all_cons]
   cases holdsD ev (ltPd l) <;> simp
/-- A conjunction holds just where its literals do. -/
theorem make_sem {ls:List Lt} (h:okL ls=true) (ev:List Pr):holdsC (makeD ls).never (makeD ls).pos (makeD ls).neg ev=ls.all (ltH ev):=by
 have hp:=posGo_sem h ev (namesD ls) names_ne
 rw [all_lt,← neg_any h ev,← names_all ls (holdsD ev)]
 unfold makeD makeC posD
 rw [h,if_pos rfl]
 cases hd:posGo ls (namesD ls) with
 | none=>simp [holdsC,hp.2 hd]
 | some d =>
  rw [← (hp.1 d hd).1]
  simp only [holdsC,Bool.not_false,Bool.true_and]
  congr 1
  rw [Bool.eq_iff_iff]
  simp
end Go.Proofs.YtimklglliffpcaaGreat
namespace Go.Proofs.YtimklglliffpcaaGreat

/-- A normal predicate. -/
def Nf (m:Pd):Prop:=m.ok=true∧((m.kind=1∧m.ints.Pairwise (· < ·)) ∨ (m.kind=2∧m.words.Pairwise ltS) ∨ (m.kind=3∧m.lo < m.hi) ∨ m.kind=4)
/-- A set of one number. -/
def OneI (m:Pd):Prop:=m.kind=1∧∃ x,m.ints=[x]
theorem setK_iff {p:Pd}:setK p=true ↔ p.kind=1 ∨ p.kind=2:=by unfold setK;simp
theorem setK_no {p:Pd}:setK p=false ↔ ¬ p.kind=1∧¬ p.kind=2:=by unfold setK;simp
theorem norm_nf {p m:Pd} (hp:p.ok=true) (h:normD p=some m):Nf m∧(setK p=true→setK m=true)∧(setK p=false→setK m=true→OneI m):=by
 have hok:=((norm_sem hp).1 m h).1
 rcases ok_kinds hp with hk | hk | hk | hk
 ·rw [normD_1 hp hk] at h
  cases h
  exact ⟨⟨hok,Or.inl ⟨rfl,(onceI_spec p.ints).2.1⟩⟩,(fun _=>rfl),fun e=>by rw [setK_no] at e;exact absurd hk e.1⟩
 ·rw [normD_2 hp hk] at h
  cases h
  exact ⟨⟨hok,Or.inr (Or.inl ⟨rfl,(onceS_spec p.words).2.1⟩)⟩,(fun _=>rfl),fun e=>by rw [setK_no] at e;exact absurd hk e.2⟩
 ·rw [normD_3 hp hk] at h
  split at h
  ·cases h
  ·split at h
   ·cases h
    exact ⟨⟨hok,Or.inl ⟨rfl,List.pairwise_singleton _ _⟩⟩,(fun _=>rfl),fun _ _=>⟨rfl,_,rfl⟩⟩
   ·next h1 h2 =>
    cases h
    refine ⟨⟨hok,Or.inr (Or.inr (Or.inl ⟨rfl, ?_⟩))⟩,fun e=>?_,fun _ e=>?_⟩
    ·show p.lo < p.hi
     omega
    ·rw [setK_iff] at e;omega
    ·rw [setK_iff] at e;simp at e
 ·rw [normD_4 hp hk] at h
  cases h
  refine ⟨⟨hok,Or.inr (Or.inr (Or.inr rfl))⟩,fun e=>?_,fun _ e=>?_⟩
  ·rw [setK_iff] at e;omega
  ·rw [setK_iff] at e;simp at e
theorem core_nf {a b m:Pd} (ha:Nf a) (hmo:m.ok=true) (h:coreD a b=some m):Nf m∧(setK a=true→setK m=true)∧(setK m=true→OneI a→OneI m)∧(setK a=false→setK m=true→OneI m):=by
 unfold coreD at h
 split at h
 ·next hk =>
  unfold mkI at h
  split at h
  ·cases h
  ·next h0 =>
   cases h
   have hs:a.ints.Pairwise (· < ·):=by
    rcases ha.2 with ⟨_,h⟩ | ⟨h,_⟩ | ⟨h,_⟩ | h
    ·exact h
    ·omega
    ·omega
    ·omega
   refine ⟨⟨hmo,Or.inl ⟨rfl,hs.sublist List.filter_sublist⟩⟩,(fun _=>rfl),fun _ ho=>⟨rfl, ?_⟩,fun e=>?_⟩
   ·obtain ⟨_,x,hx⟩:=ho
    rw [hx] at h0 ⊢
    refine ⟨x, ?_⟩
    by_cases hf:hasID b x=true
    ·simp [hf]
    ·simp [hf] at h0
   ·rw [setK_no] at e;exact absurd hk e.1
 ·next hk1 =>
  split at h
  ·next hk =>
   unfold mkS at h
   split at h
   ·cases h
   ·cases h
    have hs:a.words.Pairwise ltS:=by
     rcases ha.2 with ⟨h,_⟩ | ⟨_,h⟩ | ⟨h,_⟩ | h
     ·omega
     ·exact h
     ·omega
     ·omega
    exact ⟨⟨hmo,Or.inr (Or.inl ⟨rfl,hs.sublist List.filter_sublist⟩)⟩,(fun _=>rfl),(fun _ ho=>absurd ho.1 hk1),fun e=>by rw [setK_no] at e;exact absurd hk e.2⟩
  ·next hk2 =>
   split at h
   ·cases h
   ·split at h
    ·unfold betwD at h
     split at h
     ·cases h
     ·split at h
      ·cases h
       exact ⟨⟨hmo,Or.inl ⟨rfl,List.pairwise_singleton _ _⟩⟩,(fun _=>rfl),fun _ _=>⟨rfl,_,rfl⟩,fun _ _=>⟨rfl,_,rfl⟩⟩
      ·next h5 h6 =>
       cases h
       refine ⟨⟨hmo,Or.inr (Or.inr (Or.inl ⟨rfl, ?_⟩))⟩,fun e=>?_,fun e=>?_,fun _ e=>?_⟩
       ·show max a.lo b.lo < min a.hi b.hi
        omega
       ·rw [setK_iff] at e;omega
       ·rw [setK_iff] at e;simp at e
       ·rw [setK_iff] at e;simp at e
    ·unfold longD at h
     have done4:∀ w,m=⟨4,a.attr,[],[w],0,0⟩→Nf m∧(setK a=true→setK m=true)∧(setK m=true→OneI a→OneI m)∧(setK a=false→setK m=true→OneI m):=fun w e=>by
      subst e
      refine ⟨⟨hmo,Or.inr (Or.inr (Or.inr rfl))⟩,fun e=>?_,fun e=>?_,fun _ e=>?_⟩
      ·rw [setK_iff] at e;omega
      ·rw [setK_iff] at e;simp at e
      ·rw [setK_iff] at e;simp at e
     split at h <;> split at h <;> first | (cases h;exact done4 _ rfl) | cases h
theorem both_nf {a b m:Pd} (ha:Nf a) (hb:Nf b) (hab:b.attr=a.attr) (h:bothD a b=some m):Nf m∧(setK a=true ∨ setK b=true→setK m=true)∧((setK a=true→OneI a)→(setK b=true→OneI b)→setK m=true→OneI m):=by
 have hmo:=((both_sem ha.1 hb.1 hab).1 m h).1
 unfold bothD at h
 cases hs:setK b with
 | true =>
  rw [hs,if_pos rfl] at h
  obtain ⟨c1,c2,c3,c4⟩:=core_nf hb hmo h
  exact ⟨c1,fun _=>c2 hs,fun _ h2 hm=>c3 hm (h2 rfl)⟩
 | false =>
  rw [hs,if_neg (by simp)] at h
  obtain ⟨c1,c2,c3,c4⟩:=core_nf ha hmo h
  refine ⟨c1,fun e=>?_,fun h1 _ hm=>?_⟩
  ·rcases e with e | e
   ·exact c2 e
   ·cases e
  ·cases hsa:setK a with
   | true=>exact c3 hm (h1 hsa)
   | false=>exact c4 hsa hm
/-- What a normal predicate of a row is. -/
def RowM (s:Bool) (m:Pd):Prop:=Nf m∧(s=true→setK m=true)∧(s=false→setK m=true→OneI m)
theorem meetGo_row {a:ByteArray}:∀ (qs:List Pd) (m0:Pd) (s:Bool),RowM s m0→m0.attr=a→(∀ q ∈ qs,q.ok=true∧q.attr=a)→∀ m,meetGo (some m0) qs=some m→RowM (s || qs.any setK) m
 | [],m0,s,h,_,_,m,hm=>by
  cases hm
  simpa using h
 | q :: qs,m0,s,h,ha,hq,m,hm=>by
  obtain ⟨q1,q2⟩:=hq q (by simp)
  cases hn:normD q with
  | none=>simp only [meetGo,hn] at hm;cases hm
  | some n =>
   obtain ⟨n1,n2,n3⟩:=norm_nf q1 hn
   have hna:n.attr=a:=(((norm_sem q1).1 n hn).2.1).trans q2
   have e:meetGo (some m0) (q :: qs)=meetGo (bothD m0 n) qs:=by simp only [meetGo,hn];rw [if_pos (by rw [hna,ha])]
   rw [e] at hm
   cases hb:bothD m0 n with
   | none=>rw [hb,meetGo_none] at hm;cases hm
   | some k =>
    rw [hb] at hm
    obtain ⟨b1,b2,b3⟩:=both_nf h.1 n1 (by rw [hna,ha]) hb
    have hka:k.attr=a:=(((both_sem h.1.1 n1.1 (by rw [hna,ha])).1 k hb).2.1).trans ha
    have:=meetGo_row qs k (s || setK q) ⟨b1,fun e=>by
     rw [Bool.or_eq_true] at e
     rcases e with e | e
     ·exact b2 (Or.inl (h.2.1 e))
     ·exact b2 (Or.inr (n2 e)),fun e he=>by
     rw [Bool.or_eq_false_iff] at e
     exact b3 (h.2.2 e.1) (n3 e.2) he⟩ hka (fun r hr=>hq r (by simp [hr])) m hm
    simpa [Bool.or_assoc] using this
theorem meetD_row {a:ByteArray} {l:List Pd} (h:∀ q ∈ l,q.ok=true∧q.attr=a) {m:Pd} (hm:meetD l=some m):RowM (l.any setK) m:=by
 cases l with
 | nil=>cases hm
 | cons p ps =>
  obtain ⟨p1,p2⟩:=h p (by simp)
  change meetGo (normD p) ps=some m at hm
  cases hn:normD p with
  | none=>rw [hn,meetGo_none] at hm;cases hm
  | some n =>
   rw [hn] at hm
   obtain ⟨n1,n2,n3⟩:=norm_nf p1 hn
   have:=meetGo_row ps n (setK p) ⟨n1,n2,n3⟩ ((((norm_sem p1).1 n hn).2.1).trans p2) (fun q hq=>h q (by simp [hq])) m hm
   simpa using this
/-- A normal predicate holds of some value. -/
theorem nf_some {m:Pd} (h:Nf m):∃ y,told m y=true:=by
 obtain ⟨_,hc⟩:=ok_parts h.1
 rcases hc with ⟨hk,h1,_⟩ | ⟨hk,h1,_⟩ | ⟨hk,_⟩ | ⟨hk,h1,_⟩
 ·obtain ⟨x,hx⟩:=List.exists_mem_of_ne_nil _ (memB_ne h1)
  refine ⟨⟨⟨#[]⟩,1,x,⟨#[]⟩⟩, ?_⟩
  unfold told toldB
  rw [if_pos hk]
  simp [hasI_iff.2 hx]
 ·obtain ⟨x,hx⟩:=List.exists_mem_of_ne_nil _ (memB_ne h1)
  refine ⟨⟨⟨#[]⟩,2,0,x⟩, ?_⟩
  unfold told toldB
  rw [if_neg (by omega),if_pos hk]
  simp [hasS_iff.2 hx]
 ·have hlt:m.lo < m.hi:=by
   rcases h.2 with ⟨h,_⟩ | ⟨h,_⟩ | ⟨_,h⟩ | h
   ·omega
   ·omega
   ·exact h
   ·omega
  refine ⟨⟨⟨#[]⟩,1,m.lo,⟨#[]⟩⟩, ?_⟩
  rw [told_3 hk]
  simp
  omega
 ·refine ⟨⟨⟨#[]⟩,2,0,fstW m⟩, ?_⟩
  rw [told_4 hk]
  have:prefB (fstW m) (fstW m)=true:=prefB_list.2 (List.prefix_refl _)
  simp [this]
theorem told_1 {p:Pd} (hk:p.kind=1) (y:Pr):told p y=((y.kind == 1) && hasI y.int p.ints):=by unfold told toldB;rw [if_pos hk]
theorem told_2 {p:Pd} (hk:p.kind=2) (y:Pr):told p y=((y.kind == 2) && hasS y.word p.words):=by unfold told toldB;rw [if_neg (by omega),if_pos hk]
theorem numb_kind {m:Pd} (hk:m.kind=1 ∨ m.kind=3) {y:Pr} (hy:told m y=true):y.kind=1:=by
 rcases hk with hk | hk
 ·rw [told_1 hk,Bool.and_eq_true] at hy;simpa using hy.1
 ·rw [told_3 hk,Bool.and_eq_true] at hy;simpa using hy.1
theorem word_kind {m:Pd} (hk:m.kind=2 ∨ m.kind=4) {y:Pr} (hy:told m y=true):y.kind=2:=by
 rcases hk with hk | hk
 ·rw [told_2 hk,Bool.and_eq_true] at hy;simpa using hy.1
 ·rw [told_4 hk,Bool.and_eq_true] at hy;simpa using hy.1
theorem clash {m m':Pd} (h:Nf m) (ht:∀ y,told m y=told m' y) (k1:m.kind=1 ∨ m.kind=3) (k2:m'.kind=2 ∨ m'.kind=4):False:=by
 obtain ⟨y,hy⟩:=nf_some h
 have a:=numb_kind k1 hy
 rw [ht y] at hy
 have b:=word_kind k2 hy
 omega
theorem one_not_range {m m':Pd} (hm:OneI m) (h':Nf m') (hk:m'.kind=3) (ht:∀ y,told m y=told m' y):False:=by
 obtain ⟨k1,x,hx⟩:=hm
 have hlt:m'.lo < m'.hi:=by
  rcases h'.2 with ⟨h,_⟩ | ⟨h,_⟩ | ⟨_,h⟩ | h
  ·omega
  ·omega
  ·exact h
  ·omega
 have a:=ht ⟨⟨#[]⟩,1,m'.lo,⟨#[]⟩⟩
 have b:=ht ⟨⟨#[]⟩,1,m'.hi,⟨#[]⟩⟩
 rw [told_1 k1,told_3 hk,hx] at a b
 have l1:m'.lo≤m'.hi:=by omega
 simp [hasI,l1] at a b
 omega
/-- Two normal predicates of one row's kind that hold of the same values are the same. -/
theorem canon {s:Bool} {m m':Pd} (h:RowM s m) (h':RowM s m') (ha:m.attr=m'.attr) (ht:∀ y,told m y=told m' y):m=m':=by
 obtain ⟨_,hc⟩:=ok_parts h.1.1
 obtain ⟨_,hc'⟩:=ok_parts h'.1.1
 have hset:∀ {k:Pd},RowM s k→k.kind=3 ∨ k.kind=4→s=false:=fun {k} hr hk=>by
  cases s with
  | false=>rfl
  | true =>
   have:=hr.2.1 rfl
   rw [setK_iff] at this
   omega
 rcases hc with ⟨hk,h1,h2,h3,h4⟩ | ⟨hk,h1,h2,h3,h4⟩ | ⟨hk,h1,h2,h3,h4⟩ | ⟨hk,h1,h2,h3,h4⟩
 ·rcases hc' with ⟨gk,g1,g2,g3,g4⟩ | ⟨gk,_⟩ | ⟨gk,g1,g2,g3,g4⟩ | ⟨gk,_⟩
  ·have e:m.ints=m'.ints:=by
    have s1:m.ints.Pairwise (· < ·):=by
     rcases h.1.2 with ⟨_,h⟩ | ⟨h,_⟩ | ⟨h,_⟩ | h
     ·exact h
     ·omega
     ·omega
     ·omega
    have s2:m'.ints.Pairwise (· < ·):=by
     rcases h'.1.2 with ⟨_,h⟩ | ⟨h,_⟩ | ⟨h,_⟩ | h
     ·exact h
     ·omega
     ·omega
     ·omega
    rw [← onceI_of (l:=m.ints) (fun x=>Iff.rfl) s1]
    refine onceI_of (fun x=>?_) s2
    have:=ht ⟨⟨#[]⟩,1,x,⟨#[]⟩⟩
    rw [told_1 hk,told_1 gk] at this
    simp at this
    rw [← hasI_iff,← hasI_iff,this]
   obtain ⟨a1,a2,a3,a4,a5,a6⟩:=m
   obtain ⟨b1,b2,b3,b4,b5,b6⟩:=m'
   simp only at *
   subst hk gk ha e h2 h3 h4 g2 g3 g4
   rfl
  ·exact (clash h.1 ht (Or.inl hk) (Or.inl gk)).elim
  ·exact (one_not_range (h.2.2 (hset h' (Or.inl gk)) (setK_iff.2 (Or.inl hk))) h'.1 gk ht).elim
  ·exact (clash h.1 ht (Or.inl hk) (Or.inr gk)).elim
 ·rcases hc' with ⟨gk,_⟩ | ⟨gk,g1,g2,g3,g4⟩ | ⟨gk,_⟩ | ⟨gk,_⟩
  ·exact (clash h'.1 (fun y=>(ht y).symm) (Or.inl gk) (Or.inl hk)).elim
  ·have e:m.words=m'.words:=by
    have s1:m.words.Pairwise ltS:=by
     rcases h.1.2 with ⟨h,_⟩ | ⟨_,h⟩ | ⟨h,_⟩ | h
     ·omega
     ·exact h
     ·omega
     ·omega
    have s2:m'.words.Pairwise ltS:=by
     rcases h'.1.2 with ⟨h,_⟩ | ⟨_,h⟩ | ⟨h,_⟩ | h
     ·omega
     ·exact h
     ·omega
     ·omega
    rw [← onceS_of (l:=m.words) (fun x=>Iff.rfl) s1]
    refine onceS_of (fun x=>?_) s2
    have:=ht ⟨⟨#[]⟩,2,0,x⟩
    rw [told_2 hk,told_2 gk] at this
    simp at this
    rw [← hasS_iff,← hasS_iff,this]
   obtain ⟨a1,a2,a3,a4,a5,a6⟩:=m
   obtain ⟨b1,b2,b3,b4,b5,b6⟩:=m'
   simp only at *
   subst hk gk ha e h2 h3 h4 g2 g3 g4
   rfl
  ·exact (clash h'.1 (fun y=>(ht y).symm) (Or.inr gk) (Or.inl hk)).elim
  ·have:=(h.2.2 (hset h' (Or.inr gk)) (setK_iff.2 (Or.inr hk))).1
   omega
 ·rcases hc' with ⟨gk,_⟩ | ⟨gk,_⟩ | ⟨gk,g1,g2,g3,g4⟩ | ⟨gk,_⟩
  ·exact (one_not_range (h'.2.2 (hset h (Or.inl hk)) (setK_iff.2 (Or.inl gk))) h.1 hk (fun y=>(ht y).symm)).elim
  ·exact (clash h.1 ht (Or.inr hk) (Or.inl gk)).elim
  ·have l1:m.lo < m.hi:=by
    rcases h.1.2 with ⟨h,_⟩ | ⟨h,_⟩ | ⟨_,h⟩ | h
    ·omega
    ·omega
    ·exact h
    ·omega
   have l2:m'.lo < m'.hi:=by
    rcases h'.1.2 with ⟨h,_⟩ | ⟨h,_⟩ | ⟨_,h⟩ | h
    ·omega
    ·omega
    ·exact h
    ·omega
   have t1:=ht ⟨⟨#[]⟩,1,m.lo,⟨#[]⟩⟩
   have t2:=ht ⟨⟨#[]⟩,1,m.hi,⟨#[]⟩⟩
   have t3:=ht ⟨⟨#[]⟩,1,m'.lo,⟨#[]⟩⟩
   have t4:=ht ⟨⟨#[]⟩,1,m'.hi,⟨#[]⟩⟩
   rw [told_3 hk,told_3 gk] at t1 t2 t3 t4
   rw [Bool.eq_iff_iff] at t1 t2 t3 t4
   simp only [Bool.and_eq_true,decide_eq_true_eq,beq_self_eq_true,true_and] at t1 t2 t3 t4
   have e1:m.lo=m'.lo:=by omega
   have e2:m.hi=m'.hi:=by omega
   obtain ⟨a1,a2,a3,a4,a5,a6⟩:=m
   obtain ⟨b1,b2,b3,b4,b5,b6⟩:=m'
   simp only at *
   subst hk gk ha e1 e2 h3 h4 g3 g4
   rfl
  ·exact (clash h.1 ht (Or.inr hk) (Or.inr gk)).elim
 ·rcases hc' with ⟨gk,_⟩ | ⟨gk,_⟩ | ⟨gk,_⟩ | ⟨gk,g1,g2,g3,g4⟩
  ·exact (clash h'.1 (fun y=>(ht y).symm) (Or.inl gk) (Or.inr hk)).elim
  ·have:=(h'.2.2 (hset h (Or.inr hk)) (setK_iff.2 (Or.inr gk))).1
   omega
  ·exact (clash h'.1 (fun y=>(ht y).symm) (Or.inr gk) (Or.inr hk)).elim
  ·obtain ⟨_,x,hx⟩:True∧∃ x,m.words=[x]:=by
    rcases pd_kinds h.1.1 with e | e | e | ⟨_,e⟩
    ·omega
    ·omega
    ·omega
    ·exact ⟨trivial,e⟩
   obtain ⟨_,y,hy⟩:True∧∃ y,m'.words=[y]:=by
    rcases pd_kinds h'.1.1 with e | e | e | ⟨_,e⟩
    ·omega
    ·omega
    ·omega
    ·exact ⟨trivial,e⟩
   have f1:fstW m=x:=by unfold fstW;rw [hx];rfl
   have f2:fstW m'=y:=by unfold fstW;rw [hy];rfl
   have t1:=ht ⟨⟨#[]⟩,2,0,x⟩
   have t2:=ht ⟨⟨#[]⟩,2,0,y⟩
   rw [told_4 hk,told_4 gk,f1,f2] at t1 t2
   have r1:prefB x x=true:=prefB_list.2 (List.prefix_refl _)
   have r2:prefB y y=true:=prefB_list.2 (List.prefix_refl _)
   rw [r1] at t1
   rw [r2] at t2
   simp at t1 t2
   have p1:=prefB_list.1 t1
   have p2:=prefB_list.1 t2
   have e:x=y:=ba_list (p2.eq_of_length_le p1.length_le)
   obtain ⟨a1,a2,a3,a4,a5,a6⟩:=m
   obtain ⟨b1,b2,b3,b4,b5,b6⟩:=m'
   simp only at *
   subst hk gk ha e hx hy h2 h3 h4 g2 g3 g4
   rfl
/-- A meet hangs on what is met alone, not on its order, nor on how often it stands there. -/
theorem meetD_mem {a:ByteArray} {l l':List Pd} (hl:l ≠ []) (h:∀ q ∈ l,q.ok=true∧q.attr=a) (he:∀ p,p ∈ l' ↔ p ∈ l):meetD l'=meetD l:=by
 have hl':l' ≠ []:=by
  obtain ⟨p,hp⟩:=List.exists_mem_of_ne_nil _ hl
  exact List.ne_nil_of_mem ((he p).2 hp)
 have h':∀ q ∈ l',q.ok=true∧q.attr=a:=fun q hq=>h q ((he q).1 hq)
 have s:=meetD_sem hl h
 have s':=meetD_sem hl' h'
 have hall:∀ y,l'.all (told · y)=l.all (told · y):=fun y=>by
  rw [Bool.eq_iff_iff,List.all_eq_true,List.all_eq_true]
  exact ⟨fun hx p hp=>hx p ((he p).2 hp),fun hx p hp=>hx p ((he p).1 hp)⟩
 have hany:l'.any setK=l.any setK:=by
  rw [Bool.eq_iff_iff,List.any_eq_true,List.any_eq_true]
  exact ⟨fun ⟨p,hp,e⟩=>⟨p,(he p).1 hp,e⟩,fun ⟨p,hp,e⟩=>⟨p,(he p).2 hp,e⟩⟩
 cases hm:meetD l with
 | none =>
  cases hm':meetD l' with
  | none=>rfl
  | some m' =>
   exfalso
   obtain ⟨y,hy⟩:=nf_some (meetD_row h' hm').1
   rw [(s'.1 m' hm').2.2 y] at hy
   have:=s.2 hm y
   simp only at this hy
   rw [hall y,this] at hy
   cases hy
 | some m =>
  cases hm':meetD l' with
  | none =>
   exfalso
   obtain ⟨y,hy⟩:=nf_some (meetD_row h hm).1
   rw [(s.1 m hm).2.2 y] at hy
   have:=s'.2 hm' y
   simp only at this hy
   rw [hall y] at this
   rw [this] at hy
   cases hy
  | some m' =>
   have r:=meetD_row h hm
   have r':=meetD_row h' hm'
   rw [hany] at r'
   rw [canon r' r (((s'.1 m' hm').2.1).trans ((s.1 m hm).2.1).symm) (fun y=>by rw [(s'.1 m' hm').2.2 y,(s.1 m hm).2.2 y];exact hall y)]
end Go.Proofs.YtimklglliffpcaaGreat
namespace Go.Proofs.YtimklglliffpcaaGreat

theorem meetGo_some {a:ByteArray}:∀ (qs:List Pd) (m0:Pd),m0.ok=true→m0.attr=a→∀ m,meetGo (some m0) qs=some m→∀ q ∈ qs,q.ok=true∧q.attr=a
 | [],_,_,_,_,_,q,hq=>by simp at hq
 | q :: qs,m0,h0,ha,m,hm,r,hr=>by
  cases hn:normD q with
  | none=>simp only [meetGo,hn] at hm;cases hm
  | some n =>
   have hq:q.ok=true:=by
    cases hk:q.ok with
    | true=>rfl
    | false=>rw [normD_none hk] at hn;cases hn
   obtain ⟨n1,n2,_⟩:=(norm_sem hq).1 n hn
   simp only [meetGo,hn] at hm
   split at hm
   ·next he =>
    have hqa:q.attr=a:=by rw [← n2,he,ha]
    rcases List.mem_cons.1 hr with rfl | hr
    ·exact ⟨hq,hqa⟩
    ·cases hb:bothD m0 n with
     | none=>rw [hb,meetGo_none] at hm;cases hm
     | some k =>
      rw [hb] at hm
      obtain ⟨k1,k2,_⟩:=(both_sem h0 n1 he).1 k hb
      exact meetGo_some qs k k1 (k2.trans ha) m hm r hr
   ·cases hm
/-- What has a meet is in form, and of one attribute. -/
theorem meetD_some {l:List Pd} {m:Pd} (hm:meetD l=some m):l ≠ []∧∃ a,∀ q ∈ l,q.ok=true∧q.attr=a:=by
 cases l with
 | nil=>cases hm
 | cons p ps =>
  refine ⟨by simp,p.attr,fun q hq=>?_⟩
  change meetGo (normD p) ps=some m at hm
  cases hn:normD p with
  | none=>rw [hn,meetGo_none] at hm;cases hm
  | some n =>
   have hp:p.ok=true:=by
    cases hk:p.ok with
    | true=>rfl
    | false=>rw [normD_none hk] at hn;cases hn
   obtain ⟨n1,n2,_⟩:=(norm_sem hp).1 n hn
   rw [hn] at hm
   rcases List.mem_cons.1 hq with rfl | hq
   ·exact ⟨hp,rfl⟩
   ·exact meetGo_some ps n n1 n2 m hm q hq
/-- A meet of any predicates hangs on which they are alone. -/
theorem meetD_any {l l':List Pd} (he:∀ p,p ∈ l' ↔ p ∈ l):meetD l'=meetD l:=by
 cases hm:meetD l with
 | some m =>
  obtain ⟨h1,a,h2⟩:=meetD_some hm
  rw [meetD_mem h1 h2 he,hm]
 | none =>
  cases hm':meetD l' with
  | none=>rfl
  | some m' =>
   obtain ⟨h1,a,h2⟩:=meetD_some hm'
   have:=meetD_mem h1 h2 (l':=l) (fun p=>(he p).symm)
   rw [hm,hm'] at this
   cases this
theorem turn_mem {l:List Pd} (k:Nat) (p:Pd):p ∈ l.drop k ++ l.take k ↔ p ∈ l:=by
 rw [List.mem_append]
 conv=>rhs;rw [← List.take_append_drop k l]
 rw [List.mem_append,or_comm]
/-- Are all in form, and of the first one's attribute? -/
def alikeD (l:List Pd):Bool:=l.all fun p=>p.ok && decide (p.attr=(l.headD zeroD).attr)
theorem alike_iff {l:List Pd} (hl:l ≠ []):alikeD l=true ↔ ∃ a,∀ q ∈ l,q.ok=true∧q.attr=a:=by
 unfold alikeD
 rw [List.all_eq_true]
 constructor
 ·intro h
  exact ⟨_,fun q hq=>by have:=h q hq;rw [Bool.and_eq_true,decide_eq_true_eq] at this;exact this⟩
 ·rintro ⟨a,h⟩ q hq
  cases l with
  | nil=>exact absurd rfl hl
  | cons p ps =>
   rw [Bool.and_eq_true,decide_eq_true_eq]
   exact ⟨(h q hq).1,(h q hq).2.trans (h p (by simp)).2.symm⟩
/-- What the law asks of a meet. -/
theorem meets_none {l:List Pd} (ev:List Pr) (hm:meetD l=none):(!(decide (0 < l.length) && l.all (holdsD ev)) || !alikeD l)=true:=by
 by_cases hl:l=[]
 ·subst hl;rfl
 ·cases ha:alikeD l with
  | false=>simp
  | true =>
   obtain ⟨a,h⟩:=(alike_iff hl).1 ha
   rw [(meet_holds ev hl h).2 hm]
   simp
theorem meets_some {l:List Pd} (ev:List Pr) {m:Pd} (hm:meetD l=some m):holdsD ev m=(decide (0 < l.length) && l.all (holdsD ev))∧alikeD l=true:=by
 obtain ⟨h1,a,h2⟩:=meetD_some hm
 refine ⟨?_,(alike_iff h1).2 ⟨a,h2⟩⟩
 rw [((meet_holds ev h1 h2).1 m hm).2.2]
 have:0 < l.length:=List.length_pos_iff.2 h1
 simp [this]
/-- What the law asks of each predicate. -/
theorem meets_each (ev:List Pr) (p:Pd):(∀ n,normD p=some n→holdsD ev n=holdsD ev p)∧(normD p=none→holdsD ev p=false):=by
 cases hp:p.ok with
 | false=>exact ⟨(fun n hn=>by rw [normD_none hp] at hn;cases hn),fun _=>holdsD_no ev hp⟩
 | true =>
  refine ⟨fun n hn=>?_,fun hn=>?_⟩
  ·obtain ⟨n1,n2,n3⟩:=(norm_sem hp).1 n hn
   exact holds_of_told ev n1 hp n2 n3
  ·have:=(norm_sem hp).2 hn
   rw [holdsD_eq ev hp]
   cases getP p.attr ev with
   | none=>rfl
   | some y=>simp only [this y,Bool.and_false]
end Go.Proofs.YtimklglliffpcaaGreat
namespace Go.Proofs.YtimklglliffpcaaGreat

theorem memB_len {α:Type} {f:α→Bool} {l:List α} {m:Int} (h:memB f l m=true):(l.length:Int)≤m:=by
 simp [memB] at h
 omega
theorem ok_small {p:Pd} (h:p.ok=true):p.small:=by
 unfold Pd.small
 rcases (ok_parts h).2 with ⟨_,h1,h2,_⟩ | ⟨_,h1,h2,_⟩ | ⟨_,_,_,h1,h2⟩ | ⟨_,h1,h2,_⟩
 ·have:=memB_len h1;rw [h2];simp only [List.length_nil];omega
 ·have:=memB_len h1;rw [h2];simp only [List.length_nil];omega
 ·rw [h1,h2];simp only [List.length_nil];omega
 ·have:=memB_len h1;rw [h2];simp only [List.length_nil];omega
theorem nf_norm {m:Pd} (h:Nf m):normD m=some m:=by
 obtain ⟨hok,hc⟩:=h
 have hp:=(ok_parts hok).2
 obtain ⟨k,a,is,ws,lo,hi⟩:=m
 simp only at hp hc
 rcases hc with ⟨hk,hs⟩ | ⟨hk,hs⟩ | ⟨hk,hs⟩ | hk
 ·rw [normD_1 hok hk]
  rcases hp with ⟨_,_,h1,h2,h3⟩ | ⟨h0,_⟩ | ⟨h0,_⟩ | ⟨h0,_⟩
  ·subst hk h1 h2 h3
   rw [onceI_of (fun x=>Iff.rfl) hs]
  all_goals (exfalso;omega)
 ·rw [normD_2 hok hk]
  rcases hp with ⟨h0,_⟩ | ⟨_,_,h1,h2,h3⟩ | ⟨h0,_⟩ | ⟨h0,_⟩
  ·exfalso;omega
  ·subst hk h1 h2 h3
   rw [onceS_of (fun x=>Iff.rfl) hs]
  all_goals (exfalso;omega)
 ·rw [normD_3 hok hk]
  rcases hp with ⟨h0,_⟩ | ⟨h0,_⟩ | ⟨_,_,_,h1,h2⟩ | ⟨h0,_⟩
  ·exfalso;omega
  ·exfalso;omega
  ·subst hk h1 h2
   rw [if_neg (by simp only;omega),if_neg (by simp only;omega)]
  ·exfalso;omega
 ·rw [normD_4 hok hk]
  rcases hp with ⟨h0,_⟩ | ⟨h0,_⟩ | ⟨h0,_⟩ | ⟨_,_,h1,h2,h3⟩
  ·exfalso;omega
  ·exfalso;omega
  ·exfalso;omega
  ·subst hk h1 h2 h3
   rfl
theorem ltD_asymm {a b:Pd} (h1:cmpD a b < 0) (h2:cmpD b a < 0):False:=by
 have:=isCmp_D.neg a b
 omega
theorem ltD_nodup {l:List Pd} (h:l.Pairwise (fun a b=>cmpD a b < 0)):l.Nodup:=h.imp fun {a b} hab e=>by subst e;exact ltD_asymm hab hab
/-- Two strictly rising lists of the same predicates are one. -/
theorem risingD_unique {l l':List Pd} (h:l.Pairwise (fun a b=>cmpD a b < 0)) (h':l'.Pairwise (fun a b=>cmpD a b < 0)) (he:∀ x,x ∈ l ↔ x ∈ l'):l=l' :=
 List.Perm.eq_of_pairwise (le:=fun a b:Pd=>cmpD a b < 0) (fun _ _ _ _ h1 h2=>(ltD_asymm h1 h2).elim) h h' ((List.perm_ext_iff_of_nodup (ltD_nodup h) (ltD_nodup h')).2 he)
theorem stepD_lt {acc:List Pd} {x:Pd} (h:acc.Pairwise (fun a b=>cmpD a b < 0)) (hx:∀ a ∈ acc,cmpD a x≤0):(stepD acc x).Pairwise (fun a b=>cmpD a b < 0):=by
 unfold stepD
 split
 ·exact h
 ·next hl =>
  rw [List.pairwise_append]
  refine ⟨h,List.pairwise_singleton _ _,fun a ha y hy=>?_⟩
  obtain rfl:y=x:=by simpa using hy
  have h1:=hx a ha
  by_cases h0:cmpD a y=0
  ·exfalso
   obtain rfl:=(isCmp_D.eq a y).1 h0
   obtain ⟨zs,z,rfl⟩:∃ zs z,acc=zs ++ [z]:=⟨acc.dropLast,acc.getLast (List.ne_nil_of_mem ha),(List.dropLast_concat_getLast _).symm⟩
   have hz:z ≠ a:=fun e=>hl (by subst e;simp)
   have ha':a ∈ zs:=by
    rcases List.mem_append.1 ha with h | h
    ·exact h
    ·exact absurd (by simpa using h:a=z).symm hz
   have h2:=(List.pairwise_append.1 h).2.2 a ha' z (by simp)
   have h3:=hx z (by simp)
   have:=isCmp_D.neg a z
   omega
  ·omega
theorem foldD_lt:∀ (l acc:List Pd),acc.Pairwise (fun a b=>cmpD a b < 0)→(∀ a ∈ acc,∀ x ∈ l,cmpD a x≤0)→l.Pairwise (fun a b=>cmpD a b≤0)→(l.foldl stepD acc).Pairwise (fun a b=>cmpD a b < 0)
 | [],acc,h,_,_=>h
 | x :: l,acc,h,hx,hl=>by
  rw [List.foldl_cons]
  have hc:=List.pairwise_cons.1 hl
  refine foldD_lt l _ (stepD_lt h fun a ha=>hx a ha x (by simp)) (fun a ha y hy=>?_) hc.2
  have:a ∈ acc ∨ a=x:=by
   unfold stepD at ha
   split at ha
   ·exact Or.inl ha
   ·simpa using ha
  rcases this with h1 | rfl
  ·exact hx a h1 y (by simp [hy])
  ·exact hc.1 y hy
theorem cptD_lt {l:List Pd} (h:l.Pairwise (fun a b=>cmpD a b≤0)):(cptD l).Pairwise (fun a b=>cmpD a b < 0):=foldD_lt l [] List.Pairwise.nil (fun a ha=>by simp at ha) h
theorem negD_lt (ls:List Lt):(negD ls).Pairwise (fun a b=>cmpD a b < 0):=cptD_lt (srtD_sorted _)
theorem posL_iff {ls:List Lt} {p:Pd}:p ∈ posL ls ↔ ∃ l ∈ ls,l.neg=false∧ltPd l=p:=by
 unfold posL
 rw [List.mem_filterMap]
 constructor
 ·rintro ⟨l,hl,h⟩
  cases hn:l.neg with
  | true=>rw [if_pos hn] at h;cases h
  | false=>rw [if_neg (by simp [hn])] at h;exact ⟨l,hl,hn,Option.some.inj h⟩
 ·rintro ⟨l,hl,hn,rfl⟩
  exact ⟨l,hl,by rw [if_neg (by simp [hn])]⟩
theorem negL_iff {ls:List Lt} {p:Pd}:p ∈ negL ls ↔ ∃ l ∈ ls,l.neg=true∧normD (ltPd l)=some p:=by
 unfold negL
 rw [List.mem_filterMap]
 constructor
 ·rintro ⟨l,hl,h⟩
  cases hn:l.neg with
  | true=>rw [if_pos hn] at h;exact ⟨l,hl,hn,h⟩
  | false=>rw [if_neg (by simp [hn])] at h;cases h
 ·rintro ⟨l,hl,hn,h⟩
  exact ⟨l,hl,by rw [if_pos hn];exact h⟩
theorem okL_mem {ls ls':List Lt} (he:∀ l,l ∈ ls' ↔ l ∈ ls):okL ls'=okL ls:=by
 unfold okL
 rw [Bool.eq_iff_iff,List.all_eq_true,List.all_eq_true]
 exact ⟨fun h l hl=>h l ((he l).2 hl),fun h l hl=>h l ((he l).1 hl)⟩
theorem posL_mem {ls ls':List Lt} (he:∀ l,l ∈ ls' ↔ l ∈ ls) (p:Pd):p ∈ posL ls' ↔ p ∈ posL ls:=by
 rw [posL_iff,posL_iff]
 exact ⟨fun ⟨l,h1,h2⟩=>⟨l,(he l).1 h1,h2⟩,fun ⟨l,h1,h2⟩=>⟨l,(he l).2 h1,h2⟩⟩
theorem negL_mem {ls ls':List Lt} (he:∀ l,l ∈ ls' ↔ l ∈ ls) (p:Pd):p ∈ negL ls' ↔ p ∈ negL ls:=by
 rw [negL_iff,negL_iff]
 exact ⟨fun ⟨l,h1,h2⟩=>⟨l,(he l).1 h1,h2⟩,fun ⟨l,h1,h2⟩=>⟨l,(he l).2 h1,h2⟩⟩
theorem namesD_mem {ls:List Lt} {a:ByteArray}:a ∈ namesD ls ↔ ∃ p ∈ posL ls,p.attr=a:=by
 unfold namesD
 rw [(onceS_spec _).1 a,List.mem_map]
theorem names_same {ls ls':List Lt} (he:∀ l,l ∈ ls' ↔ l ∈ ls):namesD ls'=namesD ls :=
 onceS_of (fun x=>by
  rw [namesD_mem,List.mem_map]
  exact ⟨fun ⟨p,h1,h2⟩=>⟨p,(posL_mem he p).2 h1,h2⟩,fun ⟨p,h1,h2⟩=>⟨p,(posL_mem he p).1 h1,h2⟩⟩) (onceS_spec _).2.1
theorem posGo_congr {ls ls':List Lt} (h:∀ a,meetD (grpD ls' a)=meetD (grpD ls a)):∀ ns,posGo ls' ns=posGo ls ns
 | []=>rfl
 | a :: ns=>by simp only [posGo,h a,posGo_congr h ns]
/-- A conjunction hangs on which literals there are alone. -/
theorem make_mem {ls ls':List Lt} (he:∀ l,l ∈ ls' ↔ l ∈ ls):makeD ls'=makeD ls:=by
 have h1:posD ls'=posD ls:=by
  unfold posD
  rw [names_same he]
  exact posGo_congr (fun a=>meetD_any fun p=>by rw [grp_mem,grp_mem,posL_mem he]) _
 have h2:negD ls'=negD ls:=risingD_unique (negD_lt _) (negD_lt _) fun x=>by rw [negD_mem,negD_mem,negL_mem he]
 unfold makeD makeC
 rw [okL_mem he,h1,h2]
theorem makeE_mem {ls ls':List Lt} (he:∀ l,l ∈ ls' ↔ l ∈ ls):makeE ls'=makeE ls:=by unfold makeE;rw [okL_mem he]
theorem turn_lits (ls:List Lt) (l:Lt):l ∈ ls.reverse ++ ls ↔ l ∈ ls:=by simp

def litP (b:Bool) (p:Pd):Lt:=⟨p.kind,p.attr,p.ints,p.words,p.lo,p.hi,b⟩
/-- The literals of a conjunction's own. -/
def ownL (c:Cd):List Lt:=c.pos.map (litP false) ++ c.neg.map (litP true)
theorem posL_own (c:Cd):posL (ownL c)=c.pos:=by
 unfold posL ownL
 rw [List.filterMap_append,List.filterMap_map,List.filterMap_map]
 have h1:∀ l:List Pd,l.filterMap ((fun l:Lt=>if l.neg then none else some (ltPd l)) ∘ litP false)=l:=fun l=>by
  induction l with
  | nil=>rfl
  | cons x l ih=>rw [List.filterMap_cons,ih];rfl
 have h2:∀ l:List Pd,l.filterMap ((fun l:Lt=>if l.neg then none else some (ltPd l)) ∘ litP true)=[]:=fun l=>by
  induction l with
  | nil=>rfl
  | cons x l ih=>rw [List.filterMap_cons,ih];rfl
 rw [h1,h2,List.append_nil]
theorem negL_own (c:Cd):negL (ownL c)=c.neg.filterMap normD:=by
 unfold negL ownL
 rw [List.filterMap_append,List.filterMap_map,List.filterMap_map]
 have h1:∀ l:List Pd,l.filterMap ((fun l:Lt=>if l.neg then normD (ltPd l) else none) ∘ litP false)=[]:=fun l=>by
  induction l with
  | nil=>rfl
  | cons x l ih=>rw [List.filterMap_cons,ih];rfl
 rw [h1,List.nil_append]
 rfl
theorem posGo_own {ls:List Lt} (h:okL ls=true):∀ (ns:List ByteArray) (d:List Pd),posGo ls ns=some d→(∀ a ∈ ns,grpD ls a ≠ [])→d.map Pd.attr=ns∧∀ m ∈ d,Nf m
 | [],d,hd,_=>by cases hd;exact ⟨rfl,fun m hm=>by simp at hm⟩
 | a :: ns,d,hd,hne=>by
  have hg:∀ q ∈ grpD ls a,q.ok=true∧q.attr=a:=fun q hq=>⟨okL_pos h q (grp_mem.1 hq).1,(grp_mem.1 hq).2⟩
  simp only [posGo] at hd
  cases hm:meetD (grpD ls a) with
  | none=>rw [hm] at hd;cases hd
  | some m =>
   rw [hm] at hd
   simp only at hd
   obtain ⟨d',hd',rfl⟩:=Option.map_eq_some_iff.1 hd
   obtain ⟨i1,i2⟩:=posGo_own h ns d' hd' (fun b hb=>hne b (by simp [hb]))
   have ha:=((meetD_sem (hne a (by simp)) hg).1 m hm).2.1
   refine ⟨by rw [List.map_cons,i1,ha],fun x hx=>?_⟩
   rcases List.mem_cons.1 hx with rfl | hx
   ·exact (meetD_row hg hm).1
   ·exact i2 x hx
theorem attr_inj:∀ {d:List Pd},(d.map Pd.attr).Pairwise ltS→∀ p ∈ d,∀ m ∈ d,p.attr=m.attr→p=m:=by
 intro d
 induction d with
 | nil=>intro _ p hp;simp at hp
 | cons x d ih =>
  intro h p hp m hm e
  rw [List.map_cons,List.pairwise_cons] at h
  rcases List.mem_cons.1 hp with hp1 | hp1
  ·rcases List.mem_cons.1 hm with hm1 | hm1
   ·rw [hp1,hm1]
   ·exact (ltS_irrefl (hp1 ▸ e ▸ h.1 _ (List.mem_map.2 ⟨m,hm1,rfl⟩))).elim
  ·rcases List.mem_cons.1 hm with hm1 | hm1
   ·exact (ltS_irrefl (hm1 ▸ e ▸ h.1 _ (List.mem_map.2 ⟨p,hp1,rfl⟩))).elim
   ·exact ih h.2 p hp1 m hm1 e
theorem posGo_self {c:Cd} (hs:(c.pos.map Pd.attr).Pairwise ltS) (hn:∀ m ∈ c.pos,Nf m):∀ e:List Pd,(∀ m ∈ e,m ∈ c.pos)→posGo (ownL c) (e.map Pd.attr)=some e
 | [],_=>rfl
 | m :: e,he=>by
  have hm:=he m (by simp)
  have hg:meetD (grpD (ownL c) m.attr)=some m:=by
   rw [meetD_any (l:=[m]) (fun p=>by
    rw [grp_mem,posL_own]
    constructor
    ·rintro ⟨h1,h2⟩
     simp [attr_inj hs p h1 m hm h2]
    ·intro h
     obtain rfl:p=m:=by simpa using h
     exact ⟨hm,rfl⟩)]
   show meetGo (normD m) []=some m
   rw [nf_norm (hn m hm)]
   rfl
  rw [List.map_cons]
  simp only [posGo,hg]
  rw [posGo_self hs hn e (fun x hx=>he x (by simp [hx]))]
  rfl
theorem filter_self {l:List Pd} (h:∀ m ∈ l,Nf m):l.filterMap normD=l:=by
 induction l with
 | nil=>rfl
 | cons x l ih=>rw [List.filterMap_cons,nf_norm (h x (by simp)),ih fun m hm=>h m (by simp [hm])]
theorem negD_nf {ls:List Lt} (h:okL ls=true):∀ m ∈ negD ls,Nf m:=fun m hm=>by
 obtain ⟨l,hl,_,hn⟩:=negL_iff.1 (negD_mem.1 hm)
 have hok:(ltPd l).ok=true:=by unfold okL at h;exact List.all_eq_true.1 h l hl
 exact (norm_nf hok hn).1
theorem make_parts {ls:List Lt} (h:okL ls=true):(makeD ls=⟨true,[],[]⟩) ∨ ∃ d,makeD ls=⟨false,d,negD ls⟩∧d.map Pd.attr=namesD ls∧∀ m ∈ d,Nf m:=by
 unfold makeD makeC
 rw [h,if_pos rfl]
 cases hd:posD ls with
 | none=>exact Or.inl rfl
 | some d =>
  obtain ⟨h1,h2⟩:=posGo_own h (namesD ls) d hd names_ne
  exact Or.inr ⟨d,rfl,h1,h2⟩
theorem own_ok {ls:List Lt} (h:okL ls=true):okL (ownL (makeD ls))=true:=by
 unfold okL
 rw [List.all_eq_true]
 intro l hl
 rcases make_parts h with e | ⟨d,e,_,hn⟩
 ·rw [e] at hl;simp [ownL] at hl
 ·rw [e] at hl
  unfold ownL at hl
  rcases List.mem_append.1 hl with h1 | h1
  ·obtain ⟨p,hp,rfl⟩:=List.mem_map.1 h1
   exact (hn p hp).1
  ·obtain ⟨p,hp,rfl⟩:=List.mem_map.1 h1
   exact (negD_nf h p hp).1
/-- A conjunction's own literals make it again. -/
theorem own_make {ls:List Lt} (h:okL ls=true) (hv:(makeD ls).never=false):makeD (ownL (makeD ls))=makeD ls:=by
 have ho:=own_ok h
 rcases make_parts h with e | ⟨d,e,ha,hn⟩
 ·rw [e] at hv;cases hv
 ·rw [e] at ho ⊢
  have hs:(d.map Pd.attr).Pairwise ltS:=by rw [ha];exact (onceS_spec _).2.1
  have hN:namesD (ownL ⟨false,d,negD ls⟩)=d.map Pd.attr:=by
   unfold namesD
   rw [posL_own]
   exact onceS_of (fun x=>Iff.rfl) hs
  have hP:posD (ownL ⟨false,d,negD ls⟩)=some d:=by
   unfold posD
   rw [hN]
   exact posGo_self (c:=⟨false,d,negD ls⟩) hs hn d (fun m hm=>hm)
  have hG:negD (ownL ⟨false,d,negD ls⟩)=negD ls:=risingD_unique (negD_lt _) (negD_lt _) fun x=>by rw [negD_mem,negL_own,filter_self (negD_nf h)]
  unfold makeD makeC
  rw [ho,if_pos rfl,hP,hG]
theorem risB_of {ord:Pd→Pd→Int} {l:List Pd} (hn:∀ p ∈ l,Nf p) (hs:l.Pairwise (fun a b=>ord a b < 0)):risB ord l=true:=risB_yes fun t ht=>by
 have e1:l[t]? = some l[t]:=List.getElem?_eq_getElem ht
 unfold risAt
 rw [getB e1]
 have h1:isNorm l[t]=true:=by unfold isNorm;exact decide_eq_true (nf_norm (hn _ (List.getElem_mem ht)))
 rw [h1,Bool.true_and,Bool.or_eq_true,decide_eq_true_eq,decide_eq_true_eq]
 by_cases h0:t=0
 ·exact Or.inl h0
 ·right
  have hlt:t - 1 < l.length:=by omega
  rw [getB (List.getElem?_eq_getElem hlt)]
  exact List.pairwise_iff_getElem.1 hs (t - 1) t hlt ht (by omega)
/-- What Make answers is normal. -/
theorem make_good {ls:List Lt} (h:okL ls=true):errC (makeD ls).never (makeD ls).pos (makeD ls).neg=0:=by
 unfold errC
 rw [if_pos]
 unfold goodC
 rcases make_parts h with e | ⟨d,e,ha,hn⟩
 ·rw [e];rfl
 ·rw [e]
  simp only [Bool.false_eq_true,if_false]
  have hs:(d.map Pd.attr).Pairwise ltS:=by rw [ha];exact (onceS_spec _).2.1
  rw [risB_of (ord:=cmpA) hn ((List.pairwise_map.1 hs).imp fun {a b} hab=>hab),risB_of (negD_nf h) (negD_lt ls)]
  rfl
theorem make_count {ls:List Lt} (h:okL ls=true) (hv:(makeD ls).never=false):(makeD ls).pos.length=(namesD ls).length:=by
 rcases make_parts h with e | ⟨d,e,ha,_⟩
 ·rw [e] at hv;cases hv
 ·rw [e,← ha,List.length_map]
/-- Is the k-th a literal that must hold, of an attribute that none ahead of it has? -/
def freshL (ls:List Lt) (k:Nat) (l:Lt):Bool:=!l.neg && (ls.take k).all fun m=>m.neg || !decide (m.attr=l.attr)
theorem freshL_iff {ls:List Lt} {k:Nat} {l:Lt}:freshL ls k l=true ↔ l.neg=false∧¬ l.attr ∈ (posL (ls.take k)).map Pd.attr:=by
 unfold freshL
 rw [Bool.and_eq_true,List.all_eq_true,Bool.not_eq_true']
 refine and_congr_right fun _=>?_
 rw [List.mem_map]
 constructor
 ·rintro h ⟨p,hp,he⟩
  obtain ⟨m,hm,hn,rfl⟩:=posL_iff.1 hp
  have:=h m hm
  rw [hn,Bool.false_or,Bool.not_eq_true',decide_eq_false_iff_not] at this
  exact this he
 ·intro h m hm
  cases hn:m.neg with
  | true=>rfl
  | false =>
   rw [Bool.false_or,Bool.not_eq_true',decide_eq_false_iff_not]
   exact fun e=>h ⟨ltPd m,posL_iff.2 ⟨m,hm,hn,rfl⟩,e⟩
theorem onceS_in {l:List ByteArray} {a:ByteArray} (h:a ∈ l):(onceS (l ++ [a])).length=(onceS l).length:=by
 rw [onceS_of (l:=l ++ [a]) (l':=onceS l) (fun x=>by
   rw [(onceS_spec l).1 x,List.mem_append,List.mem_singleton]
   exact ⟨Or.inl,fun h'=>h'.elim id fun e=>e ▸ h⟩) (onceS_spec l).2.1]
theorem onceS_out {l:List ByteArray} {a:ByteArray} (h:¬ a ∈ l):(onceS (l ++ [a])).length=(onceS l).length + 1:=by
 have nd:∀ k:List ByteArray,(onceS k).Nodup:=fun k=>(onceS_spec k).2.1.imp fun {a b} hab e=>by subst e;exact ltS_irrefl hab
 have hp:(onceS (l ++ [a])).Perm (a :: onceS l):=(List.perm_ext_iff_of_nodup (nd _) (List.nodup_cons.2 ⟨fun h'=>h (((onceS_spec l).1 a).1 h'),nd l⟩)).2 fun x=>by
  rw [(onceS_spec _).1 x,List.mem_cons,(onceS_spec l).1 x,List.mem_append,List.mem_singleton,or_comm]
 rw [hp.length_eq,List.length_cons]
theorem names_step {ls:List Lt} {k:Nat} {l:Lt} (h:ls[k]? = some l):(namesD (ls.take (k + 1))).length=(namesD (ls.take k)).length + if freshL ls k l then 1 else 0:=by
 unfold namesD
 rw [posL_take h]
 cases hn:l.neg with
 | true =>
  have:freshL ls k l=false:=by unfold freshL;rw [hn];rfl
  rw [this]
  simp
 | false =>
  simp only [Bool.false_eq_true,if_false,List.map_append,List.map_cons,List.map_nil]
  show (onceS ((posL (ls.take k)).map Pd.attr ++ [l.attr])).length=_
  by_cases hm:l.attr ∈ (posL (ls.take k)).map Pd.attr
  ·rw [onceS_in hm,if_neg (fun hf=>(freshL_iff.1 hf).2 hm)]
   rfl
  ·rw [onceS_out hm,if_pos (freshL_iff.2 ⟨hn,hm⟩)]
theorem names_le (ls:List Lt):(namesD ls).length≤ls.length:=by
 have:=(onceS_spec ((posL ls).map Pd.attr)).2.2
 rw [List.length_map] at this
 exact Nat.le_trans this (posL_len ls)
end Go.Proofs.YtimklglliffpcaaGreat
