/- Predicates as plain data and in memory; how they are compared. -/
import Derived.Test.YtimklglliffpcaaGreatQCmp
import Derived.Test.YtimklglliffpcaaGreatQKept
import Derived.Test.YtimklglliffpcaaGreatQMemNode
import Derived.Deep.Cut
namespace Go.Proofs.YtimklglliffpcaaGreat
open Go.RowKit Go.Sort Go.Shelf
/-- Lists by the order of their elements; the shorter ahead. -/
def lc {α:Type} (c:α->α->Int):List α->List α->Int
 | [],[]=>0
 | [],_ :: _=>-1
 | _ :: _,[]=>1
 | x :: l,y :: m=>if c x y=0 then lc c l m else c x y
theorem te {α:Type} (c:α->α->Int) {l m a b:List α} {x y:α} (h1:l=x :: a) (h2:m=y :: b):lc c l m=if c x y=0 then lc c a b else c x y:=by rw [h1,h2];rfl
def kp (a b:ByteArray):Int:=ri a.data.toList b.data.toList
theorem isCmp_B:IsCmp kp where
 rng _ _:=isCmp_str.rng _ _
 neg _ _:=isCmp_str.neg _ _
 eq _ _:=(isCmp_str.eq _ _).trans ⟨Dq,fun h=>by rw [h]⟩
 trans _ _ _:=isCmp_str.trans _ _ _
theorem A9 {α:Type} {c:α->α->Int} (h:IsCmp c):IsCmp (lc c) where
 rng a b:=by
  induction a generalizing b with
  | nil=>cases b <;> simp [lc]
  | cons x l ih =>
   cases b with
   | nil=>simp [lc]
   | cons y m =>
    simp only [lc]
    split
    ·exact ih m
    ·exact h.rng x y
 neg a b:=by
  induction a generalizing b with
  | nil=>cases b <;> simp [lc]
  | cons x l ih =>
   cases b with
   | nil=>simp [lc]
   | cons y m =>
    simp only [lc]
    have hn:=h.neg x y
    by_cases h0:c x y=0
    ·rw [if_pos h0,if_pos (by omega)]
     exact ih m
    ·rw [if_neg h0,if_neg (by omega)]
     exact hn
 eq a b:=by
  induction a generalizing b with
  | nil=>cases b <;> simp [lc]
  | cons x l ih =>
   cases b with
   | nil=>simp [lc]
   | cons y m =>
    simp only [lc]
    by_cases h0:c x y=0
    ·rw [if_pos h0,ih m,List.cons.injEq]
     exact ⟨fun e=>⟨(h.eq x y).1 h0,e⟩,fun e=>e.2⟩
    ·rw [if_neg h0,List.cons.injEq]
     exact ⟨fun e=>absurd e h0,fun e=>absurd ((h.eq x y).2 e.1) h0⟩
 trans a b d:=by
  induction a generalizing b d with
  | nil =>
   intro h1 h2
   cases b with
   | nil=>exact h2
   | cons y m =>
    cases d with
    | nil=>simp [lc] at h2
    | cons z n=>simp [lc]
  | cons x l ih =>
   intro h1 h2
   cases b with
   | nil=>simp [lc] at h1
   | cons y m =>
    cases d with
    | nil=>simp [lc] at h2
    | cons z n =>
     simp only [lc] at h1 h2 ⊢
     by_cases h0:c x y=0
     ·rw [if_pos h0] at h1
      have exy:=(h.eq x y).1 h0
      subst exy
      by_cases hz:c x z=0
      ·rw [if_pos hz] at h2 ⊢
       exact ih m n h1 h2
      ·rw [if_neg hz] at h2 ⊢
       exact h2
     ·rw [if_neg h0] at h1
      by_cases hz:c y z=0
      ·have eyz:=(h.eq y z).1 hz
       subst eyz
       rw [if_neg h0]
       exact h1
      ·rw [if_neg hz] at h2
       have ht:=h.trans x y z h1 h2
       by_cases hxz:c x z=0
       ·exfalso
        have exz:=(h.eq x z).1 hxz
        subst exz
        have:=h.neg x y
        omega
       ·rw [if_neg hxz];exact ht
/-- cmp.Compare of words. -/
theorem yw (a:ByteArray) (w:World):Calls Tryz.prog 165 #[.string a] w fun e w'=>e=.returned (.bool false)/\w'=w:=by
 have h:(a.toList == a.toList)=true:=by simp
 go_enter Tryz.func165,Tryz.ntmps165
 go_wp2
 go_ret
 exact ⟨by simp,rfl⟩
theorem T9 (a b:ByteArray) (w:World):Calls Tryz.prog 124 #[.string a,.string b] w fun e w'=>e=.returned (.int .i64 (kp a b))/\w'=w:=by
 rcases nj a.data.toList b.data.toList with ⟨h1,h2⟩ | ⟨h1,h2⟩ | ⟨h1,h2⟩
 ·have h3:Op.bytesLess a.toList b.toList=true:=by rw [ByteArray.toList_eq,ByteArray.toList_eq];exact h1
  have HN:=d9 (show -1=kp a b from h2.symm)
  clear h1 h2
  go_enter Tryz.func124,Tryz.ntmps124
  go_wp2_with (go_at_call 165;refine (yw _ _).mono ?_;rintro e w1 ⟨rfl,rfl⟩)
  go_ret
  exact ⟨jg (uh HN),rfl⟩
 ·obtain rfl:=Dq h1
  have h3:Op.bytesLess a.toList a.toList=false:=by
   rcases hb:Op.bytesLess a.data.toList a.data.toList with _ | _
   ·rw [ByteArray.toList_eq];exact hb
   ·have:=qy hb
    omega
  have HN:=d9 (show 0=kp a a from h2.symm)
  clear h1 h2
  go_enter Tryz.func124,Tryz.ntmps124
  go_wp2_with (go_at_call 165;refine (yw _ _).mono ?_;rintro e w1 ⟨rfl,rfl⟩)
  go_ret
  exact ⟨jg (uh HN),rfl⟩
 ·have h3:Op.bytesLess b.toList a.toList=true:=by rw [ByteArray.toList_eq,ByteArray.toList_eq];exact h1
  have h4:Op.bytesLess a.toList b.toList=false:=by
   rcases hb:Op.bytesLess a.data.toList b.data.toList with _ | _
   ·rw [ByteArray.toList_eq,ByteArray.toList_eq];exact hb
   ·have:=qy hb
    omega
  have h5:(a.toList == b.toList)=false:=mg (fun e=>by subst e;rw [Mr] at h2;omega)
  have HN:=d9 (show 1=kp a b from h2.symm)
  clear h1 h2
  go_enter Tryz.func124,Tryz.ntmps124
  go_wp2_with (go_at_call 165;refine (yw _ _).mono ?_;rintro e w1 ⟨rfl,rfl⟩)
  go_ret
  exact ⟨jg (uh HN),rfl⟩
set_option maxHeartbeats 1000000 in
set_option maxRecDepth 100000 in
/-- slices.Compare of numbers. -/
theorem Vo (q:Option Addr) (c:Nat) (l:List Int) (q':Option Addr) (c':Nat) (m:List Int) (w:World) (h1:SlOf jq 1 w q c l) (h2:SlOf jq 1 w q' c' m) (hl:l.length<=100000000000000) :
  Calls Tryz.prog 70 #[.slice q l.length c,.slice q' m.length c'] w fun e w'=>e=.returned (.int .i64 (lc kc l m))/\w'=w:=by
 have l1:(l.length:Int)<=100000000000000:=by omega
 have H1:=d9 h1
 have H2:=d9 h2
 clear h1 h2
 go_enter Tryz.func70,Tryz.ntmps70
 go_wp2
 go_loopw [11] (fun i wr=>∃ k:Nat,k<=l.length/\k<=m.length/\i=.int .i64 k/\Hid (lc kc (l.drop k) (m.drop k)=lc kc l m)/\wr=w) (fun i _=>l.length - (intOf i).toNat)
 case atStart=>exact ⟨0,by omega,by omega,rfl,d9 rfl,rfl⟩
 case round =>
  obtain ⟨k,hk,hk2,rfl,HF,rfl⟩:=hrel
  by_cases hlt:k < l.length
  ·obtain ⟨x,hx,hxd⟩:=je hlt
   obtain ⟨b,off,hq,_,g1⟩:=mh (uh H1) hx
   subst hq
   have k0:(0:Int)<=(k:Int):=by omega
   have k1:(k:Int) < (l.length:Int):=by omega
   by_cases hlm:k < m.length
   ·obtain ⟨y,hy,hyd⟩:=je hlm
    obtain ⟨b',off',hq',_,g2⟩:=mh (uh H2) hy
    subst hq'
    have k2:(k:Int) < (m.length:Int):=by omega
    have k3:¬ (m.length:Int)<=(k:Int):=by omega
    have HS:=d9 (te kc hxd hyd)
    obtain ⟨z,hz⟩:∃ z,kc x y=z:=⟨_,rfl⟩
    have hcc:=C4 x y wr
    rw [hz] at hcc HS
    clear hx hy hxd hyd hz
    by_cases h0:z=0
    ·have hb:(z != 0)=false:=by simp [h0]
     have HN:=d9 (show lc kc (l.drop (k + 1)) (m.drop (k + 1))=lc kc l m by rw [<- uh HF,uh HS,if_pos h0])
     clear h0
     go_wp2_with (go_at_call 69;refine hcc.mono ?_;rintro e w2 ⟨rfl,rfl⟩)
     go_roundw
     case rel=>exact ⟨k + 1,by omega,by omega,by go_num,HN,by simp⟩
     case measure=>simp [intOf];omega
    ·have hb:(z != 0)=true:=by simpa using h0
     have HN:=d9 (show z=lc kc l m by rw [<- uh HF,uh HS,if_neg h0])
     clear h0
     go_wp2_with (go_at_call 69;refine hcc.mono ?_;rintro e w2 ⟨rfl,rfl⟩)
     go_ret
     exact ⟨jg (uh HN),rfl⟩
   ·have k3:(m.length:Int)<=(k:Int):=by omega
    have HN:=d9 (show 1=lc kc l m by rw [<- uh HF,hxd,List.drop_eq_nil_of_le (by omega:m.length<=k)];rfl)
    clear hx hxd
    go_wp2
    go_ret
    exact ⟨jg (uh HN),rfl⟩
  ·have k1:¬ (k:Int) < (l.length:Int):=by omega
   have e1:l.drop k=[]:=List.drop_eq_nil_of_le (by omega)
   by_cases hlm:l.length < m.length
   ·have k2:(l.length:Int) < (m.length:Int):=by omega
    have HN:=d9 (show -1=lc kc l m by
     rw [<- uh HF,e1]
     obtain ⟨y,_,hyd⟩:=je (l:=m) (k:=k) (by omega)
     rw [hyd];rfl)
    clear e1
    go_wp2
    go_ret
    exact ⟨jg (uh HN),rfl⟩
   ·have k2:¬ (l.length:Int) < (m.length:Int):=by omega
    have HN:=d9 (show 0=lc kc l m by rw [<- uh HF,e1,List.drop_eq_nil_of_le (by omega:m.length<=k)];rfl)
    clear e1
    go_wp2
    go_ret
    exact ⟨jg (uh HN),rfl⟩
set_option maxHeartbeats 1000000 in
set_option maxRecDepth 100000 in
/-- slices.Compare of words. -/
theorem Vs (q:Option Addr) (c:Nat) (l:List ByteArray) (q':Option Addr) (c':Nat) (m:List ByteArray) (w:World) (h1:SlOf jy 1 w q c l) (h2:SlOf jy 1 w q' c' m) (hl:l.length<=100000000000000) :
  Calls Tryz.prog 71 #[.slice q l.length c,.slice q' m.length c'] w fun e w'=>e=.returned (.int .i64 (lc kp l m))/\w'=w:=by
 have l1:(l.length:Int)<=100000000000000:=by omega
 have H1:=d9 h1
 have H2:=d9 h2
 clear h1 h2
 go_enter Tryz.func71,Tryz.ntmps71
 go_wp2
 go_loopw [11] (fun i wr=>∃ k:Nat,k<=l.length/\k<=m.length/\i=.int .i64 k/\Hid (lc kp (l.drop k) (m.drop k)=lc kp l m)/\wr=w) (fun i _=>l.length - (intOf i).toNat)
 case atStart=>exact ⟨0,by omega,by omega,rfl,d9 rfl,rfl⟩
 case round =>
  obtain ⟨k,hk,hk2,rfl,HF,rfl⟩:=hrel
  by_cases hlt:k < l.length
  ·obtain ⟨x,hx,hxd⟩:=je hlt
   obtain ⟨b,off,hq,_,g1⟩:=j6 (uh H1) hx
   subst hq
   have k0:(0:Int)<=(k:Int):=by omega
   have k1:(k:Int) < (l.length:Int):=by omega
   by_cases hlm:k < m.length
   ·obtain ⟨y,hy,hyd⟩:=je hlm
    obtain ⟨b',off',hq',_,g2⟩:=j6 (uh H2) hy
    subst hq'
    have k2:(k:Int) < (m.length:Int):=by omega
    have k3:¬ (m.length:Int)<=(k:Int):=by omega
    have HS:=d9 (te kp hxd hyd)
    obtain ⟨z,hz⟩:∃ z,kp x y=z:=⟨_,rfl⟩
    have hcc:=T9 x y wr
    rw [hz] at hcc HS
    clear hx hy hxd hyd hz
    by_cases h0:z=0
    ·have hb:(z != 0)=false:=by simp [h0]
     have HN:=d9 (show lc kp (l.drop (k + 1)) (m.drop (k + 1))=lc kp l m by rw [<- uh HF,uh HS,if_pos h0])
     clear h0
     go_wp2_with (go_at_call 124;refine hcc.mono ?_;rintro e w2 ⟨rfl,rfl⟩)
     go_roundw
     case rel=>exact ⟨k + 1,by omega,by omega,by go_num,HN,by simp⟩
     case measure=>simp [intOf];omega
    ·have hb:(z != 0)=true:=by simpa using h0
     have HN:=d9 (show z=lc kp l m by rw [<- uh HF,uh HS,if_neg h0])
     clear h0
     go_wp2_with (go_at_call 124;refine hcc.mono ?_;rintro e w2 ⟨rfl,rfl⟩)
     go_ret
     exact ⟨jg (uh HN),rfl⟩
   ·have k3:(m.length:Int)<=(k:Int):=by omega
    have HN:=d9 (show 1=lc kp l m by rw [<- uh HF,hxd,List.drop_eq_nil_of_le (by omega:m.length<=k)];rfl)
    clear hx hxd
    go_wp2
    go_ret
    exact ⟨jg (uh HN),rfl⟩
  ·have k1:¬ (k:Int) < (l.length:Int):=by omega
   have e1:l.drop k=[]:=List.drop_eq_nil_of_le (by omega)
   by_cases hlm:l.length < m.length
   ·have k2:(l.length:Int) < (m.length:Int):=by omega
    have HN:=d9 (show -1=lc kp l m by
     rw [<- uh HF,e1]
     obtain ⟨y,_,hyd⟩:=je (l:=m) (k:=k) (by omega)
     rw [hyd];rfl)
    clear e1
    go_wp2
    go_ret
    exact ⟨jg (uh HN),rfl⟩
   ·have k2:¬ (l.length:Int) < (m.length:Int):=by omega
    have HN:=d9 (show 0=lc kp l m by rw [<- uh HF,e1,List.drop_eq_nil_of_le (by omega:m.length<=k)];rfl)
    clear e1
    go_wp2
    go_ret
    exact ⟨jg (uh HN),rfl⟩
/-- A predicate. -/
structure Pd where
 kind:Int
 attr:ByteArray
 ints:List Int
 words:List ByteArray
 lo:Int
 hi:Int
deriving DecidableEq
instance:Inhabited Pd:=⟨⟨0,⟨#[]⟩,[],[],0,0⟩⟩
/-- A predicate as it lies in memory. -/
structure Pv where
 kind:Int
 attr:ByteArray
 qi:Option Addr
 ni:Nat
 ci:Nat
 qw:Option Addr
 nw:Nat
 cw:Nat
 lo:Int
 hi:Int
instance:Inhabited Pv:=⟨⟨0,⟨#[]⟩,none,0,0,none,0,0,0,0⟩⟩
def sc (u:Pv):List Value:=[.int .i64 u.kind,.string u.attr,.slice u.qi u.ni u.ci,.slice u.qw u.nw u.cw,.int .i64 u.lo,.int .i64 u.hi]
def Pv.val (u:Pv):Value:=.agg #[.int .i64 u.kind,.string u.attr,.slice u.qi u.ni u.ci,.slice u.qw u.nw u.cw,.int .i64 u.lo,.int .i64 u.hi]
def PdIn (w:World) (u:Pv) (p:Pd):Prop:=u.kind=p.kind/\u.attr=p.attr/\u.ni=p.ints.length/\u.nw=p.words.length/\u.lo=p.lo/\u.hi=p.hi/\SlOf jq 1 w u.qi u.ci p.ints/\SlOf jy 1 w u.qw u.cw p.words
theorem PdIn.keep {w w':World} {u:Pv} {p:Pd} (h:PdIn w u p) (hb:Below w.heap.size w w'):PdIn w' u p:=by
 obtain ⟨h1,h2,h3,h4,h5,h6,h7,h8⟩:=h
 exact ⟨h1,h2,h3,h4,h5,h6,h7.below hb,h8.below hb⟩
def Pd.small (p:Pd):Prop:=p.ints.length<=100000000000000/\p.words.length<=100000000000000
/-- The order of predicates. -/
def pe (p r:Pd):Int:=Bn [kp p.attr r.attr,kc p.kind r.kind,lc kc p.ints r.ints,lc kp p.words r.words,kc p.lo r.lo,kc p.hi r.hi]
theorem isCmp_six:IsCmp (fun (p q:ByteArray × Int × List Int × List ByteArray × Int × Int)=>if kp p.1 q.1=0 then (if kc p.2.1 q.2.1=0 then (if lc kc p.2.2.1 q.2.2.1=0 then (if lc kp p.2.2.2.1 q.2.2.2.1=0 then (if kc p.2.2.2.2.1 q.2.2.2.2.1=0 then kc p.2.2.2.2.2 q.2.2.2.2.2 else kc p.2.2.2.2.1 q.2.2.2.2.1) else lc kp p.2.2.2.1 q.2.2.2.1) else lc kc p.2.2.1 q.2.2.1) else kc p.2.1 q.2.1) else kp p.1 q.1) :=
 rc isCmp_B (rc kh (rc (A9 kh) (rc (A9 isCmp_B) (rc kh kh))))
def Pd.parts (p:Pd):ByteArray × Int × List Int × List ByteArray × Int × Int:=(p.attr,p.kind,p.ints,p.words,p.lo,p.hi)
theorem zv (a b c d e f:Int):Bn [a,b,c,d,e,f]=if a=0 then (if b=0 then (if c=0 then (if d=0 then (if e=0 then f else e) else d) else c) else b) else a:=by
 simp only [Bn]
 by_cases h:f=0
 ·rw [if_pos h,h]
 ·rw [if_neg h]
theorem nc (p r:Pd):pe p r=(fun (p q:ByteArray × Int × List Int × List ByteArray × Int × Int)=>if kp p.1 q.1=0 then (if kc p.2.1 q.2.1=0 then (if lc kc p.2.2.1 q.2.2.1=0 then (if lc kp p.2.2.2.1 q.2.2.2.1=0 then (if kc p.2.2.2.2.1 q.2.2.2.2.1=0 then kc p.2.2.2.2.2 q.2.2.2.2.2 else kc p.2.2.2.2.1 q.2.2.2.2.1) else lc kp p.2.2.2.1 q.2.2.2.1) else lc kc p.2.2.1 q.2.2.1) else kc p.2.1 q.2.1) else kp p.1 q.1) p.parts r.parts:=by
 unfold pe Pd.parts
 rw [zv]
theorem isCmp_D:IsCmp pe where
 rng p r:=by rw [nc];exact isCmp_six.rng _ _
 neg p r:=by rw [nc,nc];exact isCmp_six.neg _ _
 eq p r:=by
  rw [nc]
  refine (isCmp_six.eq _ _).trans ⟨fun h=>?_,fun h=>by rw [h]⟩
  obtain ⟨k,a,i,s,l,h⟩:=p
  obtain ⟨k',a',i',s',l',h'⟩:=r
  simp only [Pd.parts,Prod.mk.injEq] at h
  obtain ⟨rfl,rfl,rfl,rfl,rfl,rfl⟩:=h
  rfl
 trans p r s:=by rw [nc,nc,nc];exact isCmp_six.trans _ _ _
theorem zbl (a b c d e f:Int) (W:World) (M:Nat) (h:W.heap[M]? = some (.cells #[.int .i64 a,.int .i64 b,.int .i64 c,.int .i64 d,.int .i64 e,.int .i64 f] 3 (0,0))):Calls Tryz.prog 67 #[.slice (some ⟨M,0,none⟩) 6 6] W fun r w'=>r=.returned (.int .i64 (Bn [a,b,c,d,e,f]))/\w'=W:=by
 refine orI (some ⟨M,0,none⟩) 6 [a,b,c,d,e,f] _ ⟨(fun h=>by cases h),Nat.le_refl _,by unfold maxLen;decide,fun _=>⟨M,0,rfl,(Array.getElem?_eq_some_iff.1 h).1,fun j u hj=>?_⟩⟩ (by simp)
 rw [Nat.zero_add,Xv h j]
 rw [zh] at hj
 simpa using hj
theorem kq {w:World} {M:Nat} {a0 a1 a2 a3 a4 a5:Value} {T:TypeId} (h:w.heap[M]? = some (.cells #[a0,a1,a2,a3,a4,a5] T (0,0))):w.cell? ⟨M,0,none⟩=some a0/\w.cell? ⟨M,1,none⟩=some a1/\w.cell? ⟨M,2,none⟩=some a2/\w.cell? ⟨M,3,none⟩=some a3/\w.cell? ⟨M,4,none⟩=some a4/\w.cell? ⟨M,5,none⟩=some a5:=by
 unfold World.cell?
 simp [h]
/-- Two predicates boxed. -/
theorem pa (w:World) (u v:Pv):∃ X,(w.alloc (.cells #[.int .i64 u.kind,.string u.attr,.slice u.qi u.ni u.ci,.slice u.qw u.nw u.cw,.int .i64 u.lo,.int .i64 u.hi] 26)).alloc (.cells #[.int .i64 v.kind,.string v.attr,.slice v.qi v.ni v.ci,.slice v.qw v.nw v.cw,.int .i64 v.lo,.int .i64 v.hi] 26)=X/\Below w.heap.size w X/\X.heap.size=w.heap.size + 2/\X.heap[w.heap.size]? = some (.cells #[.int .i64 u.kind,.string u.attr,.slice u.qi u.ni u.ci,.slice u.qw u.nw u.cw,.int .i64 u.lo,.int .i64 u.hi] 26 (0,0))/\X.heap[w.heap.size + 1]? = some (.cells #[.int .i64 v.kind,.string v.attr,.slice v.qi v.ni v.ci,.slice v.qw v.nw v.cw,.int .i64 v.lo,.int .i64 v.hi] 26 (0,0)):=by
 refine ⟨_,rfl,((Below.refl _ _).alloc (Nat.le_refl _) _).alloc (by simp) _,by simp, ?_, ?_⟩
 ·exact (((Below.refl _ _).alloc (Nat.le_refl _) _).block w.heap.size (by simp)).trans (World.alloc_heap_new _ _)
 ·have:=World.alloc_heap_new (w.alloc (.cells #[.int .i64 u.kind,.string u.attr,.slice u.qi u.ni u.ci,.slice u.qw u.nw u.cw,.int .i64 u.lo,.int .i64 u.hi] 26)) (.cells #[.int .i64 v.kind,.string v.attr,.slice v.qi v.ni v.ci,.slice v.qw v.nw v.cw,.int .i64 v.lo,.int .i64 v.hi] 26)
  rw [World.size_alloc] at this
  exact this
theorem Bf (u v:Pv) (w:World):Calls Tryz.prog 68 #[u.val,v.val] w fun e w'=>e=.returned (.int .i64 (kp u.attr v.attr))/\Below w.heap.size w w':=by
 unfold Pv.val
 obtain ⟨X,HX,bX,_,x8,x9⟩:=pa w u v
 obtain ⟨a0,a1,a2,a3,a4,a5⟩:=kq x8
 obtain ⟨b0,b1,b2,b3,b4,b5⟩:=kq x9
 have BX:=d9 bX
 clear bX x8 x9
 go_enter Tryz.func68,Tryz.ntmps68
 go_wp2_with (go_at_call 122;refine (Xe _ _ _).mono ?_;rintro e w1 ⟨rfl,rfl⟩)
 go_ret
 exact ⟨rfl,uh BX⟩
set_option maxHeartbeats 4000000 in
set_option maxRecDepth 100000 in
/-- conj.Compare. -/
theorem yn (u v:Pv) (p r:Pd) (w:World) (hu:PdIn w u p) (hv:PdIn w v r) (hs:p.small):Calls Tryz.prog 20 #[u.val,v.val] w fun e w'=>e=.returned (.int .i64 (pe p r))/\Below w.heap.size w w':=by
 have mixed:Tryz.prog.follows .mixedOrders=true:=by kernel_rfl
 obtain ⟨X,HX,bX,sX,x8,x9⟩:=pa w u v
 have HCX:∀ W',Below X.heap.size X W'->(W'.cell? ⟨w.heap.size,0,none⟩=some (.int .i64 u.kind)/\W'.cell? ⟨w.heap.size,1,none⟩=some (.string u.attr)/\W'.cell? ⟨w.heap.size,2,none⟩=some (.slice u.qi u.ni u.ci)/\W'.cell? ⟨w.heap.size,3,none⟩=some (.slice u.qw u.nw u.cw)/\W'.cell? ⟨w.heap.size,4,none⟩=some (.int .i64 u.lo)/\W'.cell? ⟨w.heap.size,5,none⟩=some (.int .i64 u.hi)/\W'.cell? ⟨w.heap.size + 1,0,none⟩=some (.int .i64 v.kind)/\W'.cell? ⟨w.heap.size + 1,1,none⟩=some (.string v.attr)/\W'.cell? ⟨w.heap.size + 1,2,none⟩=some (.slice v.qi v.ni v.ci)/\W'.cell? ⟨w.heap.size + 1,3,none⟩=some (.slice v.qw v.nw v.cw)/\W'.cell? ⟨w.heap.size + 1,4,none⟩=some (.int .i64 v.lo)/\W'.cell? ⟨w.heap.size + 1,5,none⟩=some (.int .i64 v.hi)):=fun W' hW=>by
  obtain ⟨a0,a1,a2,a3,a4,a5⟩:=kq ((hW.block w.heap.size (by omega)).trans x8)
  obtain ⟨b0,b1,b2,b3,b4,b5⟩:=kq ((hW.block (w.heap.size + 1) (by omega)).trans x9)
  exact ⟨a0,a1,a2,a3,a4,a5,b0,b1,b2,b3,b4,b5⟩
 obtain ⟨a0,a1,a2,a3,a4,a5,b0,b1,b2,b3,b4,b5⟩:=HCX X (Below.refl _ _)
 have hA:∀ W,Below X.heap.size X W->Calls Tryz.prog 68 #[.agg #[.int .i64 u.kind,.string u.attr,.slice u.qi u.ni u.ci,.slice u.qw u.nw u.cw,.int .i64 u.lo,.int .i64 u.hi],.agg #[.int .i64 v.kind,.string v.attr,.slice v.qi v.ni v.ci,.slice v.qw v.nw v.cw,.int .i64 v.lo,.int .i64 v.hi]] W fun e w'=>e=.returned (.int .i64 (kp u.attr v.attr))/\Below W.heap.size W w':=fun W _=>Bf u v W
 have hI:=fun (W:World) (hW:Below X.heap.size X W)=>Vo u.qi u.ci p.ints v.qi v.ci r.ints W (hu.2.2.2.2.2.2.1.below (d8 bX hW)) (hv.2.2.2.2.2.2.1.below (d8 bX hW)) (by have:=hs.1;omega)
 have hS:=fun (W:World) (hW:Below X.heap.size X W)=>Vs u.qw u.cw p.words v.qw v.cw r.words W (hu.2.2.2.2.2.2.2.below (d8 bX hW)) (hv.2.2.2.2.2.2.2.below (d8 bX hW)) (by have:=hs.2;omega)
 rw [<- hu.2.2.1,<- hv.2.2.1] at hI
 rw [<- hu.2.2.2.1,<- hv.2.2.2.1] at hS
 have HE:=d9 (show Bn [kp u.attr v.attr,kc u.kind v.kind,lc kc p.ints r.ints,lc kp p.words r.words,kc u.lo v.lo,kc u.hi v.hi]=pe p r by
  unfold pe
  rw [hu.1,hv.1,hu.2.1,hv.2.1,hu.2.2.2.2.1,hv.2.2.2.2.1,hu.2.2.2.2.2.1,hv.2.2.2.2.2.1])
 have BX:=d9 bX
 unfold Pv.val
 obtain ⟨z3,hz3⟩:∃ z,lc kc p.ints r.ints=z:=⟨_,rfl⟩
 obtain ⟨z4,hz4⟩:∃ z,lc kp p.words r.words=z:=⟨_,rfl⟩
 rw [hz3] at hI HE
 rw [hz4] at hS HE
 clear hz3 hz4 bX x8 x9 hu hv hs
 go_enter Tryz.func20,Tryz.ntmps20
 go_wp2
 go_region_held3 (fun W'=>W'.cell? ⟨w.heap.size,0,none⟩=some (.int .i64 u.kind)/\W'.cell? ⟨w.heap.size,1,none⟩=some (.string u.attr)/\W'.cell? ⟨w.heap.size,2,none⟩=some (.slice u.qi u.ni u.ci)/\W'.cell? ⟨w.heap.size,3,none⟩=some (.slice u.qw u.nw u.cw)/\W'.cell? ⟨w.heap.size,4,none⟩=some (.int .i64 u.lo)/\W'.cell? ⟨w.heap.size,5,none⟩=some (.int .i64 u.hi)/\W'.cell? ⟨w.heap.size + 1,0,none⟩=some (.int .i64 v.kind)/\W'.cell? ⟨w.heap.size + 1,1,none⟩=some (.string v.attr)/\W'.cell? ⟨w.heap.size + 1,2,none⟩=some (.slice v.qi v.ni v.ci)/\W'.cell? ⟨w.heap.size + 1,3,none⟩=some (.slice v.qw v.nw v.cw)/\W'.cell? ⟨w.heap.size + 1,4,none⟩=some (.int .i64 v.lo)/\W'.cell? ⟨w.heap.size + 1,5,none⟩=some (.int .i64 v.hi)) (first | exact HCX _ (Below.refl _ _) | exact HCX _ (Below.refl _ _).drew | exact HCX _ (Below.refl _ _).drew.drew | exact HCX _ (uh B1) | exact HCX _ (uh B1).drew | exact HCX _ (uh B1).drew.drew | exact HCX _ ((uh B1).alloc (uh B1).size _) | exact HCX _ ((uh B1).drew.alloc (uh B1).size _) | exact HCX _ ((uh B1).alloc (uh B1).size _).drew | go_keep) (first
  | (go_at_call 68;(with_reducible refine (hA _ (by first | exact (Below.refl _ _).drew | exact Below.refl _ _)).mono ?_);rintro e w1 ⟨rfl,b1⟩;have B1:=d9 (show Below X.heap.size X w1 by first | exact b1 | exact jd b1);clear b1)
  | (go_at_call 69;(with_reducible refine (C4 _ _ _).mono ?_);rintro e w2 ⟨rfl,rfl⟩)
  | (go_at_call 70;(with_reducible refine (hI _ (by first | exact uh B1 | exact (uh B1).drew | exact (uh B1).drew.drew | exact Below.refl _ _ | exact (Below.refl _ _).drew)).mono ?_);rintro e w2 ⟨rfl,rfl⟩)
  | (go_at_call 71;(with_reducible refine (hS _ (by first | exact uh B1 | exact (uh B1).drew | exact (uh B1).drew.drew | exact Below.refl _ _ | exact (Below.refl _ _).drew)).mono ?_);rintro e w2 ⟨rfl,rfl⟩)
  | (go_at_call 67;(with_reducible refine (zbl _ _ _ _ _ _ _ _ (World.alloc_heap_new _ _)).mono ?_);rintro e w2 ⟨rfl,rfl⟩))
 all_goals
  go_wp2
  go_ret
  first
   | exact ⟨jg (uh HE),d8 (uh BX) ((uh B1).alloc (uh B1).size _)⟩
   | exact ⟨jg (uh HE),d8 (uh BX) ((uh B1).alloc (uh B1).size _).drew⟩
   | exact ⟨jg (uh HE),d8 (uh BX) ((uh B1).drew.alloc (uh B1).size _)⟩
end Go.Proofs.YtimklglliffpcaaGreat
