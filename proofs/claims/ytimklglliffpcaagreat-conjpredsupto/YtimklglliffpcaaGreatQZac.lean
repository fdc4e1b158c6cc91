/- slices.BinarySearch over numbers. -/
import Derived.Test.YtimklglliffpcaaGreatQCjNorm
import Derived.Laws.IdiomCopy
import Derived.Deep.Cut
namespace Go.Proofs.YtimklglliffpcaaGreat
open Go.RowKit Go.Sort Go.Shelf
theorem zab (a b:Int) (w:World):Calls Tryz.prog 182 #[.int .i64 a,.int .i64 b] w fun e w'=>e=.returned (.bool (decide (a < b)))/\w'=w:=by
 go_enter Tryz.func182,Tryz.ntmps182
 go_wp2_with (go_at_call 123;refine (Cw _ _).mono ?_;rintro e w1 ⟨rfl,rfl⟩)
 go_ret
 exact ⟨rfl,rfl⟩
theorem Hw (a:Int) (w:World):Calls Tryz.prog 183 #[.int .i64 a] w fun e w'=>e=.returned (.bool false)/\w'=w:=by
 have h:(a != a)=false:=by simp
 go_enter Tryz.func183,Tryz.ntmps183
 go_wp2
 go_ret
 exact ⟨rfl,rfl⟩
/-- Not falling. -/
def WkI (l:List Int):Prop:=l.Pairwise (·<=·)
theorem WkI.at {l:List Int} (h:WkI l) {i j:Nat} {x y:Int} (hij:i<=j) (hx:l[i]? = some x) (hy:l[j]? = some y):x<=y:=by
 by_cases e:i=j
 ·subst e;rw [hx] at hy;cases hy;exact Int.le_refl _
 ·obtain ⟨hi,rfl⟩:=List.getElem?_eq_some_iff.1 hx
  obtain ⟨hj,rfl⟩:=List.getElem?_eq_some_iff.1 hy
  exact (List.pairwise_iff_getElem.1 h) i j hi hj (by omega)
theorem Yg {l:List Int} (h:WkI l) {p:Int} {i:Nat} (h1:∀ x,0 < i->l[i - 1]? = some x->x < p) (hi:i<=l.length) (h2:∀ x,l[i]? = some x->p<=x):p ∈ l ↔ l[i]? = some p:=by
 constructor
 ·intro hm
  obtain ⟨j,hj,e⟩:=List.getElem_of_mem hm
  have hjp:l[j]? = some p:=by rw [List.getElem?_eq_getElem hj,e]
  by_cases hji:j < i
  ·obtain ⟨z,hz,_⟩:=je (l:=l) (k:=i - 1) (by omega)
   have h3:=h1 z (by omega) hz
   have h4:=h.at (by omega) hjp hz
   omega
  ·obtain ⟨z,hz,_⟩:=je (l:=l) (k:=i) (by omega)
   have h3:=h2 z hz
   have h4:=h.at (by omega) hz hjp
   rw [hz];congr 1;omega
 ·intro e
  exact List.mem_of_getElem? e
set_option maxHeartbeats 2000000 in
set_option maxRecDepth 100000 in
theorem Zr (q:Option Addr) (c:Nat) (l:List Int) (p:Int) (w:World) (hs:SlOf jq 1 w q c l) (hl:l.length<=100000000000000) (hst:WkI l) :
  Calls Tryz.prog 151 #[.slice q l.length c,.int .i64 p] w fun e w'=>(∃ n:Nat,e=.returned (.tuple #[.int .i64 (n:Nat),.bool (decide (p ∈ l))]))/\w'=w:=by
 have HS:=d9 hs
 have HST:=d9 hst
 have l1:(l.length:Int)<=100000000000000:=by omega
 clear hs hst
 go_enter Tryz.func151,Tryz.ntmps151
 go_wp2
 go_loopw [7,8] (fun s9 s10 wr=>∃ lo hi:Nat,s9=.int .i64 lo/\s10=.int .i64 hi/\lo<=hi/\hi<=l.length/\(∀ x,0 < lo->l[lo - 1]? = some x->x < p)/\(∀ x,l[hi]? = some x->p<=x)/\wr=w) (fun s9 s10 _=>(intOf s10).toNat - (intOf s9).toNat)
 case atStart=>exact ⟨0,l.length,rfl,rfl,Nat.zero_le _,Nat.le_refl _,fun x h=>by omega,fun x h=>by simp at h,rfl⟩
 case round =>
  obtain ⟨lo,hi,rfl,rfl,hlh,hin,h1,h2,rfl⟩:=hrel
  have H1:=d9 h1
  have H2:=d9 h2
  by_cases hlt:lo < hi
  ·obtain ⟨m,hm,hm1,hm2⟩:∃ m:Nat,((lo:Int) + (hi:Int)) / 2=(m:Int)/\lo<=m/\m < hi:=⟨(lo + hi) / 2,by omega,by omega,by omega⟩
   obtain ⟨y,hy,_⟩:=je (l:=l) (k:=m) (by omega)
   obtain ⟨b,off,hq,hbs,c0⟩:=Yp (uh HS) hy
   have HY:=d9 hy
   have m0:(0:Int)<=(m:Int):=by omega
   have m1:(m:Int) < (l.length:Int):=by omega
   subst hq
   clear h1 h2 hy
   by_cases hyx:y < p
   ·have hd:decide (y < p)=true:=decide_eq_true hyx
    go_wp2_with (go_at_call 182;refine (zab _ _ _).mono ?_;rintro e w1 ⟨rfl,rfl⟩)
    go_roundw
    case rel=>exact ⟨m + 1,hi,by go_num,rfl,by omega,hin,fun x _ hx=>(by rw [Nat.add_sub_cancel,uh HY] at hx;cases hx;exact hyx),uh H2,trivial⟩
    case measure=>simp [intOf];omega
   ·have hd:decide (y < p)=false:=decide_eq_false hyx
    go_wp2_with (go_at_call 182;refine (zab _ _ _).mono ?_;rintro e w1 ⟨rfl,rfl⟩)
    go_roundw
    case rel=>exact ⟨lo,m,rfl,rfl,by omega,by omega,uh H1,fun x hx=>(by rw [uh HY] at hx;cases hx;omega),trivial⟩
    case measure=>simp [intOf];omega
  ·obtain rfl:hi=lo:=by omega
   have HE:=d9 (Yg (uh HST) h1 hin h2)
   by_cases hn:hi < l.length
   ·obtain ⟨y,hy,_⟩:=je (l:=l) (k:=hi) hn
    obtain ⟨b,off,hq,hbs,c0⟩:=Yp (uh HS) hy
    have hpy:p ∈ l ↔ y=p:=by rw [uh HE,hy];simp
    have HPY:=d9 hpy
    subst hq
    clear h1 h2 hy hpy
    by_cases e:y=p
    ·have e1:(y == p)=true:=by simpa using e
     have HR:=d9 (decide_eq_true ((uh HPY).2 e))
     clear e
     go_wp2_with (go_at_call 183;refine (Hw _ _).mono ?_;rintro e w1 ⟨rfl,rfl⟩)
     go_ret2
     exact ⟨⟨hi,by rw [uh HR];rfl⟩,rfl⟩
    ·have e1:(y == p)=false:=by simpa using e
     have HR:=d9 (decide_eq_false (fun h=>e ((uh HPY).1 h)))
     clear e
     go_wp2_with (go_at_call 183;refine (Hw _ _).mono ?_;rintro e w1 ⟨rfl,rfl⟩)
     go_ret2
     exact ⟨⟨hi,by rw [uh HR];rfl⟩,rfl⟩
   ·have HR:=d9 (show decide (p ∈ l)=false by
     refine decide_eq_false fun h=>?_
     have:=(uh HE).1 h
     rw [List.getElem?_eq_none (by omega)] at this;cases this)
    clear h1 h2
    go_wp2
    go_ret2
    exact ⟨⟨hi,by rw [uh HR];rfl⟩,rfl⟩
theorem zaw (a b:ByteArray):Op.bytesLess a.toList b.toList=decide (kp a b < 0):=by
 rw [ByteArray.toList_eq,ByteArray.toList_eq]
 rcases hb:Op.bytesLess a.data.toList b.data.toList with _ | _
 ·symm
  rw [decide_eq_false_iff_not]
  unfold kp ri
  rw [hb]
  rw [if_neg (by simp)]
  split <;> decide
 ·symm
  rw [decide_eq_true_iff]
  unfold kp
  rw [qy hb]
  decide
theorem Hj {v:ByteArray} {l:List ByteArray}:vx v l=true ↔ v ∈ l:=by
 unfold vx
 rw [List.any_eq_true]
 constructor
 ·rintro ⟨x,hx,h⟩
  by_cases e:v=x
  ·rw [e];exact hx
  ·rw [mg e] at h;cases h
 ·exact fun h=>⟨v,h,by simp⟩
theorem Gq {v:ByteArray} {l:List ByteArray} (h:¬ v ∈ l):vx v l=false:=by
 cases hs:vx v l with
 | false=>rfl
 | true=>exact absurd (Hj.1 hs) h
theorem zbo (a b:ByteArray) (w:World):Calls Tryz.prog 184 #[.string a,.string b] w fun e w'=>e=.returned (.bool (decide (kp a b < 0)))/\w'=w:=by
 have h:=zaw a b
 go_enter Tryz.func184,Tryz.ntmps184
 go_wp2_with (go_at_call 165;refine (yw _ _).mono ?_;rintro e w1 ⟨rfl,rfl⟩)
 go_ret
 exact ⟨rfl,rfl⟩
theorem zbe (a:ByteArray) (w:World):Calls Tryz.prog 185 #[.string a] w fun e w'=>e=.returned (.bool false)/\w'=w:=by
 have h:(a.toList == a.toList)=true:=by simp
 go_enter Tryz.func185,Tryz.ntmps185
 go_wp2
 go_ret
 exact ⟨by simp,rfl⟩
def WkS (l:List ByteArray):Prop:=l.Pairwise fun a b=>kp a b<=0
theorem WkS.at {l:List ByteArray} (h:WkS l) {i j:Nat} {x y:ByteArray} (hij:i<=j) (hx:l[i]? = some x) (hy:l[j]? = some y):kp x y<=0:=by
 by_cases e:i=j
 ·subst e;rw [hx] at hy;cases hy;rw [(isCmp_B.eq x x).2 rfl];exact Int.le_refl _
 ·obtain ⟨hi,rfl⟩:=List.getElem?_eq_some_iff.1 hx
  obtain ⟨hj,rfl⟩:=List.getElem?_eq_some_iff.1 hy
  exact (List.pairwise_iff_getElem.1 h) i j hi hj (by omega)
theorem Zu {l:List ByteArray} (h:WkS l) {p:ByteArray} {i:Nat} (h1:∀ x,0 < i->l[i - 1]? = some x->kp x p < 0) (hi:i<=l.length) (h2:∀ x,l[i]? = some x->kp p x<=0):p ∈ l ↔ l[i]? = some p:=by
 constructor
 ·intro hm
  obtain ⟨j,hj,e⟩:=List.getElem_of_mem hm
  have hjp:l[j]? = some p:=by rw [List.getElem?_eq_getElem hj,e]
  by_cases hji:j < i
  ·obtain ⟨z,hz,_⟩:=je (l:=l) (k:=i - 1) (by omega)
   have h3:=h1 z (by omega) hz
   have h4:=h.at (by omega) hjp hz
   have h5:=isCmp_B.neg p z
   omega
  ·obtain ⟨z,hz,_⟩:=je (l:=l) (k:=i) (by omega)
   have h3:=h2 z hz
   have h4:=h.at (by omega) hz hjp
   have h5:=isCmp_B.neg p z
   rw [hz,(isCmp_B.eq z p).1 (by omega)]
 ·intro e
  exact List.mem_of_getElem? e
set_option maxHeartbeats 2000000 in
set_option maxRecDepth 100000 in
theorem X1 (q:Option Addr) (c:Nat) (l:List ByteArray) (p:ByteArray) (w:World) (hs:SlOf jy 1 w q c l) (hl:l.length<=100000000000000) (hst:WkS l) :
  Calls Tryz.prog 153 #[.slice q l.length c,.string p] w fun e w'=>(∃ n:Nat,e=.returned (.tuple #[.int .i64 (n:Nat),.bool (vx p l)]))/\w'=w:=by
 have HS:=d9 hs
 have HST:=d9 hst
 have l1:(l.length:Int)<=100000000000000:=by omega
 clear hs hst
 go_enter Tryz.func153,Tryz.ntmps153
 go_wp2
 go_loopw [7,8] (fun s9 s10 wr=>∃ lo hi:Nat,s9=.int .i64 lo/\s10=.int .i64 hi/\lo<=hi/\hi<=l.length/\(∀ x,0 < lo->l[lo - 1]? = some x->kp x p < 0)/\(∀ x,l[hi]? = some x->kp p x<=0)/\wr=w) (fun s9 s10 _=>(intOf s10).toNat - (intOf s9).toNat)
 case atStart=>exact ⟨0,l.length,rfl,rfl,Nat.zero_le _,Nat.le_refl _,fun x h=>by omega,fun x h=>by simp at h,rfl⟩
 case round =>
  obtain ⟨lo,hi,rfl,rfl,hlh,hin,h1,h2,rfl⟩:=hrel
  have H1:=d9 h1
  have H2:=d9 h2
  by_cases hlt:lo < hi
  ·obtain ⟨m,hm,hm1,hm2⟩:∃ m:Nat,((lo:Int) + (hi:Int)) / 2=(m:Int)/\lo<=m/\m < hi:=⟨(lo + hi) / 2,by omega,by omega,by omega⟩
   obtain ⟨y,hy,_⟩:=je (l:=l) (k:=m) (by omega)
   obtain ⟨b,off,hq,hbs,c0⟩:=Y7 (uh HS) hy
   have HY:=d9 hy
   have m0:(0:Int)<=(m:Int):=by omega
   have m1:(m:Int) < (l.length:Int):=by omega
   subst hq
   clear h1 h2 hy
   by_cases hyx:kp y p < 0
   ·have hd:decide (kp y p < 0)=true:=decide_eq_true hyx
    go_wp2_with (go_at_call 184;refine (zbo _ _ _).mono ?_;rintro e w1 ⟨rfl,rfl⟩)
    go_roundw
    case rel=>exact ⟨m + 1,hi,by go_num,rfl,by omega,hin,fun x _ hx=>(by rw [Nat.add_sub_cancel,uh HY] at hx;cases hx;exact hyx),uh H2,trivial⟩
    case measure=>simp [intOf];omega
   ·have hd:decide (kp y p < 0)=false:=decide_eq_false hyx
    go_wp2_with (go_at_call 184;refine (zbo _ _ _).mono ?_;rintro e w1 ⟨rfl,rfl⟩)
    go_roundw
    case rel=>exact ⟨lo,m,rfl,rfl,by omega,by omega,uh H1,fun x hx=>(by rw [uh HY] at hx;cases hx;have:=isCmp_B.neg y p;omega),trivial⟩
    case measure=>simp [intOf];omega
  ·obtain rfl:hi=lo:=by omega
   have HE:=d9 (Zu (uh HST) h1 hin h2)
   by_cases hn:hi < l.length
   ·obtain ⟨y,hy,_⟩:=je (l:=l) (k:=hi) hn
    obtain ⟨b,off,hq,hbs,c0⟩:=Y7 (uh HS) hy
    have hpy:p ∈ l ↔ y=p:=by rw [uh HE,hy];simp
    have HPY:=d9 hpy
    subst hq
    clear h1 h2 hy hpy
    by_cases e:y=p
    ·have e1:(y.toList == p.toList)=true:=by simp [e]
     have HR:=d9 (Hj.2 ((uh HPY).2 e))
     clear e
     go_wp2_with (go_at_call 185;refine (zbe _ _).mono ?_;rintro e w1 ⟨rfl,rfl⟩)
     go_ret2
     exact ⟨⟨hi,by rw [uh HR];rfl⟩,rfl⟩
    ·have e1:(y.toList == p.toList)=false:=mg e
     have HR:=d9 (Gq (fun h=>e ((uh HPY).1 h)))
     clear e
     go_wp2_with (go_at_call 185;refine (zbe _ _).mono ?_;rintro e w1 ⟨rfl,rfl⟩)
     go_ret2
     exact ⟨⟨hi,by rw [uh HR];rfl⟩,rfl⟩
   ·have HR:=d9 (show vx p l=false by
     refine Gq fun h=>?_
     have:=(uh HE).1 h
     rw [List.getElem?_eq_none (by omega)] at this;cases this)
    clear h1 h2
    go_wp2
    go_ret2
    exact ⟨⟨hi,by rw [uh HR];rfl⟩,rfl⟩
end Go.Proofs.YtimklglliffpcaaGreat
namespace Go.Proofs.YtimklglliffpcaaGreat
open Go.RowKit Go.Sort Go.Shelf
def vI (x:Int):Value:=.int .i64 x
def vS (x:ByteArray):Value:=.string x
/-- A row of one-cell things that may be written. -/
def Rw {α:Type} (enc:α->Value) (w:World) (g:Nat) (l:List α):Prop:=g < w.heap.size/\∀ (j:Nat) (x:α),l[j]? = some x->w.cell? ⟨g,j,none⟩=some (enc x)/\w.frozen? ⟨g,j,none⟩=false
theorem Rw.kept {α:Type} {enc:α->Value} {w w':World} {g:Nat} {l:List α} (h:Rw enc w g l) (hs:w.heap.size<=w'.heap.size) (hb:w'.heap[g]? = w.heap[g]?):Rw enc w' g l :=
 ⟨Nat.lt_of_lt_of_le h.1 hs,fun j x hx=>⟨(World.cell?_of_block (a:=⟨g,j,none⟩) hb).trans (h.2 j x hx).1,(World.frozen?_of_block (a:=⟨g,j,none⟩) hb).trans (h.2 j x hx).2⟩⟩
theorem Rw.below {α:Type} {enc:α->Value} {w w':World} {g:Nat} {l:List α} (h:Rw enc w g l) (hb:Below w.heap.size w w'):Rw enc w' g l:=h.kept hb.size (hb.block g h.1)
theorem Rw.put {α:Type} {enc:α->Value} {w:World} {g:Nat} {l:List α} (h:Rw enc w g l) (k:Nat) (x:α) (hk:k < l.length):Rw enc (w.setCell ⟨g,k,none⟩ (enc x)) g (l.set k x):=by
 refine ⟨by simpa using h.1,fun j y hy=>?_⟩
 have hfz:(w.setCell ⟨g,k,none⟩ (enc x)).frozen? ⟨g,j,none⟩=w.frozen? ⟨g,j,none⟩:=by go_simp
 rw [hfz]
 by_cases e:j=k
 ·subst e
  rw [List.getElem?_set_self hk] at hy
  cases hy
  obtain ⟨z,hz,_⟩:=je hk
  obtain ⟨h1,h2⟩:=h.2 j z hz
  refine ⟨?_,h2⟩
  have:=World.cell?_setCells_in g [enc x] j w (fun t ht=>by
   obtain rfl:t=0:=by simpa using ht
   rw [Nat.add_zero,h1];rfl) 0 (by simp)
  simpa [World.setCells] using this
 ·rw [List.getElem?_set_ne (fun h=>e h.symm)] at hy
  obtain ⟨h1,h2⟩:=h.2 j y hy
  refine ⟨?_,h2⟩
  rw [World.cell?_setCell_other w ⟨g,k,none⟩ ⟨g,j,none⟩ (enc x) (by intro q;injection q with _ q2;exact e q2.symm)]
  exact h1
theorem sd (g:Nat):∀ (vs:List Value) (o:Nat) (w:World),True/\w.heap.size<=(w.setCells g o vs).heap.size
 | [],_,_=>⟨trivial,Nat.le_refl _⟩
 | v :: vs,o,w=>⟨trivial,by
  have:=(sd g vs (o + 1) (w.setCell ⟨g,o,none⟩ v)).2
  simpa [World.setCells] using this⟩
theorem Rw.cut {α:Type} {enc:α->Value} {w:World} {g:Nat} {l:List α} (h:Rw enc w g l) (k:Nat) (vs:List Value):Rw enc (w.setCells g k vs) g (l.take k):=by
 refine ⟨Nat.lt_of_lt_of_le h.1 (sd g vs k w).2,fun j x hx=>?_⟩
 have hj:j < k:=by
  by_cases hjk:j < k
  ·exact hjk
  ·rw [List.getElem?_eq_none (by rw [List.length_take];omega)] at hx
   cases hx
 rw [List.getElem?_take_of_lt hj] at hx
 obtain ⟨h1,h2⟩:=h.2 j x hx
 rw [World.frozen?_setCells,World.cell?_setCells_out g vs k w ⟨g,j,none⟩ (fun _ _=>Or.inl hj)]
 exact ⟨h1,h2⟩
theorem ji {w w':World} (h:Below w.heap.size w w') (r:Option Nat):w.grownBy w' r:=⟨h.os,h.tape,h.output,h.size,fun k hk _=>h.block k hk⟩
theorem j7 {w w1 w2:World} {r:Option Nat} (h:w.grownBy w1 r) (h2:w1.grownBy w2 r):w.grownBy w2 r:=⟨h2.os.trans h.os,h2.tape.trans h.tape,h2.output.trans h.output,Nat.le_trans h.size h2.size,fun k hk hr=>(h2.block k (Nat.lt_of_lt_of_le hk h.size) hr).trans (h.block k hk hr)⟩
theorem lz {w w':World} {g:Nat} (h:w.grownBy w' (some g)) (o:Nat) (v:Value):w.grownBy (w'.setCell ⟨g,o,none⟩ v) (some g):=by
 refine j7 h ⟨rfl,rfl,rfl,by simp,fun k _ hr=>?_⟩
 have hne:g ≠ k:=fun e=>hr (by rw [e])
 simp [World.setCell,Array.getElem?_modify,hne]
theorem sf {w w':World} {g:Nat} (h:w.grownBy w' (some g)) (vs:List Value) (o:Nat):w.grownBy (w'.setCells g o vs) (some g):=by
 induction vs generalizing w' o with
 | nil=>exact h
 | cons v vs ih=>exact ih (lz h o v) (o + 1)
def vy {α:Type} (p:α->Bool):List α->Nat
 | []=>0
 | x :: l=>if p x then 0 else vy p l + 1
def vz {α:Type} (p:α->Bool) (l:List α):Int:=if vy p l < l.length then (vy p l:Int) else -1
theorem Lu {α:Type} {p:α->Bool}:∀ {l:List α} {k:Nat} {x:α},(∀ (t:Nat) (y:α),t < k->l[t]? = some y->p y=false)->l[k]? = some x->p x=true->vy p l=k
 | [],k,x,_,hx,_=>by simp at hx
 | y :: l,0,x,_,hx,hp=>by
  simp at hx
  subst hx
  simp [vy,hp]
 | y :: l,k + 1,x,h,hx,hp=>by
  have h0:=h 0 y (by omega) rfl
  have ih:=Lu (l:=l) (k:=k) (x:=x) (fun t z ht hz=>h (t + 1) z (by omega) (by simpa using hz)) (by simpa using hx) hp
  simp [vy,h0,ih]
theorem E6 {α:Type} {p:α->Bool}:∀ {l:List α},(∀ (t:Nat) (y:α),l[t]? = some y->p y=false)->vy p l=l.length
 | [],_=>rfl
 | y :: l,h=>by
  have h0:=h 0 y rfl
  have ih:=E6 (l:=l) (fun t z hz=>h (t + 1) z (by simpa using hz))
  simp [vy,h0,ih]
theorem Bw {α:Type} {p:α->Bool} {l:List α} {k:Nat} {x:α} (h:∀ (t:Nat) (y:α),t < k->l[t]? = some y->p y=false) (hx:l[k]? = some x) (hp:p x=true):vz p l=(k:Int):=by
 have e:=Lu h hx hp
 unfold vz
 rw [e,if_pos (List.getElem?_eq_some_iff.1 hx).1]
theorem sh {α:Type} {p:α->Bool} {l:List α} (h:∀ (t:Nat) (y:α),l[t]? = some y->p y=false):vz p l=-1:=by
 unfold vz
 rw [E6 h,if_neg (by omega)]
theorem Fv {α:Type} {p:α->Bool}:∀ {l:List α},vy p l < l.length->∃ x,l[vy p l]? = some x/\p x=true/\((l.take (vy p l + 1)).filter fun x=>!p x)=l.take (vy p l)
  | [],h=>by simp at h
  | y :: l,h=>by
    cases hp:p y with
    | true=>exact ⟨y,by simp [vy,hp],hp,by simp [vy,hp]⟩
    | false =>
      have e:vy p (y :: l)=vy p l + 1:=by simp [vy,hp]
      rw [e] at h ⊢
      obtain ⟨x,h1,h2,h3⟩:=Fv (l:=l) (by simpa using h)
      refine ⟨x,by simpa using h1,h2, ?_⟩
      rw [List.take_succ_cons,List.take_succ_cons,List.filter_cons,hp]
      simpa using h3
theorem Da {α:Type} {p:α->Bool}:∀ {l:List α},¬ vy p l < l.length->(l.filter fun x=>!p x)=l
  | [],_=>rfl
  | y :: l,h=>by
    cases hp:p y with
    | true=>exact absurd (by simp [vy,hp]) h
    | false =>
      have e:vy p (y :: l)=vy p l + 1:=by simp [vy,hp]
      rw [e] at h
      rw [List.filter_cons,hp]
      simp only [Bool.not_false,if_true]
      rw [Da (l:=l) (by simpa using h)]
theorem zbs (w:World) (ty:TypeId) (g o n c:Nat) (hn:0 < n) (hc:∀ j,j < n * 1->(w.cell? ⟨g,o + j,none⟩).isSome=true) (hf:∀ j,j < n * 1->w.frozen? ⟨g,o + j,none⟩=false) :
  (Builtin.clear_ #[23] ty #[.slice (some ⟨g,o,none⟩) n c]).run Tryz.prog w=.ok (.tuple #[]) (w.setCells g o (Builtin.zeroCells #[.int .i64 0] n).toList):=by
 have hl:(Builtin.zeroCells #[.int .i64 0] n).toList.length=n * 1:=by rw [Array.length_toList,size_zeroCells];rfl
 have hst:=run_storeCells_cells (P:=Tryz.prog) g o (Builtin.zeroCells #[.int .i64 0] n).toList 0 w (by rw [hl];exact hc) (by rw [hl];exact hf) (by
  intro v hv'
  simp only [Builtin.zeroCells,Array.toList_map,List.mem_map] at hv'
  obtain ⟨i,_,rfl⟩:=hv'
  have hm:i % 1=0:=by omega
  simp only [List.size_toArray,List.length_cons,List.length_nil,Nat.zero_add]
  rw [hm]
  rfl)
 simp only [Nat.add_zero] at hst
 obtain ⟨m,rfl⟩:∃ m,n=m + 1:=⟨n - 1,by omega⟩
 have hv:=Tryz.zeroValue3
 simp [Builtin.clear_,run_underlying Tryz.underlying23,hv,Value.cells,hst]
set_option maxHeartbeats 1000000 in
set_option maxRecDepth 100000 in
theorem zcq (g cap M:Nat) (l:List Int) (p:Int->Bool) (w:World) (hr:Rw vI w g l) (hl:l.length<=100000000000000) (hP:∀ (W:World) (x:Int),w.grownBy W (some g)->Calls Tryz.prog 101 #[.int .i64 x,.pointer (some ⟨M,0,none⟩)] W fun e w'=>e=.returned (.bool (p x))/\Below W.heap.size W w') :
    Calls Tryz.prog 150 #[.slice (some ⟨g,0,none⟩) l.length cap,.func (.func 101) #[] #[.pointer (some ⟨M,0,none⟩)]] w fun e w'=>e=.returned (.int .i64 (vz p l))/\Below w.heap.size w w':=by
  have l1:(l.length:Int)<=100000000000000:=by omega
  have HR:=d9 hr
  clear hr
  go_enter Tryz.func150,Tryz.ntmps150
  go_wp2
  go_loopw [8] (fun i wr=>∃ k:Nat,k<=l.length/\i=.int .i64 k/\Hid (∀ (t:Nat) (x:Int),t < k->l[t]? = some x->p x=false)/\Hid (Below w.heap.size w wr)) (fun i _=>l.length - (intOf i).toNat)
  case atStart=>exact ⟨0,by omega,rfl,d9 (fun t x h=>absurd h (by omega)),d9 (Below.refl _ _)⟩
  case round =>
    obtain ⟨k,hk,rfl,HA,HB⟩:=hrel
    by_cases hlt:k < l.length
    · obtain ⟨x,hx,_⟩:=je hlt
      have hc:=(((uh HR).below (uh HB)).2 k x hx).1
      unfold vI at hc
      have ki0:(0:Int)<=(k:Int):=by omega
      have ki1:(k:Int) < (l.length:Int):=by omega
      have hD:=hP wr x (ji (uh HB) _)
      have HX:=d9 hx
      clear hx
      cases hin:p x with
      | true =>
        rw [hin] at hD
        have HN:=d9 (show (k:Int)=vz p l by rw [Bw (uh HA) (uh HX) hin])
        go_wp2_with (go_at_call 101;refine hD.mono ?_;rintro e w2 ⟨rfl,b2⟩;have B2:=d9 b2;clear b2)
        go_ret
        exact ⟨jg (uh HN),d8 (uh HB) (uh B2)⟩
      | false =>
        rw [hin] at hD
        go_wp2_with (go_at_call 101;refine hD.mono ?_;rintro e w2 ⟨rfl,b2⟩;have B2:=d9 b2;clear b2)
        go_roundw
        case rel =>
          exact ⟨k + 1,by omega,by go_num,d9 (fun t y ht hy=>by
            by_cases e:t=k
            · subst e
              rw [uh HX] at hy
              cases hy
              exact hin
            · exact uh HA t y (by omega) hy),d9 (d8 (uh HB) (uh B2))⟩
        case measure=>simp [intOf];omega
    · have ki1:¬ (k:Int) < (l.length:Int):=by omega
      have HN:=d9 (show -1=vz p l by rw [sh (fun t x h=>uh HA t x (by have:=(List.getElem?_eq_some_iff.1 h).1;omega) h)])
      go_wp2
      go_ret
      exact ⟨jg (uh HN),uh HB⟩
set_option maxHeartbeats 4000000 in
set_option maxRecDepth 100000 in
/-- slices.DeleteFunc of numbers. -/
theorem Nu (g cap M:Nat) (l:List Int) (p:Int->Bool) (w:World) (hr:Rw vI w g l) (hl:l.length<=100000000000000) (hcap:l.length<=cap) (hP:∀ (W:World) (x:Int),w.grownBy W (some g)->Calls Tryz.prog 101 #[.int .i64 x,.pointer (some ⟨M,0,none⟩)] W fun e w'=>e=.returned (.bool (p x))/\Below W.heap.size W w') :
    Calls Tryz.prog 100 #[.slice (some ⟨g,0,none⟩) l.length cap,.func (.func 101) #[] #[.pointer (some ⟨M,0,none⟩)]] w fun e w'=>e=.returned (.slice (some ⟨g,0,none⟩) (l.filter fun x=>!p x).length cap)/\Rw vI w' g (l.filter fun x=>!p x)/\w.grownBy w' (some g):=by
  have hI:=zcq g cap M l p w hr hl hP
  have i3:(l.length:Int)<=100000000000000:=by omega
  have HR:=d9 hr
  by_cases hf:vy p l < l.length
  · obtain ⟨x0,hx0,hin0,hfil⟩:=Fv hf
    obtain ⟨i0,hi0⟩:∃ i0,vy p l=i0:=⟨_,rfl⟩
    have hidx:vz p l=(i0:Int):=by unfold vz;rw [if_pos hf,hi0]
    rw [hidx] at hI
    rw [hi0] at hfil hf
    have ne1:((i0:Int) == -1)=false:=by rw [beq_eq_false_iff_ne];omega
    have HFIL:=d9 hfil
    have i0l:(i0:Int)<=100000000000000:=by omega
    clear hr hidx hfil hx0 hi0
    go_enter Tryz.func100,Tryz.ntmps100
    go_wp2_with (go_at_call 150;refine hI.mono ?_;rintro e w1 ⟨rfl,b1⟩;have G1:=d9 (ji b1 (some g));have HR1:=d9 ((uh HR).below b1);clear b1)
    go_loopw [5,6] (fun a b wr=>∃ (k j:Nat) (d:List Int),j<=l.length/\k < j/\a=.int .i64 (k:Int)/\b=.int .i64 (j:Int)/\Hid (d.length=l.length)/\Hid (((l.take j).filter fun x=>!p x).length=k)/\Hid (d.take k=(l.take j).filter fun x=>!p x)/\Hid (∀ t,j<=t->d[t]? = l[t]?)/\Hid (Rw vI wr g d)/\Hid (w.grownBy wr (some g))) (fun _ b _=>l.length - (intOf b).toNat)
    case atStart=>exact ⟨i0,i0 + 1,l,by omega,by omega,rfl,by go_num,d9 rfl,d9 (by rw [uh HFIL,List.length_take];omega),d9 (uh HFIL).symm,d9 (fun _ _=>rfl),HR1,G1⟩
    case round =>
      obtain ⟨k,j,d,hj,hkj,rfl,rfl,HD,HK,HDK,HDI,HO,HG⟩:=hrel
      have k0:(0:Int)<=(k:Int):=by omega
      have k1:(k:Int) < (l.length:Int):=by omega
      have k2:(k:Int)<=(l.length:Int):=by omega
      have k3:(k:Int)<=100000000000000:=by omega
      have j0:(0:Int)<=(j:Int):=by omega
      by_cases hlt:j < l.length
      · obtain ⟨x,hx,_⟩:=je hlt
        have a0:=((uh HO).2 j x ((uh HDI _ (Nat.le_refl _)).trans hx)).1
        unfold vI at a0
        have j1:(j:Int) < (l.length:Int):=by omega
        have hD:=hP wr x (uh HG)
        have HXX:=d9 hx
        cases hin:p x with
        | false =>
          rw [hin] at hD
          have HN:=d9 (show ((l.take (j + 1)).filter fun x=>!p x)=((l.take j).filter fun x=>!p x) ++ [x] by rw [jh hx,List.filter_append];simp [hin])
          clear hx
          go_wp2_with (go_at_call 101;refine hD.mono ?_;rintro e w2 ⟨rfl,b2⟩;have HOY:=d9 ((uh HO).below b2);have HGY:=d9 (j7 (uh HG) (ji b2 (some g)) );(obtain ⟨z,hz,_⟩:=je (l:=d) (k:=k) (by have:=uh HD;omega));have z0:=((uh HOY).2 k z hz).1;have z1:=((uh HOY).2 k z hz).2;unfold vI at z0;clear b2 hz)
          go_roundw
          case rel=>exact ⟨k + 1,j + 1,d.set k x,by omega,by omega,by go_num,by go_num,d9 (by rw [List.length_set];exact uh HD),d9 (by rw [uh HN,List.length_append,uh HK];rfl),d9 (by rw [uh HN,<- uh HDK,jh (x:=x) (by rw [List.getElem?_set_self (by have:=uh HD;omega)]),List.take_set_of_le (Nat.le_refl k)]),d9 (fun t ht=>by rw [List.getElem?_set_ne (by omega)];exact uh HDI t (by omega)),d9 ((uh HOY).put k x (by have:=uh HD;omega)),d9 (lz (uh HGY) k _)⟩
          case measure=>simp [intOf];omega
        | true =>
          rw [hin] at hD
          have HN:=d9 (show ((l.take (j + 1)).filter fun x=>!p x)=((l.take j).filter fun x=>!p x) by rw [jh hx,List.filter_append];simp [hin])
          clear hx
          go_wp2_with (go_at_call 101;refine hD.mono ?_;rintro e w2 ⟨rfl,b2⟩;have HOY:=d9 ((uh HO).below b2);have HGY:=d9 (j7 (uh HG) (ji b2 (some g)));clear b2)
          go_roundw
          case rel=>exact ⟨k,j + 1,d,by omega,by omega,rfl,by go_num,HD,d9 (by rw [uh HN];exact uh HK),d9 (by rw [uh HN];exact uh HDK),d9 (fun t ht=>uh HDI t (by omega)),HOY,HGY⟩
          case measure=>simp [intOf];omega
      · have j1:¬ (j:Int) < (l.length:Int):=by omega
        have e1:l.take j=l:=List.take_of_length_le (by omega)
        have HE:=d9 e1
        obtain ⟨n3,hn3⟩:∃ n3,l.length - k=n3:=⟨_,rfl⟩
        obtain ⟨c3,hc3⟩:∃ c3,cap - k=c3:=⟨_,rfl⟩
        have nc4:¬ cap=k:=by omega
        have nc5:(k:Int)<=(cap:Int):=by omega
        have nc3:(l.length:Int)<=(cap:Int):=by omega
        have hcl:=fun ty=>zbs wr ty g k n3 c3 (by omega) (fun t ht=>by
          obtain ⟨u,hu,_⟩:=je (l:=d) (k:=k + t) (by have:=uh HD;omega)
          rw [((uh HO).2 _ u hu).1];rfl) (fun t ht=>by
          obtain ⟨u,hu,_⟩:=je (l:=d) (k:=k + t) (by have:=uh HD;omega)
          exact ((uh HO).2 _ u hu).2)
        generalize hvs:(Builtin.zeroCells #[.int .i64 0] n3).toList=vs at hcl
        clear e1 hvs
        go_wp2
        go_ret
        have hke:(l.filter fun x=>!p x).length=k:=by have:=uh HK;rw [uh HE] at this;exact this
        have hde:d.take k=l.filter fun x=>!p x:=by have:=uh HDK;rw [uh HE] at this;exact this
        refine ⟨by rw [hke];rfl, ?_,sf (uh HG) vs k⟩
        have:=(uh HO).cut k vs
        rw [hde] at this
        exact this
  · have hidx:vz p l=-1:=by unfold vz;rw [if_neg hf]
    rw [hidx] at hI
    have HA:=d9 (Da hf)
    clear hr hidx
    go_enter Tryz.func100,Tryz.ntmps100
    go_wp2_with (go_at_call 150;refine hI.mono ?_;rintro e w1 ⟨rfl,b1⟩;have B1:=d9 b1;clear b1)
    go_ret
    rw [uh HA]
    exact ⟨rfl,(uh HR).below (uh B1),ji (uh B1) _⟩
theorem zap (w:World) (ty:TypeId) (g o n c:Nat) (hn:0 < n) (hc:∀ j,j < n * 1->(w.cell? ⟨g,o + j,none⟩).isSome=true) (hf:∀ j,j < n * 1->w.frozen? ⟨g,o + j,none⟩=false) :
  (Builtin.clear_ #[24] ty #[.slice (some ⟨g,o,none⟩) n c]).run Tryz.prog w=.ok (.tuple #[]) (w.setCells g o (Builtin.zeroCells #[.string ⟨#[]⟩] n).toList):=by
 have hl:(Builtin.zeroCells #[.string ⟨#[]⟩] n).toList.length=n * 1:=by rw [Array.length_toList,size_zeroCells];rfl
 have hst:=run_storeCells_cells (P:=Tryz.prog) g o (Builtin.zeroCells #[.string ⟨#[]⟩] n).toList 0 w (by rw [hl];exact hc) (by rw [hl];exact hf) (by
  intro v hv'
  simp only [Builtin.zeroCells,Array.toList_map,List.mem_map] at hv'
  obtain ⟨i,_,rfl⟩:=hv'
  have hm:i % 1=0:=by omega
  simp only [List.size_toArray,List.length_cons,List.length_nil,Nat.zero_add]
  rw [hm]
  rfl)
 simp only [Nat.add_zero] at hst
 obtain ⟨m,rfl⟩:∃ m,n=m + 1:=⟨n - 1,by omega⟩
 have hv:=Tryz.zeroValue9
 simp [Builtin.clear_,run_underlying Tryz.underlying24,hv,Value.cells,hst]
set_option maxHeartbeats 1000000 in
set_option maxRecDepth 100000 in
theorem zcr (g cap M:Nat) (l:List ByteArray) (p:ByteArray->Bool) (w:World) (hr:Rw vS w g l) (hl:l.length<=100000000000000) (hP:∀ (W:World) (x:ByteArray),w.grownBy W (some g)->Calls Tryz.prog 104 #[.string x,.pointer (some ⟨M,0,none⟩)] W fun e w'=>e=.returned (.bool (p x))/\Below W.heap.size W w') :
    Calls Tryz.prog 152 #[.slice (some ⟨g,0,none⟩) l.length cap,.func (.func 104) #[] #[.pointer (some ⟨M,0,none⟩)]] w fun e w'=>e=.returned (.int .i64 (vz p l))/\Below w.heap.size w w':=by
  have l1:(l.length:Int)<=100000000000000:=by omega
  have HR:=d9 hr
  clear hr
  go_enter Tryz.func152,Tryz.ntmps152
  go_wp2
  go_loopw [8] (fun i wr=>∃ k:Nat,k<=l.length/\i=.int .i64 k/\Hid (∀ (t:Nat) (x:ByteArray),t < k->l[t]? = some x->p x=false)/\Hid (Below w.heap.size w wr)) (fun i _=>l.length - (intOf i).toNat)
  case atStart=>exact ⟨0,by omega,rfl,d9 (fun t x h=>absurd h (by omega)),d9 (Below.refl _ _)⟩
  case round =>
    obtain ⟨k,hk,rfl,HA,HB⟩:=hrel
    by_cases hlt:k < l.length
    · obtain ⟨x,hx,_⟩:=je hlt
      have hc:=(((uh HR).below (uh HB)).2 k x hx).1
      unfold vS at hc
      have ki0:(0:Int)<=(k:Int):=by omega
      have ki1:(k:Int) < (l.length:Int):=by omega
      have hD:=hP wr x (ji (uh HB) _)
      have HX:=d9 hx
      clear hx
      cases hin:p x with
      | true =>
        rw [hin] at hD
        have HN:=d9 (show (k:Int)=vz p l by rw [Bw (uh HA) (uh HX) hin])
        go_wp2_with (go_at_call 104;refine hD.mono ?_;rintro e w2 ⟨rfl,b2⟩;have B2:=d9 b2;clear b2)
        go_ret
        exact ⟨jg (uh HN),d8 (uh HB) (uh B2)⟩
      | false =>
        rw [hin] at hD
        go_wp2_with (go_at_call 104;refine hD.mono ?_;rintro e w2 ⟨rfl,b2⟩;have B2:=d9 b2;clear b2)
        go_roundw
        case rel =>
          exact ⟨k + 1,by omega,by go_num,d9 (fun t y ht hy=>by
            by_cases e:t=k
            · subst e
              rw [uh HX] at hy
              cases hy
              exact hin
            · exact uh HA t y (by omega) hy),d9 (d8 (uh HB) (uh B2))⟩
        case measure=>simp [intOf];omega
    · have ki1:¬ (k:Int) < (l.length:Int):=by omega
      have HN:=d9 (show -1=vz p l by rw [sh (fun t x h=>uh HA t x (by have:=(List.getElem?_eq_some_iff.1 h).1;omega) h)])
      go_wp2
      go_ret
      exact ⟨jg (uh HN),uh HB⟩
set_option maxHeartbeats 4000000 in
set_option maxRecDepth 100000 in
/-- slices.DeleteFunc of words. -/
theorem Qg (g cap M:Nat) (l:List ByteArray) (p:ByteArray->Bool) (w:World) (hr:Rw vS w g l) (hl:l.length<=100000000000000) (hcap:l.length<=cap) (hP:∀ (W:World) (x:ByteArray),w.grownBy W (some g)->Calls Tryz.prog 104 #[.string x,.pointer (some ⟨M,0,none⟩)] W fun e w'=>e=.returned (.bool (p x))/\Below W.heap.size W w') :
    Calls Tryz.prog 103 #[.slice (some ⟨g,0,none⟩) l.length cap,.func (.func 104) #[] #[.pointer (some ⟨M,0,none⟩)]] w fun e w'=>e=.returned (.slice (some ⟨g,0,none⟩) (l.filter fun x=>!p x).length cap)/\Rw vS w' g (l.filter fun x=>!p x)/\w.grownBy w' (some g):=by
  have hI:=zcr g cap M l p w hr hl hP
  have i3:(l.length:Int)<=100000000000000:=by omega
  have HR:=d9 hr
  by_cases hf:vy p l < l.length
  · obtain ⟨x0,hx0,hin0,hfil⟩:=Fv hf
    obtain ⟨i0,hi0⟩:∃ i0,vy p l=i0:=⟨_,rfl⟩
    have hidx:vz p l=(i0:Int):=by unfold vz;rw [if_pos hf,hi0]
    rw [hidx] at hI
    rw [hi0] at hfil hf
    have ne1:((i0:Int) == -1)=false:=by rw [beq_eq_false_iff_ne];omega
    have HFIL:=d9 hfil
    have i0l:(i0:Int)<=100000000000000:=by omega
    clear hr hidx hfil hx0 hi0
    go_enter Tryz.func103,Tryz.ntmps103
    go_wp2_with (go_at_call 152;refine hI.mono ?_;rintro e w1 ⟨rfl,b1⟩;have G1:=d9 (ji b1 (some g));have HR1:=d9 ((uh HR).below b1);clear b1)
    go_loopw [5,6] (fun a b wr=>∃ (k j:Nat) (d:List ByteArray),j<=l.length/\k < j/\a=.int .i64 (k:Int)/\b=.int .i64 (j:Int)/\Hid (d.length=l.length)/\Hid (((l.take j).filter fun x=>!p x).length=k)/\Hid (d.take k=(l.take j).filter fun x=>!p x)/\Hid (∀ t,j<=t->d[t]? = l[t]?)/\Hid (Rw vS wr g d)/\Hid (w.grownBy wr (some g))) (fun _ b _=>l.length - (intOf b).toNat)
    case atStart=>exact ⟨i0,i0 + 1,l,by omega,by omega,rfl,by go_num,d9 rfl,d9 (by rw [uh HFIL,List.length_take];omega),d9 (uh HFIL).symm,d9 (fun _ _=>rfl),HR1,G1⟩
    case round =>
      obtain ⟨k,j,d,hj,hkj,rfl,rfl,HD,HK,HDK,HDI,HO,HG⟩:=hrel
      have k0:(0:Int)<=(k:Int):=by omega
      have k1:(k:Int) < (l.length:Int):=by omega
      have k2:(k:Int)<=(l.length:Int):=by omega
      have k3:(k:Int)<=100000000000000:=by omega
      have j0:(0:Int)<=(j:Int):=by omega
      by_cases hlt:j < l.length
      · obtain ⟨x,hx,_⟩:=je hlt
        have a0:=((uh HO).2 j x ((uh HDI _ (Nat.le_refl _)).trans hx)).1
        unfold vS at a0
        have j1:(j:Int) < (l.length:Int):=by omega
        have hD:=hP wr x (uh HG)
        have HXX:=d9 hx
        cases hin:p x with
        | false =>
          rw [hin] at hD
          have HN:=d9 (show ((l.take (j + 1)).filter fun x=>!p x)=((l.take j).filter fun x=>!p x) ++ [x] by rw [jh hx,List.filter_append];simp [hin])
          clear hx
          go_wp2_with (go_at_call 104;refine hD.mono ?_;rintro e w2 ⟨rfl,b2⟩;have HOY:=d9 ((uh HO).below b2);have HGY:=d9 (j7 (uh HG) (ji b2 (some g)) );(obtain ⟨z,hz,_⟩:=je (l:=d) (k:=k) (by have:=uh HD;omega));have z0:=((uh HOY).2 k z hz).1;have z1:=((uh HOY).2 k z hz).2;unfold vS at z0;clear b2 hz)
          go_roundw
          case rel=>exact ⟨k + 1,j + 1,d.set k x,by omega,by omega,by go_num,by go_num,d9 (by rw [List.length_set];exact uh HD),d9 (by rw [uh HN,List.length_append,uh HK];rfl),d9 (by rw [uh HN,<- uh HDK,jh (x:=x) (by rw [List.getElem?_set_self (by have:=uh HD;omega)]),List.take_set_of_le (Nat.le_refl k)]),d9 (fun t ht=>by rw [List.getElem?_set_ne (by omega)];exact uh HDI t (by omega)),d9 ((uh HOY).put k x (by have:=uh HD;omega)),d9 (lz (uh HGY) k _)⟩
          case measure=>simp [intOf];omega
        | true =>
          rw [hin] at hD
          have HN:=d9 (show ((l.take (j + 1)).filter fun x=>!p x)=((l.take j).filter fun x=>!p x) by rw [jh hx,List.filter_append];simp [hin])
          clear hx
          go_wp2_with (go_at_call 104;refine hD.mono ?_;rintro e w2 ⟨rfl,b2⟩;have HOY:=d9 ((uh HO).below b2);have HGY:=d9 (j7 (uh HG) (ji b2 (some g)));clear b2)
          go_roundw
          case rel=>exact ⟨k,j + 1,d,by omega,by omega,rfl,by go_num,HD,d9 (by rw [uh HN];exact uh HK),d9 (by rw [uh HN];exact uh HDK),d9 (fun t ht=>uh HDI t (by omega)),HOY,HGY⟩
          case measure=>simp [intOf];omega
      · have j1:¬ (j:Int) < (l.length:Int):=by omega
        have e1:l.take j=l:=List.take_of_length_le (by omega)
        have HE:=d9 e1
        obtain ⟨n3,hn3⟩:∃ n3,l.length - k=n3:=⟨_,rfl⟩
        obtain ⟨c3,hc3⟩:∃ c3,cap - k=c3:=⟨_,rfl⟩
        have nc4:¬ cap=k:=by omega
        have nc5:(k:Int)<=(cap:Int):=by omega
        have nc3:(l.length:Int)<=(cap:Int):=by omega
        have hcl:=fun ty=>zap wr ty g k n3 c3 (by omega) (fun t ht=>by
          obtain ⟨u,hu,_⟩:=je (l:=d) (k:=k + t) (by have:=uh HD;omega)
          rw [((uh HO).2 _ u hu).1];rfl) (fun t ht=>by
          obtain ⟨u,hu,_⟩:=je (l:=d) (k:=k + t) (by have:=uh HD;omega)
          exact ((uh HO).2 _ u hu).2)
        generalize hvs:(Builtin.zeroCells #[.string ⟨#[]⟩] n3).toList=vs at hcl
        clear e1 hvs
        go_wp2
        go_ret
        have hke:(l.filter fun x=>!p x).length=k:=by have:=uh HK;rw [uh HE] at this;exact this
        have hde:d.take k=l.filter fun x=>!p x:=by have:=uh HDK;rw [uh HE] at this;exact this
        refine ⟨by rw [hke];rfl, ?_,sf (uh HG) vs k⟩
        have:=(uh HO).cut k vs
        rw [hde] at this
        exact this
  · have hidx:vz p l=-1:=by unfold vz;rw [if_neg hf]
    rw [hidx] at hI
    have HA:=d9 (Da hf)
    clear hr hidx
    go_enter Tryz.func103,Tryz.ntmps103
    go_wp2_with (go_at_call 152;refine hI.mono ?_;rintro e w1 ⟨rfl,b1⟩;have B1:=d9 b1;clear b1)
    go_ret
    rw [uh HA]
    exact ⟨rfl,(uh HR).below (uh B1),ji (uh B1) _⟩
end Go.Proofs.YtimklglliffpcaaGreat
namespace Go.Proofs.YtimklglliffpcaaGreat
open Go.RowKit Go.Sort Go.Shelf
theorem xj (w:World) (u:Pv):∃ X,w.alloc (.cells #[.int .i64 u.kind,.string u.attr,.slice u.qi u.ni u.ci,.slice u.qw u.nw u.cw,.int .i64 u.lo,.int .i64 u.hi] 26)=X/\Below w.heap.size w X/\X.heap[w.heap.size]? = some (.cells #[.int .i64 u.kind,.string u.attr,.slice u.qi u.ni u.ci,.slice u.qw u.nw u.cw,.int .i64 u.lo,.int .i64 u.hi] 26 (0,0)) :=
 ⟨_,rfl,(Below.refl _ _).alloc (Nat.le_refl _) _,World.alloc_heap_new _ _⟩
/-- What of a normal predicate its members' calls lean on. -/
def Nrm (p:Pd):Prop:=WkI p.ints/\WkS p.words/\p.ints.length<=1000000000/\p.words.length<=1000000000/\(p.kind=4->∃ s,p.words=[s])
def qa (b:Pd) (x:Int):Bool:=if b.kind=3 then decide (b.lo<=x) && decide (x<=b.hi) else decide (x ∈ b.ints)
def sm (b:Pd):ByteArray:=b.words.headD ⟨#[]⟩
def r8 (b:Pd) (s:ByteArray):Bool:=if b.kind=4 then ll s (sm b) else vx s b.words
theorem D8 (u:Pv) (w:World):Calls Tryz.prog 99 #[u.val] w fun e w'=>e=.returned (.bool (decide (u.kind=1) || decide (u.kind=2)))/\Below w.heap.size w w':=by
 unfold Pv.val
 obtain ⟨X,HX,bX,x8⟩:=xj w u
 obtain ⟨a0,a1,a2,a3,a4,a5⟩:=kq x8
 have BX:=d9 bX
 clear bX x8
 by_cases h1:u.kind=1
 ·have k1:(u.kind == 1)=true:=by simpa using h1
  have HR:=d9 (show (decide (u.kind=1) || decide (u.kind=2))=true by simp [h1])
  clear h1
  go_enter Tryz.func99,Tryz.ntmps99
  go_wp2
  go_ret
  exact ⟨jb (uh HR).symm,uh BX⟩
 ·have k1:(u.kind == 1)=false:=by simpa using h1
  by_cases h2:u.kind=2
  ·have k2:(u.kind == 2)=true:=by simpa using h2
   have HR:=d9 (show (decide (u.kind=1) || decide (u.kind=2))=true by simp [h2])
   clear h1 h2
   go_enter Tryz.func99,Tryz.ntmps99
   go_wp2
   go_ret
   exact ⟨jb (uh HR).symm,uh BX⟩
  ·have k2:(u.kind == 2)=false:=by simpa using h2
   have HR:=d9 (show (decide (u.kind=1) || decide (u.kind=2))=false by simp [h1,h2])
   clear h1 h2
   go_enter Tryz.func99,Tryz.ntmps99
   go_wp2
   go_ret
   exact ⟨jb (uh HR).symm,uh BX⟩
set_option maxHeartbeats 1000000 in
theorem Qw (u:Pv) (b:Pd) (x:Int) (w:World) (hu:PdIn w u b) (hn:Nrm b):Calls Tryz.prog 102 #[u.val,.int .i64 x] w fun e w'=>e=.returned (.bool (qa b x))/\Below w.heap.size w w':=by
 unfold Pv.val
 obtain ⟨X,HX,bX,x8⟩:=xj w u
 obtain ⟨a0,a1,a2,a3,a4,a5⟩:=kq x8
 have BX:=d9 bX
 have hS:=Zr u.qi u.ci b.ints x X (hu.2.2.2.2.2.2.1.below bX) (by have:=hn.2.2.1;omega) hn.1
 rw [<- hu.2.2.1] at hS
 have hk:=hu.1
 have hlo:=hu.2.2.2.2.1
 have hhi:=hu.2.2.2.2.2.1
 clear bX x8 hu hn
 by_cases h3:b.kind=3
 ·have k3:(u.kind == 3)=true:=by rw [hk];simpa using h3
  by_cases c1:u.lo<=x
  ·by_cases c2:x<=u.hi
   ·have HR:=d9 (show qa b x=true by unfold qa;rw [if_pos h3];simp;omega)
    clear h3 hk hlo hhi hS
    go_enter Tryz.func102,Tryz.ntmps102
    go_wp2
    go_ret
    exact ⟨jb (uh HR).symm,uh BX⟩
   ·have HR:=d9 (show qa b x=false by unfold qa;rw [if_pos h3];simp;omega)
    clear h3 hk hlo hhi hS
    go_enter Tryz.func102,Tryz.ntmps102
    go_wp2
    go_ret
    exact ⟨jb (uh HR).symm,uh BX⟩
  ·have HR:=d9 (show qa b x=false by unfold qa;rw [if_pos h3];simp;omega)
   clear h3 hk hlo hhi hS
   go_enter Tryz.func102,Tryz.ntmps102
   go_wp2
   go_ret
   exact ⟨jb (uh HR).symm,uh BX⟩
 ·have k3:(u.kind == 3)=false:=by rw [hk];simpa using h3
  have HR:=d9 (show qa b x=decide (x ∈ b.ints) by unfold qa;rw [if_neg h3])
  obtain ⟨r,hr⟩:∃ r,decide (x ∈ b.ints)=r:=⟨_,rfl⟩
  rw [hr] at hS HR
  clear h3 hk hlo hhi hr
  go_enter Tryz.func102,Tryz.ntmps102
  go_wp2_with (go_at_call 151;refine hS.mono ?_;rintro e w1 ⟨⟨n,rfl⟩,rfl⟩)
  go_ret
  exact ⟨jb (uh HR).symm,uh BX⟩
set_option maxHeartbeats 1000000 in
theorem Ve (u:Pv) (b:Pd) (x:ByteArray) (w:World) (hu:PdIn w u b) (hn:Nrm b):Calls Tryz.prog 105 #[u.val,.string x] w fun e w'=>e=.returned (.bool (r8 b x))/\Below w.heap.size w w':=by
 unfold Pv.val
 obtain ⟨X,HX,bX,x8⟩:=xj w u
 obtain ⟨a0,a1,a2,a3,a4,a5⟩:=kq x8
 have BX:=d9 bX
 have hS:=X1 u.qw u.cw b.words x X (hu.2.2.2.2.2.2.2.below bX) (by have:=hn.2.2.2.1;omega) hn.2.1
 rw [<- hu.2.2.2.1] at hS
 have hk:=hu.1
 by_cases h4:b.kind=4
 ·obtain ⟨s,hs⟩:=hn.2.2.2.2 h4
  obtain ⟨bw,ow,hq,hbw,hcw⟩:=j6 (hu.2.2.2.2.2.2.2.below bX) (j:=0) (x:=s) (by rw [hs];rfl)
  have k4:(u.kind == 4)=true:=by rw [hk];simpa using h4
  have hnw:u.nw=1:=by rw [hu.2.2.2.1,hs];rfl
  have HR:=d9 (show r8 b x=ll x s by unfold r8 sm;rw [if_pos h4,hs];rfl)
  rw [hq,hnw] at a3
  rw [Nat.add_zero] at hcw
  clear bX x8 hu hn hk h4 hs hS hq hnw
  go_enter Tryz.func105,Tryz.ntmps105
  go_wp2_with (go_at_call 90;refine (lu x s _).mono ?_;rintro e w1 ⟨rfl,b1⟩;have B1:=d9 b1;clear b1)
  go_ret
  exact ⟨jb (uh HR).symm,d8 (uh BX) (uh B1)⟩
 ·have k4:(u.kind == 4)=false:=by rw [hk];simpa using h4
  have HR:=d9 (show r8 b x=vx x b.words by unfold r8;rw [if_neg h4])
  obtain ⟨r,hr⟩:∃ r,vx x b.words=r:=⟨_,rfl⟩
  rw [hr] at hS HR
  clear bX x8 hu hn hk h4 hr
  go_enter Tryz.func105,Tryz.ntmps105
  go_wp2_with (go_at_call 153;refine hS.mono ?_;rintro e w1 ⟨⟨n,rfl⟩,rfl⟩)
  go_ret
  exact ⟨jb (uh HR).symm,uh BX⟩
theorem zc6 (v:Pv) (b:Pd) (x:Int) (M:Nat) (W:World) (hc:W.heap[M]? = some (.cells #[.int .i64 v.kind,.string v.attr,.slice v.qi v.ni v.ci,.slice v.qw v.nw v.cw,.int .i64 v.lo,.int .i64 v.hi] 26 (0,0))) (hb:PdIn W v b) (hn:Nrm b) :
  Calls Tryz.prog 101 #[.int .i64 x,.pointer (some ⟨M,0,none⟩)] W fun e w'=>e=.returned (.bool (!qa b x))/\Below W.heap.size W w':=by
 obtain ⟨a0,a1,a2,a3,a4,a5⟩:=kq hc
 have hH:=Qw v b x W hb hn
 unfold Pv.val at hH
 clear hc hb hn
 go_enter Tryz.func101,Tryz.ntmps101
 go_wp2_with (go_at_call 102;refine hH.mono ?_;rintro e w1 ⟨rfl,b1⟩;have B1:=d9 b1;clear b1)
 go_ret
 exact ⟨rfl,uh B1⟩
theorem zc9 (v:Pv) (b:Pd) (x:ByteArray) (M:Nat) (W:World) (hc:W.heap[M]? = some (.cells #[.int .i64 v.kind,.string v.attr,.slice v.qi v.ni v.ci,.slice v.qw v.nw v.cw,.int .i64 v.lo,.int .i64 v.hi] 26 (0,0))) (hb:PdIn W v b) (hn:Nrm b) :
  Calls Tryz.prog 104 #[.string x,.pointer (some ⟨M,0,none⟩)] W fun e w'=>e=.returned (.bool (!r8 b x))/\Below W.heap.size W w':=by
 obtain ⟨a0,a1,a2,a3,a4,a5⟩:=kq hc
 have hH:=Ve v b x W hb hn
 unfold Pv.val at hH
 clear hc hb hn
 go_enter Tryz.func104,Tryz.ntmps104
 go_wp2_with (go_at_call 105;refine hH.mono ?_;rintro e w1 ⟨rfl,b1⟩;have B1:=d9 b1;clear b1)
 go_ret
 exact ⟨rfl,uh B1⟩
end Go.Proofs.YtimklglliffpcaaGreat
namespace Go.Proofs.YtimklglliffpcaaGreat
open Go.RowKit Go.Sort Go.Shelf
theorem zac {l:List Int} {j:Nat} {u:Value} (h:(flatK jq 1 l.toArray).toList[j]? = some u):∃ x,l[j]? = some x/\u=vI x:=by
 rw [zh,List.getElem?_map] at h
 obtain ⟨x,hx,rfl⟩:=Option.map_eq_some_iff.1 h
 exact ⟨x,hx,rfl⟩
theorem Ea (l:List ByteArray):(flatK jy 1 l.toArray).toList=l.map (fun x=>Value.string x):=by
 apply List.ext_getElem?
 intro j
 by_cases hj:j < l.length
 ·obtain ⟨x,hx,_⟩:=je hj
  have:=lj (enc:=jy) (k:=1) hx 0 (by omega)
  rw [Nat.mul_one,Nat.add_zero] at this
  rw [this,List.getElem?_map,hx];rfl
 ·rw [List.getElem?_eq_none (by simp [flatK];omega),List.getElem?_eq_none (by simp;omega)]
theorem zbj {l:List ByteArray} {j:Nat} {u:Value} (h:(flatK jy 1 l.toArray).toList[j]? = some u):∃ x,l[j]? = some x/\u=vS x:=by
 rw [Ea,List.getElem?_map] at h
 obtain ⟨x,hx,rfl⟩:=Option.map_eq_some_iff.1 h
 exact ⟨x,hx,rfl⟩
theorem Rw.slI {w:World} {g cap:Nat} {l:List Int} (h:Rw vI w g l) (hc:l.length<=cap) (hm:cap<=maxLen):SlOf jq 1 w (some ⟨g,0,none⟩) cap l :=
 ⟨(fun e=>by cases e),hc,hm,fun _=>⟨g,0,rfl,h.1,fun j u hj=>by
  obtain ⟨x,hx,rfl⟩:=zac hj
  rw [Nat.zero_add]
  exact (h.2 j x hx).1⟩⟩
theorem Rw.slS {w:World} {g cap:Nat} {l:List ByteArray} (h:Rw vS w g l) (hc:l.length<=cap) (hm:cap<=maxLen):SlOf jy 1 w (some ⟨g,0,none⟩) cap l :=
 ⟨(fun e=>by cases e),hc,hm,fun _=>⟨g,0,rfl,h.1,fun j u hj=>by
  obtain ⟨x,hx,rfl⟩:=zbj hj
  rw [Nat.zero_add]
  exact (h.2 j x hx).1⟩⟩
theorem Rw.wr {α:Type} {enc:α->Value} {w:World} {g:Nat} {l:List α} (h:Rw enc w g l):Wr w (some ⟨g,0,none⟩) l.length:=fun b off e j hj=>by
 cases e
 obtain ⟨x,hx,_⟩:=je hj
 rw [Nat.zero_add]
 exact ⟨rfl,(h.2 j x hx).2⟩
/-- A row that doesn't lie in a box. -/
def Off (r:Pv) (M:Nat->Prop):Prop:=(∀ a,r.qi=some a->¬ M a.block)/\∀ a,r.qw=some a->¬ M a.block
/-- A predicate, or none, is answered. -/
def zbz (B:Nat) (M:Nat->Prop) (o:Option Pd) (e:Ending) (w':World):Prop:=∃ r:Pv,e=.returned (.tuple #[.agg #[.int .i64 r.kind,.string r.attr,.slice r.qi r.ni r.ci,.slice r.qw r.nw r.cw,.int .i64 r.lo,.int .i64 r.hi],.bool o.isSome])/\PdOwn B w' r (o.getD pr)/\Off r M
theorem rk (M:Nat->Prop):Off pc M:=⟨fun a e=>(by cases e),fun a e=>(by cases e)⟩
theorem Zb (attr:ByteArray) (q:Option Addr) (c:Nat) (w:World):Calls Tryz.prog 55 #[.string attr,.slice q 0 c] w fun e w'=>e=.returned (.tuple #[.agg #[.int .i64 0,.string ⟨#[]⟩,.slice none 0 0,.slice none 0 0,.int .i64 0,.int .i64 0],.bool false])/\Below w.heap.size w w':=by
 go_enter Tryz.func55,Tryz.ntmps55
 go_wp2
 exact bodyPost_ret (v:=.tuple #[.agg #[.int .i64 0,.string ⟨#[]⟩,.slice none 0 0,.slice none 0 0,.int .i64 0,.int .i64 0],.bool false]) (by simp [results,Tryz.results55,go_sem]) rfl ⟨rfl,(Below.refl _ _).alloc (Nat.le_refl _) _⟩
def mkI (attr:ByteArray) (l:List Int):Option Pd:=if l.length=0 then none else some ⟨1,attr,l,[],0,0⟩
theorem Ja (attr:ByteArray) (g cap B:Nat) (M:Nat->Prop) (l:List Int) (w:World) (hB:B<=g) (hM:¬ M g) (hr:Rw vI w g l) (hc:l.length<=cap) (hm:cap<=maxLen) :
  Calls Tryz.prog 55 #[.string attr,.slice (some ⟨g,0,none⟩) l.length cap] w fun e w'=>zbz B M (mkI attr l) e w'/\Below w.heap.size w w':=by
 by_cases h0:l.length=0
 ·rw [h0]
  exact (Zb attr _ _ w).mono fun e w' ⟨he,hb⟩=>⟨⟨pc,by unfold mkI;rw [if_pos h0];exact he,by unfold mkI;rw [if_pos h0];exact ku _ _,rk _⟩,hb⟩
 ·refine (M4 attr (some ⟨g,0,none⟩) l.length cap (by omega) w).mono fun e w' ⟨he,hb⟩=>⟨?_,hb⟩
  unfold mkI
  rw [if_neg h0]
  have hr:=hr.below hb
  exact ⟨⟨1,attr,some ⟨g,0,none⟩,l.length,cap,none,0,0,0,0⟩,he,⟨⟨rfl,rfl,rfl,rfl,rfl,rfl,hr.slI hc hm,SlOf.none _⟩,⟨fun a e=>(by cases e;exact hB),fun a e=>(by cases e)⟩,(fun _=>hr.wr),(fun e=>by simp at e)⟩,⟨fun a e=>(by cases e;exact hM),fun a e=>(by cases e)⟩⟩
theorem Zy (attr:ByteArray) (q:Option Addr) (c:Nat) (w:World):Calls Tryz.prog 57 #[.string attr,.slice q 0 c] w fun e w'=>e=.returned (.tuple #[.agg #[.int .i64 0,.string ⟨#[]⟩,.slice none 0 0,.slice none 0 0,.int .i64 0,.int .i64 0],.bool false])/\Below w.heap.size w w':=by
 go_enter Tryz.func57,Tryz.ntmps57
 go_wp2
 exact bodyPost_ret (v:=.tuple #[.agg #[.int .i64 0,.string ⟨#[]⟩,.slice none 0 0,.slice none 0 0,.int .i64 0,.int .i64 0],.bool false]) (by simp [results,Tryz.results57,go_sem]) rfl ⟨rfl,(Below.refl _ _).alloc (Nat.le_refl _) _⟩
def mkS (attr:ByteArray) (l:List ByteArray):Option Pd:=if l.length=0 then none else some ⟨2,attr,[],l,0,0⟩
theorem Jh (attr:ByteArray) (g cap B:Nat) (M:Nat->Prop) (l:List ByteArray) (w:World) (hB:B<=g) (hM:¬ M g) (hr:Rw vS w g l) (hc:l.length<=cap) (hm:cap<=maxLen) :
  Calls Tryz.prog 57 #[.string attr,.slice (some ⟨g,0,none⟩) l.length cap] w fun e w'=>zbz B M (mkS attr l) e w'/\Below w.heap.size w w':=by
 by_cases h0:l.length=0
 ·rw [h0]
  exact (Zy attr _ _ w).mono fun e w' ⟨he,hb⟩=>⟨⟨pc,by unfold mkS;rw [if_pos h0];exact he,by unfold mkS;rw [if_pos h0];exact ku _ _,rk _⟩,hb⟩
 ·refine (Xc attr (some ⟨g,0,none⟩) l.length cap (by omega) w).mono fun e w' ⟨he,hb⟩=>⟨?_,hb⟩
  unfold mkS
  rw [if_neg h0]
  have hr:=hr.below hb
  exact ⟨⟨2,attr,none,0,0,some ⟨g,0,none⟩,l.length,cap,0,0⟩,he,⟨⟨rfl,rfl,rfl,rfl,rfl,rfl,SlOf.none _,hr.slS hc hm⟩,⟨fun a e=>(by cases e),fun a e=>(by cases e;exact hB)⟩,(fun e=>by simp at e),(fun _=>hr.wr)⟩,⟨fun a e=>(by cases e),fun a e=>(by cases e;exact hM)⟩⟩
def Dl (attr:ByteArray) (lo hi:Int):Option Pd:=if hi < lo then none else if lo=hi then some ⟨1,attr,[lo],[],0,0⟩ else some ⟨3,attr,[],[],lo,hi⟩
theorem Em (attr:ByteArray) (lo hi:Int) (B:Nat) (M:Nat->Prop) (w:World) (hB:B<=w.heap.size) (hM:∀ k,M k->k < w.heap.size) :
  Calls Tryz.prog 59 #[.string attr,.int .i64 lo,.int .i64 hi] w fun e w'=>zbz B M (Dl attr lo hi) e w'/\Below w.heap.size w w':=by
 unfold Dl
 by_cases h1:hi < lo
 ·rw [if_pos h1]
  exact (Ed attr lo hi h1 w).mono fun e w' ⟨he,hb⟩=>⟨⟨pc,he,ku _ _,rk _⟩,hb⟩
 ·rw [if_neg h1]
  by_cases h2:lo=hi
  ·rw [if_pos h2]
   subst h2
   exact (Ex attr lo w).mono fun e w' ⟨⟨q,c,he,hs,hq,hw⟩,hb⟩=>⟨⟨⟨1,attr,q,1,c,none,0,0,0,0⟩,he,⟨⟨rfl,rfl,rfl,rfl,rfl,rfl,hs,SlOf.none _⟩,⟨fun a e=>Nat.le_trans hB (hq a e),fun a e=>(by cases e)⟩,fun _=>hw,(fun e=>by simp at e)⟩,fun a e hS=>(by have h1:=hq a e;have h2:=hM _ hS;omega),fun a e=>(by cases e)⟩,hb⟩
  ·rw [if_neg h2]
   exact (Gl attr lo hi (by omega) w).mono fun e w' ⟨he,hb⟩=>⟨⟨⟨3,attr,none,0,0,none,0,0,lo,hi⟩,he,⟨⟨rfl,rfl,rfl,rfl,rfl,rfl,SlOf.none _,SlOf.none _⟩,Fr2.none2 rfl rfl,(fun e=>by simp at e),(fun e=>by simp at e)⟩,fun a e=>(by cases e),fun a e=>(by cases e)⟩,hb⟩
def Dj (attr a b:ByteArray):Option Pd:=if a.size < b.size then (if ll b a then some ⟨4,attr,[],[b],0,0⟩ else none) else (if ll a b then some ⟨4,attr,[],[a],0,0⟩ else none)
set_option maxHeartbeats 2000000 in
set_option maxRecDepth 100000 in
theorem G9 (attr a b:ByteArray) (B:Nat) (M:Nat->Prop) (w:World) (hB:B<=w.heap.size) (hM:∀ k,M k->k < w.heap.size) :
  Calls Tryz.prog 106 #[.string attr,.string a,.string b] w fun e w'=>zbz B M (Dj attr a b) e w'/\Below w.heap.size w w':=by
 unfold Dj
 obtain ⟨X,HX⟩:∃ X,w.alloc (.cells #[.int .i64 0,.string ⟨#[]⟩,.slice none 0 0,.slice none 0 0,.int .i64 0,.int .i64 0] 26)=X:=⟨_,rfl⟩
 have bX:Below w.heap.size w X:=by rw [<- HX];exact (Below.refl _ _).alloc (Nat.le_refl _) _
 have x8:X.heap[w.heap.size]? = some (.cells #[.int .i64 0,.string ⟨#[]⟩,.slice none 0 0,.slice none 0 0,.int .i64 0,.int .i64 0] 26 (0,0)):=by rw [<- HX];exact World.alloc_heap_new _ _
 have hlX:w.heap.size < X.heap.size:=(Array.getElem?_eq_some_iff.1 x8).1
 obtain ⟨x0,x1,x2,x3,x4,x5⟩:=kq x8
 have xf:=fun o=>gy (o:=o) x8
 have BX:=d9 bX
 have X8:=d9 x8
 clear bX x8
 by_cases hlt:a.size < b.size
 ·rw [if_pos hlt]
  have c1:(a.size:Int) < (b.size:Int):=by omega
  cases hp:ll b a with
  | true =>
   simp only [if_true]
   have hH:=fun W=>lu b a W
   rw [hp] at hH
   clear hp hlt
   go_enter Tryz.func106,Tryz.ntmps106
   go_wp2_with (first
    | (go_at_call 90;refine (hH _).mono ?_;rintro e w1 ⟨rfl,b1⟩;have B1:=d9 b1;have q9:=(b1.block _ hlX).trans (uh X8);(obtain ⟨z0,z1,z2,z3,z4,z5⟩:=kq q9);have zf:=fun o=>gy (o:=o) q9;have s1:=b1.size;clear b1 q9)
    | (go_at_call 60;refine (Fz attr b _).mono ?_;rintro e w2 ⟨⟨q2,c2,rfl,s2,p2⟩,b2⟩;have S2:=d9 s2;have P2:=d9 p2;have B2:=d9 b2;clear z0 z1 z2 z3 z4 z5 zf;have q9:=(b2.block _ (Nat.lt_of_lt_of_le hlX s1)).trans (((uh B1).block _ hlX).trans (uh X8));(obtain ⟨z0,z1,z2,z3,z4,z5⟩:=kq q9);have zf:=fun o=>gy (o:=o) q9;clear s2 p2 b2 q9))
   have L2:∀ a,q2=some a->a.block ≠ w.heap.size:=fun a e=>by have:=uh P2 a e;omega
   exact bodyPost_ret (v:=.tuple #[.agg #[.int .i64 4,.string attr,.slice none 0 0,.slice q2 1 c2,.int .i64 0,.int .i64 0],.bool true]) (by simp [results,Tryz.results106,go_sem, *]) rfl ⟨⟨⟨4,attr,none,0,0,q2,1,c2,0,0⟩,rfl,⟨⟨rfl,rfl,rfl,rfl,rfl,rfl,SlOf.none _,((((((uh S2).set L2 0 _).set L2 1 _).set L2 2 _).set L2 3 _).set L2 4 _).set L2 5 _⟩,⟨fun a e=>(by cases e),fun a e=>(by have:=uh P2 a e;omega)⟩,(fun e=>by simp at e),(fun e=>by simp at e)⟩,fun a e=>(by cases e),fun a e hS=>(by have h1:=uh P2 a e;have h2:=hM _ hS;omega)⟩,((((((d8 (uh BX) (d8 (uh B1) (uh B2))).setCell (p:=⟨w.heap.size,0,none⟩) (Nat.le_refl _) _).setCell (p:=⟨w.heap.size,1,none⟩) (Nat.le_refl _) _).setCell (p:=⟨w.heap.size,2,none⟩) (Nat.le_refl _) _).setCell (p:=⟨w.heap.size,3,none⟩) (Nat.le_refl _) _).setCell (p:=⟨w.heap.size,4,none⟩) (Nat.le_refl _) _).setCell (p:=⟨w.heap.size,5,none⟩) (Nat.le_refl _) _⟩
  | false =>
   simp only [Bool.false_eq_true,if_false]
   have hH:=fun W=>lu b a W
   rw [hp] at hH
   clear hp hlt
   go_enter Tryz.func106,Tryz.ntmps106
   go_wp2_with (go_at_call 90;refine (hH _).mono ?_;rintro e w1 ⟨rfl,b1⟩;have B1:=d9 b1;have q9:=(b1.block _ hlX).trans (uh X8);(obtain ⟨z0,z1,z2,z3,z4,z5⟩:=kq q9);have zf:=fun o=>gy (o:=o) q9;clear b1 q9)
   exact bodyPost_ret (v:=.tuple #[.agg #[.int .i64 0,.string ⟨#[]⟩,.slice none 0 0,.slice none 0 0,.int .i64 0,.int .i64 0],.bool false]) (by simp [results,Tryz.results106,go_sem, *]) rfl ⟨⟨pc,rfl,ku _ _,rk _⟩,((((((d8 (uh BX) (uh B1)).setCell (p:=⟨w.heap.size,0,none⟩) (Nat.le_refl _) _).setCell (p:=⟨w.heap.size,1,none⟩) (Nat.le_refl _) _).setCell (p:=⟨w.heap.size,2,none⟩) (Nat.le_refl _) _).setCell (p:=⟨w.heap.size,3,none⟩) (Nat.le_refl _) _).setCell (p:=⟨w.heap.size,4,none⟩) (Nat.le_refl _) _).setCell (p:=⟨w.heap.size,5,none⟩) (Nat.le_refl _) _⟩
 ·rw [if_neg hlt]
  have c1:¬ (a.size:Int) < (b.size:Int):=by omega
  cases hp:ll a b with
  | true =>
   simp only [if_true]
   have hH:=fun W=>lu a b W
   rw [hp] at hH
   clear hp hlt
   go_enter Tryz.func106,Tryz.ntmps106
   go_wp2_with (first
    | (go_at_call 90;refine (hH _).mono ?_;rintro e w1 ⟨rfl,b1⟩;have B1:=d9 b1;have q9:=(b1.block _ hlX).trans (uh X8);(obtain ⟨z0,z1,z2,z3,z4,z5⟩:=kq q9);have zf:=fun o=>gy (o:=o) q9;have s1:=b1.size;clear b1 q9)
    | (go_at_call 60;refine (Fz attr a _).mono ?_;rintro e w2 ⟨⟨q2,c2,rfl,s2,p2⟩,b2⟩;have S2:=d9 s2;have P2:=d9 p2;have B2:=d9 b2;clear z0 z1 z2 z3 z4 z5 zf;have q9:=(b2.block _ (Nat.lt_of_lt_of_le hlX s1)).trans (((uh B1).block _ hlX).trans (uh X8));(obtain ⟨z0,z1,z2,z3,z4,z5⟩:=kq q9);have zf:=fun o=>gy (o:=o) q9;clear s2 p2 b2 q9))
   have L2:∀ a,q2=some a->a.block ≠ w.heap.size:=fun a e=>by have:=uh P2 a e;omega
   exact bodyPost_ret (v:=.tuple #[.agg #[.int .i64 4,.string attr,.slice none 0 0,.slice q2 1 c2,.int .i64 0,.int .i64 0],.bool true]) (by simp [results,Tryz.results106,go_sem, *]) rfl ⟨⟨⟨4,attr,none,0,0,q2,1,c2,0,0⟩,rfl,⟨⟨rfl,rfl,rfl,rfl,rfl,rfl,SlOf.none _,((((((uh S2).set L2 0 _).set L2 1 _).set L2 2 _).set L2 3 _).set L2 4 _).set L2 5 _⟩,⟨fun a e=>(by cases e),fun a e=>(by have:=uh P2 a e;omega)⟩,(fun e=>by simp at e),(fun e=>by simp at e)⟩,fun a e=>(by cases e),fun a e hS=>(by have h1:=uh P2 a e;have h2:=hM _ hS;omega)⟩,((((((d8 (uh BX) (d8 (uh B1) (uh B2))).setCell (p:=⟨w.heap.size,0,none⟩) (Nat.le_refl _) _).setCell (p:=⟨w.heap.size,1,none⟩) (Nat.le_refl _) _).setCell (p:=⟨w.heap.size,2,none⟩) (Nat.le_refl _) _).setCell (p:=⟨w.heap.size,3,none⟩) (Nat.le_refl _) _).setCell (p:=⟨w.heap.size,4,none⟩) (Nat.le_refl _) _).setCell (p:=⟨w.heap.size,5,none⟩) (Nat.le_refl _) _⟩
  | false =>
   simp only [Bool.false_eq_true,if_false]
   have hH:=fun W=>lu a b W
   rw [hp] at hH
   clear hp hlt
   go_enter Tryz.func106,Tryz.ntmps106
   go_wp2_with (go_at_call 90;refine (hH _).mono ?_;rintro e w1 ⟨rfl,b1⟩;have B1:=d9 b1;have q9:=(b1.block _ hlX).trans (uh X8);(obtain ⟨z0,z1,z2,z3,z4,z5⟩:=kq q9);have zf:=fun o=>gy (o:=o) q9;clear b1 q9)
   exact bodyPost_ret (v:=.tuple #[.agg #[.int .i64 0,.string ⟨#[]⟩,.slice none 0 0,.slice none 0 0,.int .i64 0,.int .i64 0],.bool false]) (by simp [results,Tryz.results106,go_sem, *]) rfl ⟨⟨pc,rfl,ku _ _,rk _⟩,((((((d8 (uh BX) (uh B1)).setCell (p:=⟨w.heap.size,0,none⟩) (Nat.le_refl _) _).setCell (p:=⟨w.heap.size,1,none⟩) (Nat.le_refl _) _).setCell (p:=⟨w.heap.size,2,none⟩) (Nat.le_refl _) _).setCell (p:=⟨w.heap.size,3,none⟩) (Nat.le_refl _) _).setCell (p:=⟨w.heap.size,4,none⟩) (Nat.le_refl _) _).setCell (p:=⟨w.heap.size,5,none⟩) (Nat.le_refl _) _⟩
end Go.Proofs.YtimklglliffpcaaGreat
namespace Go.Proofs.YtimklglliffpcaaGreat
open Go.RowKit Go.Sort Go.Shelf
theorem jj {w w':World} {r:Option Nat} (h:w.drew.grownBy w' r):w.grownBy w' r:=⟨h.os,h.tape,h.output,h.size,h.block⟩
theorem qj {B g:Nat} {w w1 w2:World} (h:Below w.heap.size w w1) (hg:w1.grownBy w2 (some g)) (hB:B<=w.heap.size) (hBg:B<=g):Below B w w2 :=
 ⟨hg.os.trans h.os,hg.tape.trans h.tape,hg.output.trans h.output,Nat.le_trans h.size hg.size,fun k hk=>(hg.block k (Nat.lt_of_lt_of_le (Nat.lt_of_lt_of_le hk hB) h.size) (fun e=>by injection e with e;omega)).trans (h.block k (Nat.lt_of_lt_of_le hk hB))⟩
theorem Ez {α:Type} [Inhabited α] {enc:α->List Value} {k c:Nat} {w w':World} {g:Nat} {q:Option Addr} {l:List α} (h:SlOf enc k w q c l) (hg:w.grownBy w' (some g)) (hr:∀ a,q=some a->l ≠ []->a.block ≠ g):SlOf enc k w' q c l:=by
 refine ⟨h.1,h.2.1,h.2.2.1,fun h0=>?_⟩
 obtain ⟨b,off,hq,hb,hc⟩:=h.2.2.2 h0
 refine ⟨b,off,hq,Nat.lt_of_lt_of_le hb hg.size,fun j u hj=>?_⟩
 rw [World.cell?_of_block (a:=⟨b,off + j,none⟩) (hg.block b hb (fun e=>by injection e with e;exact hr _ hq (List.length_pos_iff.1 h0) e))]
 exact hc j u hj
theorem tn {w w':World} {g:Nat} {u:Pv} {p:Pd} (h:PdIn w u p) (hg:w.grownBy w' (some g)) (h1:∀ a,u.qi=some a->p.ints ≠ []->a.block ≠ g) (h2:∀ a,u.qw=some a->p.words ≠ []->a.block ≠ g):PdIn w' u p:=by
 obtain ⟨c1,c2,c3,c4,c5,c6,c7,c8⟩:=h
 exact ⟨c1,c2,c3,c4,c5,c6,Ez c7 hg h1,Ez c8 hg h2⟩
theorem qx {w:World} {M b o:Nat} {v0 v1 v2 v3 v4 v5:Value} {x:Option Value} (hne:b ≠ M) (h:w.cell? ⟨b,o,none⟩=x):((((((w.setCell ⟨M,0,none⟩ v0).setCell ⟨M,1,none⟩ v1).setCell ⟨M,2,none⟩ v2).setCell ⟨M,3,none⟩ v3).setCell ⟨M,4,none⟩ v4).setCell ⟨M,5,none⟩ v5).cell? ⟨b,o,none⟩=x:=by
 have hn:∀ (W:World) (k:Nat) (v:Value),(W.setCell ⟨M,k,none⟩ v).cell? ⟨b,o,none⟩=W.cell? ⟨b,o,none⟩:=fun W k v=>World.cell?_setCell_other W ⟨M,k,none⟩ ⟨b,o,none⟩ v (by intro g;injection g with g1;exact hne g1.symm)
 rw [hn,hn,hn,hn,hn,hn]
 exact h
theorem Off.sub {r:Pv} {M:Nat} {T:Nat->Prop} (h:Off r (fun k=>k=M ∨ T k)):Off r T:=⟨fun a e ht=>h.1 a e (Or.inr ht),fun a e ht=>h.2 a e (Or.inr ht)⟩
theorem PdOwn.setC {B M:Nat} {S:Nat->Prop} {w:World} {u:Pv} {p:Pd} (h:PdOwn B w u p) (hf:Off u S) (hM:S M) (k:Nat) (v:Value):PdOwn B (w.setCell ⟨M,k,none⟩ v) u p:=by
 obtain ⟨⟨c1,c2,c3,c4,c5,c6,c7,c8⟩,d1,d2,d3⟩:=h
 exact ⟨⟨c1,c2,c3,c4,c5,c6,c7.set (fun a e h=>hf.1 a e (h ▸ hM)) k v,c8.set (fun a e h=>hf.2 a e (h ▸ hM)) k v⟩,d1,fun e=>(d2 e).set _ _ _,fun e=>(d3 e).set _ _ _⟩
theorem Gy {B:Nat} {w:World} {u:Pv} {p:Pd} (h:PdOwn B w u p) (hk:p.kind=1) (hne:p.ints ≠ []):∃ g,u.qi=some ⟨g,0,none⟩/\B<=g/\Rw vI w g p.ints:=by
 have hl:0 < p.ints.length:=List.length_pos_iff.2 hne
 obtain ⟨b,off,hq,hb,hc⟩:=h.1.2.2.2.2.2.2.1.2.2.2 hl
 have hw:=h.2.2.1 hk b off hq
 obtain rfl:=(hw 0 hl).1
 refine ⟨b,hq,h.2.1.1 _ hq,hb,fun j x hx=>?_⟩
 have hj:j < p.ints.length:=(List.getElem?_eq_some_iff.1 hx).1
 have h1:=hc j (vI x) (by rw [zh,List.getElem?_map,hx];rfl)
 have h2:=(hw j hj).2
 rw [Nat.zero_add] at h1 h2
 exact ⟨h1,h2⟩
theorem Gn {B:Nat} {w:World} {u:Pv} {p:Pd} (h:PdOwn B w u p) (hk:p.kind=2) (hne:p.words ≠ []):∃ g,u.qw=some ⟨g,0,none⟩/\B<=g/\Rw vS w g p.words:=by
 have hl:0 < p.words.length:=List.length_pos_iff.2 hne
 obtain ⟨b,off,hq,hb,hc⟩:=h.1.2.2.2.2.2.2.2.2.2.2 hl
 have hw:=h.2.2.2 hk b off hq
 obtain rfl:=(hw 0 hl).1
 refine ⟨b,hq,h.2.1.2 _ hq,hb,fun j x hx=>?_⟩
 have hj:j < p.words.length:=(List.getElem?_eq_some_iff.1 hx).1
 have h1:=hc j (vS x) (by rw [Ea,List.getElem?_map,hx];rfl)
 have h2:=(hw j hj).2
 rw [Nat.zero_add] at h1 h2
 exact ⟨h1,h2⟩
/-- A normal predicate. -/
def Gd (p:Pd):Prop:=Nrm p/\(p.kind=1->p.ints ≠ [])/\(p.kind=2->p.words ≠ [])/\(p.kind=1 ∨ p.kind=2 ∨ p.kind=3 ∨ p.kind=4)
/-- The lists of two predicates lie apart. -/
def Apart (u:Pv) (p:Pd) (v:Pv) (r:Pd):Prop:=∀ x y,(u.qi=some x/\p.ints ≠ [] ∨ u.qw=some x/\p.words ≠ [])->(v.qi=some y/\r.ints ≠ [] ∨ v.qw=some y/\r.words ≠ [])->x.block ≠ y.block
theorem Apart.symm {u v:Pv} {p r:Pd} (h:Apart u p v r):Apart v r u p:=fun x y hx hy=>(h y x hy hx).symm
def kl (a b:Pd):Option Pd:=if a.kind=1 then mkI a.attr (a.ints.filter (qa b)) else if a.kind=2 then mkS a.attr (a.words.filter (r8 b)) else if ¬ a.kind=b.kind then none else if a.kind=3 then Dl a.attr (max a.lo b.lo) (min a.hi b.hi) else Dj a.attr (sm a) (sm b)
def mu (p:Pd):Bool:=decide (p.kind=1) || decide (p.kind=2)
def ry (a b:Pd):Option Pd:=if mu b then kl b a else kl a b
theorem Ah (w:World) (u v:Pv):∃ X,((w.alloc (.cells #[.int .i64 u.kind,.string u.attr,.slice u.qi u.ni u.ci,.slice u.qw u.nw u.cw,.int .i64 u.lo,.int .i64 u.hi] 26)).alloc (.cells #[.int .i64 v.kind,.string v.attr,.slice v.qi v.ni v.ci,.slice v.qw v.nw v.cw,.int .i64 v.lo,.int .i64 v.hi] 26)).alloc (.cells #[.int .i64 0,.string ⟨#[]⟩,.slice none 0 0,.slice none 0 0,.int .i64 0,.int .i64 0] 26)=X/\Below w.heap.size w X/\X.heap.size=w.heap.size + 3/\X.heap[w.heap.size]? = some (.cells #[.int .i64 u.kind,.string u.attr,.slice u.qi u.ni u.ci,.slice u.qw u.nw u.cw,.int .i64 u.lo,.int .i64 u.hi] 26 (0,0))/\X.heap[w.heap.size + 1]? = some (.cells #[.int .i64 v.kind,.string v.attr,.slice v.qi v.ni v.ci,.slice v.qw v.nw v.cw,.int .i64 v.lo,.int .i64 v.hi] 26 (0,0))/\X.heap[w.heap.size + 2]? = some (.cells #[.int .i64 0,.string ⟨#[]⟩,.slice none 0 0,.slice none 0 0,.int .i64 0,.int .i64 0] 26 (0,0)):=by
 obtain ⟨Y,hY,bY,sY,y8,y9⟩:=pa w u v
 rw [hY]
 have b:=(Below.refl Y.heap.size Y).alloc (Nat.le_refl _) (.cells #[.int .i64 0,.string ⟨#[]⟩,.slice none 0 0,.slice none 0 0,.int .i64 0,.int .i64 0] 26)
 refine ⟨_,rfl,d8 bY b,by simp;omega,(b.block _ (by omega)).trans y8,(b.block _ (by omega)).trans y9, ?_⟩
 rw [<- sY]
 exact World.alloc_heap_new _ _
theorem Bu {V:World} {b:Nat} {c0 c1 c2 c3 c4 c5:Value} (h:V.heap[b]? = some (.cells #[c0,c1,c2,c3,c4,c5] 26 (0,0))) (v0 v1 v2 v3 v4 v5:Value) :
  ((((((V.setCell ⟨b,0,none⟩ v0).setCell ⟨b,1,none⟩ v1).setCell ⟨b,2,none⟩ v2).setCell ⟨b,3,none⟩ v3).setCell ⟨b,4,none⟩ v4).setCell ⟨b,5,none⟩ v5).heap[b]? = some (.cells #[v0,v1,v2,v3,v4,v5] 26 (0,0)):=by
 simp [World.setCell,Array.getElem?_modify,h]
theorem l9 {w:World} {M b:Nat} (hne:b ≠ M) (v0 v1 v2 v3 v4 v5:Value):((((((w.setCell ⟨M,0,none⟩ v0).setCell ⟨M,1,none⟩ v1).setCell ⟨M,2,none⟩ v2).setCell ⟨M,3,none⟩ v3).setCell ⟨M,4,none⟩ v4).setCell ⟨M,5,none⟩ v5).heap[b]? = w.heap[b]?:=by
 simp [World.setCell,Array.getElem?_modify,Ne.symm hne]
theorem Jg {w:World} {M:Nat} (v0 v1 v2 v3 v4 v5:Value):((((((w.setCell ⟨M,0,none⟩ v0).setCell ⟨M,1,none⟩ v1).setCell ⟨M,2,none⟩ v2).setCell ⟨M,3,none⟩ v3).setCell ⟨M,4,none⟩ v4).setCell ⟨M,5,none⟩ v5).heap.size=w.heap.size:=by
 simp
theorem Ys (w:World) (p:Addr) (v:Value):(w.setCell p v).os=w.os:=rfl
theorem Ll (w:World) (p:Addr) (v:Value):(w.setCell p v).tape=w.tape:=rfl
theorem Rl (w:World) (p:Addr) (v:Value):(w.setCell p v).output=w.output:=rfl
theorem Jv (Z0:World) (n:Nat) (A V:Pv) (q8:Z0.heap[n]? = some (.cells #[.int .i64 V.kind,.string V.attr,.slice V.qi V.ni V.ci,.slice V.qw V.nw V.cw,.int .i64 V.lo,.int .i64 V.hi] 26 (0,0))) (q9:Z0.heap[n + 1]? = some (.cells #[.int .i64 A.kind,.string A.attr,.slice A.qi A.ni A.ci,.slice A.qw A.nw A.cw,.int .i64 A.lo,.int .i64 A.hi] 26 (0,0))) (Z:World) (hZ:((((((((((((Z0.setCell ⟨n,0,none⟩ (.int .i64 A.kind)).setCell ⟨n,1,none⟩ (.string A.attr)).setCell ⟨n,2,none⟩ (.slice A.qi A.ni A.ci)).setCell ⟨n,3,none⟩ (.slice A.qw A.nw A.cw)).setCell ⟨n,4,none⟩ (.int .i64 A.lo)).setCell ⟨n,5,none⟩ (.int .i64 A.hi)).setCell ⟨(n + 1),0,none⟩ (.int .i64 V.kind)).setCell ⟨(n + 1),1,none⟩ (.string V.attr)).setCell ⟨(n + 1),2,none⟩ (.slice V.qi V.ni V.ci)).setCell ⟨(n + 1),3,none⟩ (.slice V.qw V.nw V.cw)).setCell ⟨(n + 1),4,none⟩ (.int .i64 V.lo)).setCell ⟨(n + 1),5,none⟩ (.int .i64 V.hi))=Z) :
  Z.heap[n]? = some (.cells #[.int .i64 A.kind,.string A.attr,.slice A.qi A.ni A.ci,.slice A.qw A.nw A.cw,.int .i64 A.lo,.int .i64 A.hi] 26 (0,0))/\Z.heap[n + 1]? = some (.cells #[.int .i64 V.kind,.string V.attr,.slice V.qi V.ni V.ci,.slice V.qw V.nw V.cw,.int .i64 V.lo,.int .i64 V.hi] 26 (0,0))/\(∀ k,k ≠ n->k ≠ n + 1->Z.heap[k]? = Z0.heap[k]?)/\Z.heap.size=Z0.heap.size/\Z.os=Z0.os/\Z.tape=Z0.tape/\Z.output=Z0.output:=by
 subst hZ
 refine ⟨?_, ?_,fun k h1 h2=>?_, ?_,by simp only [Ys],by simp only [Ll],by simp only [Rl]⟩
 ·exact (l9 (M:=n + 1) (b:=n) (by omega) _ _ _ _ _ _).trans (Bu q8 _ _ _ _ _ _)
 ·exact Bu ((l9 (M:=n) (b:=n + 1) (by omega) _ _ _ _ _ _).trans q9) _ _ _ _ _ _
 ·exact (l9 (M:=n + 1) h2 _ _ _ _ _ _).trans (l9 (M:=n) h1 _ _ _ _ _ _)
 ·exact (Jg _ _ _ _ _ _).trans (Jg _ _ _ _ _ _)
end Go.Proofs.YtimklglliffpcaaGreat
namespace Go.Proofs.YtimklglliffpcaaGreat
theorem za1 {l:List Int} (h:l.Pairwise (· < ·)):WkI l:=h.imp fun h=>Int.le_of_lt h
theorem zbt {l:List ByteArray} (h:l.Pairwise ltS):WkS l:=h.imp fun h=>Int.le_of_lt h
theorem Dg {p:Pd} (h:p.ok=true):(p.kind=1->p.ints ≠ [])/\(p.kind=2->p.words ≠ []):=by
 unfold Pd.ok kg at h
 rw [Bool.and_eq_true] at h
 obtain ⟨_,h⟩:=h
 constructor
 ·intro hk hn
  rw [hk,hn] at h
  simp [p9] at h
 ·intro hk hn
  rw [hk,hn] at h
  simp [p9] at h
theorem Fl {l:List Int} (h:l ≠ []):mx l ≠ []:=by
 obtain ⟨x,hx⟩:=List.exists_mem_of_ne_nil l h
 exact List.ne_nil_of_mem (((nh l).1 x).2 hx)
theorem Cz {l:List ByteArray} (h:l ≠ []):mq l ≠ []:=by
 obtain ⟨x,hx⟩:=List.exists_mem_of_ne_nil l h
 exact List.ne_nil_of_mem (((mj l).1 x).2 hx)
theorem Hh (attr:ByteArray) (l:List Int) (h1:WkI l) (h2:l.length<=1000000000) (h3:l ≠ []):Gd ⟨1,attr,l,[],0,0⟩:=⟨⟨h1,List.Pairwise.nil,h2,by simp,fun e=>by simp at e⟩,fun _=>h3,fun e=>by simp at e,Or.inl rfl⟩
theorem Xf (attr:ByteArray) (l:List ByteArray) (h1:WkS l) (h2:l.length<=1000000000) (h3:l ≠ []):Gd ⟨2,attr,[],l,0,0⟩:=⟨⟨List.Pairwise.nil,h1,by simp,h2,fun e=>by simp at e⟩,fun e=>by simp at e,fun _=>h3,Or.inr (Or.inl rfl)⟩
theorem G6 (attr:ByteArray) (lo hi:Int):Gd ⟨3,attr,[],[],lo,hi⟩:=⟨⟨List.Pairwise.nil,List.Pairwise.nil,by simp,by simp,fun e=>by simp at e⟩,fun e=>by simp at e,fun e=>by simp at e,Or.inr (Or.inr (Or.inl rfl))⟩
theorem Np (attr s:ByteArray):Gd ⟨4,attr,[],[s],0,0⟩:=⟨⟨List.Pairwise.nil,List.pairwise_singleton _ _,by simp,by simp,fun _=>⟨s,rfl⟩⟩,fun e=>by simp at e,fun e=>by simp at e,Or.inr (Or.inr (Or.inr rfl))⟩
theorem Xd {p:Pd} (h:p.ok=true):(p.kind=1->p.ints.length<=64)/\(p.kind=2->p.words.length<=64):=by
 unfold Pd.ok kg at h
 rw [Bool.and_eq_true] at h
 obtain ⟨_,h⟩:=h
 constructor
 ·intro hk
  rw [hk] at h
  simp [p9] at h
  omega
 ·intro hk
  rw [hk] at h
  simp [p9] at h
  omega
theorem sj {p m:Pd} (_:p.small) (h:jr p=some m):Gd m:=by
 cases hp:p.ok with
 | false=>rw [mw hp] at h;cases h
 | true =>
  rcases ql hp with hk | hk | hk | ⟨hk,s,hs1⟩
  ·rw [qt hp hk] at h
   cases h
   exact Hh _ _ (za1 (nh p.ints).2.1) (Nat.le_trans (nh p.ints).2.2 (Nat.le_trans ((Xd hp).1 hk) (by decide))) (Fl ((Dg hp).1 hk))
  ·rw [xi hp hk] at h
   cases h
   exact Xf _ _ (zbt (mj p.words).2.1) (Nat.le_trans (mj p.words).2.2 (Nat.le_trans ((Xd hp).2 hk) (by decide))) (Cz ((Dg hp).2 hk))
  ·rw [qv hp hk] at h
   split at h
   ·cases h
   ·split at h
    ·cases h
     exact Hh _ _ (List.pairwise_singleton _ _) (by simp) (by simp)
    ·cases h
     exact G6 _ _ _
  ·rw [ta hp hk,hs1] at h
   cases h
   exact Np _ _
theorem Mv {a b m:Pd} (ha:Gd a) (h:kl a b=some m):Gd m:=by
 unfold kl at h
 split at h
 ·unfold mkI at h
  split at h
  ·cases h
  ·next h0 =>
   cases h
   exact Hh _ _ (ha.1.1.sublist List.filter_sublist) (Nat.le_trans (List.length_filter_le _ _) ha.1.2.2.1) (fun e=>h0 (by rw [e];rfl))
 ·split at h
  ·unfold mkS at h
   split at h
   ·cases h
   ·next h0 =>
    cases h
    exact Xf _ _ (ha.1.2.1.sublist List.filter_sublist) (Nat.le_trans (List.length_filter_le _ _) ha.1.2.2.2.1) (fun e=>h0 (by rw [e];rfl))
  ·split at h
   ·cases h
   ·split at h
    ·unfold Dl at h
     split at h
     ·cases h
     ·split at h
      ·cases h
       exact Hh _ _ (List.pairwise_singleton _ _) (by simp) (by simp)
      ·cases h
       exact G6 _ _ _
    ·unfold Dj at h
     split at h <;> split at h <;> first | (cases h;exact Np _ _) | cases h
theorem Yv {a b m:Pd} (ha:Gd a) (hb:Gd b) (h:ry a b=some m):Gd m:=by
 unfold ry at h
 split at h
 ·exact Mv hb h
 ·exact Mv ha h
/-- What is met so far, and the rest. -/
def kr:Option Pd->List Pd->Option Pd
  | o,[]=>o
  | o,q :: qs=>match o,jr q with
    | some m,some n=>if n.attr=m.attr then kr (ry m n) qs else none
    | _,_=>none
def kz:List Pd->Option Pd
 | []=>none
 | p :: ps=>kr (jr p) ps
end Go.Proofs.YtimklglliffpcaaGreat
namespace Go.Proofs.YtimklglliffpcaaGreat
open Go.RowKit Go.Sort Go.Shelf
/-- A list without members is nil. -/
def zbr (v:Pv) (p:Pd):Prop:=(p.ints=[]->v.qi=none)/\(p.words=[]->v.qw=none)
/-- conj.Normal. -/
theorem sl (u:Pv) (p:Pd) (w:World) (hu:PdIn w u p) (hs:p.small) :
    Calls Tryz.prog 16 #[u.val] w fun e w'=>(∃ v,e=.returned (.tuple #[Pv.val v,.bool (jr p).isSome])/\PdOwn w.heap.size w' v ((jr p).getD pr)/\zbr v ((jr p).getD pr))/\Below w.heap.size w w':=by
  obtain ⟨hk,ha,hi,hw,hl,hh,s1,s2⟩:=hu
  have l1:p.ints.length<=1000000000000000000:=by have:=hs.1;omega
  have l2:p.words.length<=1000000000000000000:=by have:=hs.2;omega
  unfold Pv.val
  rw [hk,ha,hi,hw,hl,hh]
  cases hp:p.ok with
  | false =>
    rw [mw hp]
    exact (Ds p.kind p.attr u.qi u.ci p.ints u.qw u.cw p.words p.lo p.hi w s1 s2 l1 l2 hp).mono fun e w' ⟨he,hb⟩=>⟨⟨pc,he,ku _ _,fun _=>rfl,fun _=>rfl⟩,hb⟩
  | true =>
    have hp':=hp
    unfold Pd.ok at hp'
    rcases ql hp with h | h | h | ⟨h,s,hs1⟩
    · rw [qt hp h]
      rw [h] at hp' ⊢
      refine (Ep p.attr u.qi u.ci p.ints u.qw u.cw p.words p.lo p.hi w s1 s2 l1 l2 hp').mono fun e w' ⟨⟨q,c,he,hq,hB,hW⟩,hb⟩=>⟨⟨⟨1,p.attr,q,(mx p.ints).length,c,none,0,0,0,0⟩,he,⟨⟨rfl,rfl,rfl,rfl,rfl,rfl,hq,SlOf.none _⟩,⟨hB,fun a e=>(by cases e)⟩,fun _=>hW,(fun e=>by simp at e)⟩,(fun e=>absurd e (Fl ((Dg hp).1 h))),fun _=>rfl⟩,hb⟩
    · rw [xi hp h]
      rw [h] at hp' ⊢
      refine (Dw p.attr u.qi u.ci p.ints u.qw u.cw p.words p.lo p.hi w s1 s2 l1 l2 hp').mono fun e w' ⟨⟨q,c,he,hq,hB,hW⟩,hb⟩=>⟨⟨⟨2,p.attr,none,0,0,q,(mq p.words).length,c,0,0⟩,he,⟨⟨rfl,rfl,rfl,rfl,rfl,rfl,SlOf.none _,hq⟩,⟨fun a e=>(by cases e),hB⟩,(fun e=>by simp at e),fun _=>hW⟩,fun _=>rfl,(fun e=>absurd e (Cz ((Dg hp).2 h)))⟩,hb⟩
    · rw [qv hp h]
      rw [h] at hp' ⊢
      by_cases hc:p.hi < p.lo
      · rw [if_pos hc]
        exact (D7 p.attr u.qi u.ci p.ints u.qw u.cw p.words p.lo p.hi w s1 s2 l1 l2 hp' hc).mono fun e w' ⟨he,hb⟩=>⟨⟨pc,he,ku _ _,fun _=>rfl,fun _=>rfl⟩,hb⟩
      · rw [if_neg hc]
        by_cases hq:p.lo=p.hi
        · rw [if_pos hq]
          refine (A5 p.attr u.qi u.ci p.ints u.qw u.cw p.words p.lo p.hi w s1 s2 l1 l2 hp' hq).mono fun e w' ⟨⟨q,c,he,hq,hB,hW⟩,hb⟩=>⟨⟨⟨1,p.attr,q,1,c,none,0,0,0,0⟩,he,⟨⟨rfl,rfl,rfl,rfl,rfl,rfl,hq,SlOf.none _⟩,⟨hB,fun a e=>(by cases e)⟩,fun _=>hW,(fun e=>by simp at e)⟩,(fun e=>absurd e (by simp)),fun _=>rfl⟩,hb⟩
        · rw [if_neg hq]
          exact (D3 p.attr u.qi u.ci p.ints u.qw u.cw p.words p.lo p.hi w s1 s2 l1 l2 hp' (by omega)).mono fun e w' ⟨he,hb⟩=>⟨⟨⟨3,p.attr,none,0,0,none,0,0,p.lo,p.hi⟩,he,⟨⟨rfl,rfl,rfl,rfl,rfl,rfl,SlOf.none _,SlOf.none _⟩,Fr2.none2 rfl rfl,(fun e=>by simp at e),(fun e=>by simp at e)⟩,fun _=>rfl,fun _=>rfl⟩,hb⟩
    · rw [ta hp h]
      rw [h] at hp' ⊢
      exact (Ev p.attr u.qi u.ci p.ints u.qw u.cw p.words p.lo p.hi w s1 s2 l1 l2 hp' s (by rw [hs1];rfl)).mono fun e w' ⟨⟨q,c,he,hq,hB⟩,hb⟩=>⟨⟨⟨4,p.attr,none,0,0,q,1,c,0,0⟩,he,⟨⟨rfl,rfl,rfl,(by show 1=p.words.length;rw [hs1];rfl),rfl,rfl,SlOf.none _,(by show SlOf jy 1 w' q c p.words;rw [hs1];exact hq)⟩,⟨fun a e=>(by cases e),hB⟩,(fun e=>by simp at e),(fun e=>by simp at e)⟩,fun _=>rfl,(fun e=>by simp [hs1] at e)⟩,hb⟩
theorem Nz {B M:Nat} {w:World} {u:Pv} {p:Pd} (h:PdOwn B w u p) (ht:zbr u p) (hM:w.heap.size<=M):Off u (fun j=>j=M):=by
 refine ⟨fun a e hj=>?_,fun a e hj=>?_⟩
 ·by_cases hn:p.ints=[]
  ·rw [ht.1 hn] at e;cases e
  ·obtain ⟨b,off,hq2,hb,_⟩:=h.1.2.2.2.2.2.2.1.2.2.2 (List.length_pos_iff.2 hn)
   rw [e] at hq2
   cases hq2
   simp only at hj
   omega
 ·by_cases hn:p.words=[]
  ·rw [ht.2 hn] at e;cases e
  ·obtain ⟨b,off,hq2,hb,_⟩:=h.1.2.2.2.2.2.2.2.2.2.2 (List.length_pos_iff.2 hn)
   rw [e] at hq2
   cases hq2
   simp only at hj
   omega
end Go.Proofs.YtimklglliffpcaaGreat
