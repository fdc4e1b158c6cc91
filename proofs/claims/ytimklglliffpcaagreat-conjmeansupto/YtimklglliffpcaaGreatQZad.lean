/- slices.BinarySearch over numbers. -/
import Derived.Test.YtimklglliffpcaaGreatQCjNorm
import Derived.Laws.IdiomCopy
namespace Go.Proofs.YtimklglliffpcaaGreat
open Go.RowKit Go.Sort Go.Shelf

theorem lessI (a b:Int) (w:World):Calls Tryz.prog 182 #[.int .i64 a,.int .i64 b] w fun e w'=>e=.returned (.bool (decide (a < b)))∧w'=w:=by
  go_enter Tryz.func182,Tryz.ntmps182
  go_wp2_with (go_at_call 123;refine (nan_any _ _).mono ?_;rintro e w1 ⟨rfl,rfl⟩)
  go_ret
  exact ⟨rfl,rfl⟩
theorem nan2_any (a:Int) (w:World):Calls Tryz.prog 183 #[.int .i64 a] w fun e w'=>e=.returned (.bool false)∧w'=w:=by
  have h:(a != a)=false:=by simp
  go_enter Tryz.func183,Tryz.ntmps183
  go_wp2
  go_ret
  exact ⟨rfl,rfl⟩
/-- Not falling. -/
def WkI (l:List Int):Prop:=l.Pairwise (·≤·)
theorem WkI.at {l:List Int} (h:WkI l) {i j:Nat} {x y:Int} (hij:i≤j) (hx:l[i]? = some x) (hy:l[j]? = some y):x≤y:=by
  by_cases e:i=j
  · subst e;rw [hx] at hy;cases hy;exact Int.le_refl _
  · obtain ⟨hi,rfl⟩:=List.getElem?_eq_some_iff.1 hx
    obtain ⟨hj,rfl⟩:=List.getElem?_eq_some_iff.1 hy
    exact (List.pairwise_iff_getElem.1 h) i j hi hj (by omega)
theorem memI_at {l:List Int} (h:WkI l) {p:Int} {i:Nat} (h1:∀ x,0 < i→l[i - 1]? = some x→x < p) (hi:i≤l.length) (h2:∀ x,l[i]? = some x→p≤x):p ∈ l ↔ l[i]? = some p:=by
  constructor
  · intro hm
    obtain ⟨j,hj,e⟩:=List.getElem_of_mem hm
    have hjp:l[j]? = some p:=by rw [List.getElem?_eq_getElem hj,e]
    by_cases hji:j < i
    · obtain ⟨z,hz,_⟩:=get_at (l:=l) (k:=i - 1) (by omega)
      have h3:=h1 z (by omega) hz
      have h4:=h.at (by omega) hjp hz
      omega
    · obtain ⟨z,hz,_⟩:=get_at (l:=l) (k:=i) (by omega)
      have h3:=h2 z hz
      have h4:=h.at (by omega) hz hjp
      rw [hz];congr 1;omega
  · intro e
    exact List.mem_of_getElem? e
set_option maxHeartbeats 2000000 in
set_option maxRecDepth 100000 in
theorem searchI (q:Option Addr) (c:Nat) (l:List Int) (p:Int) (w:World) (hs:SlOf encI 1 w q c l) (hl:l.length≤100000000000000) (hst:WkI l) :
    Calls Tryz.prog 151 #[.slice q l.length c,.int .i64 p] w fun e w'=>(∃ n:Nat,e=.returned (.tuple #[.int .i64 (n:Nat),.bool (decide (p ∈ l))]))∧w'=w:=by
  have HS:=hide hs
  have HST:=hide hst
  have l1:(l.length:Int)≤100000000000000:=by omega
  clear hs hst
  go_enter Tryz.func151,Tryz.ntmps151
  go_wp2
  go_loopw [7,8] (fun s9 s10 wr=>∃ lo hi:Nat,s9=.int .i64 lo∧s10=.int .i64 hi∧lo≤hi∧hi≤l.length∧(∀ x,0 < lo→l[lo - 1]? = some x→x < p)∧(∀ x,l[hi]? = some x→p≤x)∧wr=w) (fun s9 s10 _=>(intOf s10).toNat - (intOf s9).toNat)
  case atStart=>exact ⟨0,l.length,rfl,rfl,Nat.zero_le _,Nat.le_refl _,fun x h=>by omega,fun x h=>by simp at h,rfl⟩
  case round =>
    obtain ⟨lo,hi,rfl,rfl,hlh,hin,h1,h2,rfl⟩:=hrel
    have H1:=hide h1
    have H2:=hide h2
    by_cases hlt:lo < hi
    · obtain ⟨m,hm,hm1,hm2⟩:∃ m:Nat,((lo:Int) + (hi:Int)) / 2=(m:Int)∧lo≤m∧m < hi:=⟨(lo + hi) / 2,by omega,by omega,by omega⟩
      obtain ⟨y,hy,_⟩:=get_at (l:=l) (k:=m) (by omega)
      obtain ⟨b,off,hq,hbs,c0⟩:=intAt (uh HS) hy
      have HY:=hide hy
      have m0:(0:Int)≤(m:Int):=by omega
      have m1:(m:Int) < (l.length:Int):=by omega
      subst hq
      clear h1 h2 hy
      by_cases hyx:y < p
      · have hd:decide (y < p)=true:=decide_eq_true hyx
        go_wp2_with (go_at_call 182;refine (lessI _ _ _).mono ?_;rintro e w1 ⟨rfl,rfl⟩)
        go_roundw
        case rel=>exact ⟨m + 1,hi,by go_num,rfl,by omega,hin,fun x _ hx=>(by rw [Nat.add_sub_cancel,uh HY] at hx;cases hx;exact hyx),uh H2,trivial⟩
        case measure=>simp [intOf];omega
      · have hd:decide (y < p)=false:=decide_eq_false hyx
        go_wp2_with (go_at_call 182;refine (lessI _ _ _).mono ?_;rintro e w1 ⟨rfl,rfl⟩)
        go_roundw
        case rel=>exact ⟨lo,m,rfl,rfl,by omega,by omega,uh H1,fun x hx=>(by rw [uh HY] at hx;cases hx;omega),trivial⟩
        case measure=>simp [intOf];omega
    · obtain rfl:hi=lo:=by omega
      have HE:=hide (memI_at (uh HST) h1 hin h2)
      by_cases hn:hi < l.length
      · obtain ⟨y,hy,_⟩:=get_at (l:=l) (k:=hi) hn
        obtain ⟨b,off,hq,hbs,c0⟩:=intAt (uh HS) hy
        have hpy:p ∈ l ↔ y=p:=by rw [uh HE,hy];simp
        have HPY:=hide hpy
        subst hq
        clear h1 h2 hy hpy
        by_cases e:y=p
        · have e1:(y == p)=true:=by simpa using e
          have HR:=hide (decide_eq_true ((uh HPY).2 e))
          clear e
          go_wp2_with (go_at_call 183;refine (nan2_any _ _).mono ?_;rintro e w1 ⟨rfl,rfl⟩)
          go_ret2
          exact ⟨⟨hi,by rw [uh HR];rfl⟩,rfl⟩
        · have e1:(y == p)=false:=by simpa using e
          have HR:=hide (decide_eq_false (fun h=>e ((uh HPY).1 h)))
          clear e
          go_wp2_with (go_at_call 183;refine (nan2_any _ _).mono ?_;rintro e w1 ⟨rfl,rfl⟩)
          go_ret2
          exact ⟨⟨hi,by rw [uh HR];rfl⟩,rfl⟩
      · have HR:=hide (show decide (p ∈ l)=false by
          refine decide_eq_false fun h=>?_
          have:=(uh HE).1 h
          rw [List.getElem?_eq_none (by omega)] at this;cases this)
        clear h1 h2
        go_wp2
        go_ret2
        exact ⟨⟨hi,by rw [uh HR];rfl⟩,rfl⟩
theorem less_B (a b:ByteArray):Op.bytesLess a.toList b.toList=decide (cmpB a b < 0):=by
  rw [ByteArray.toList_eq,ByteArray.toList_eq]
  rcases hb:Op.bytesLess a.data.toList b.data.toList with _ | _
  · symm
    rw [decide_eq_false_iff_not]
    unfold cmpB cmpS
    rw [hb]
    rw [if_neg (by simp)]
    split <;> decide
  · symm
    rw [decide_eq_true_iff]
    unfold cmpB
    rw [cmpS_lt hb]
    decide
theorem hasS_mem {v:ByteArray} {l:List ByteArray}:hasS v l=true ↔ v ∈ l:=by
  unfold hasS
  rw [List.any_eq_true]
  constructor
  · rintro ⟨x,hx,h⟩
    by_cases e:v=x
    · rw [e];exact hx
    · rw [toList_ne e] at h;cases h
  · exact fun h=>⟨v,h,by simp⟩
theorem hasS_not {v:ByteArray} {l:List ByteArray} (h:¬ v ∈ l):hasS v l=false:=by
  cases hs:hasS v l with
  | false=>rfl
  | true=>exact absurd (hasS_mem.1 hs) h
theorem lessS (a b:ByteArray) (w:World):Calls Tryz.prog 184 #[.string a,.string b] w fun e w'=>e=.returned (.bool (decide (cmpB a b < 0)))∧w'=w:=by
  have h:=less_B a b
  go_enter Tryz.func184,Tryz.ntmps184
  go_wp2_with (go_at_call 165;refine (nanS_any _ _).mono ?_;rintro e w1 ⟨rfl,rfl⟩)
  go_ret
  exact ⟨rfl,rfl⟩
theorem nan2S (a:ByteArray) (w:World):Calls Tryz.prog 185 #[.string a] w fun e w'=>e=.returned (.bool false)∧w'=w:=by
  have h:(a.toList == a.toList)=true:=by simp
  go_enter Tryz.func185,Tryz.ntmps185
  go_wp2
  go_ret
  exact ⟨by simp,rfl⟩
def WkS (l:List ByteArray):Prop:=l.Pairwise fun a b=>cmpB a b≤0
theorem WkS.at {l:List ByteArray} (h:WkS l) {i j:Nat} {x y:ByteArray} (hij:i≤j) (hx:l[i]? = some x) (hy:l[j]? = some y):cmpB x y≤0:=by
  by_cases e:i=j
  · subst e;rw [hx] at hy;cases hy;rw [(isCmp_B.eq x x).2 rfl];exact Int.le_refl _
  · obtain ⟨hi,rfl⟩:=List.getElem?_eq_some_iff.1 hx
    obtain ⟨hj,rfl⟩:=List.getElem?_eq_some_iff.1 hy
    exact (List.pairwise_iff_getElem.1 h) i j hi hj (by omega)
theorem memS_at {l:List ByteArray} (h:WkS l) {p:ByteArray} {i:Nat} (h1:∀ x,0 < i→l[i - 1]? = some x→cmpB x p < 0) (hi:i≤l.length) (h2:∀ x,l[i]? = some x→cmpB p x≤0):p ∈ l ↔ l[i]? = some p:=by
  constructor
  · intro hm
    obtain ⟨j,hj,e⟩:=List.getElem_of_mem hm
    have hjp:l[j]? = some p:=by rw [List.getElem?_eq_getElem hj,e]
    by_cases hji:j < i
    · obtain ⟨z,hz,_⟩:=get_at (l:=l) (k:=i - 1) (by omega)
      have h3:=h1 z (by omega) hz
      have h4:=h.at (by omega) hjp hz
      have h5:=isCmp_B.neg p z
      omega
    · obtain ⟨z,hz,_⟩:=get_at (l:=l) (k:=i) (by omega)
      have h3:=h2 z hz
      have h4:=h.at (by omega) hz hjp
      have h5:=isCmp_B.neg p z
      rw [hz,(isCmp_B.eq z p).1 (by omega)]
  · intro e
    exact List.mem_of_getElem? e
set_option maxHeartbeats 2000000 in
set_option maxRecDepth 100000 in
theorem searchS (q:Option Addr) (c:Nat) (l:List ByteArray) (p:ByteArray) (w:World) (hs:SlOf encS 1 w q c l) (hl:l.length≤100000000000000) (hst:WkS l) :
    Calls Tryz.prog 153 #[.slice q l.length c,.string p] w fun e w'=>(∃ n:Nat,e=.returned (.tuple #[.int .i64 (n:Nat),.bool (hasS p l)]))∧w'=w:=by
  have HS:=hide hs
  have HST:=hide hst
  have l1:(l.length:Int)≤100000000000000:=by omega
  clear hs hst
  go_enter Tryz.func153,Tryz.ntmps153
  go_wp2
  go_loopw [7,8] (fun s9 s10 wr=>∃ lo hi:Nat,s9=.int .i64 lo∧s10=.int .i64 hi∧lo≤hi∧hi≤l.length∧(∀ x,0 < lo→l[lo - 1]? = some x→cmpB x p < 0)∧(∀ x,l[hi]? = some x→cmpB p x≤0)∧wr=w) (fun s9 s10 _=>(intOf s10).toNat - (intOf s9).toNat)
  case atStart=>exact ⟨0,l.length,rfl,rfl,Nat.zero_le _,Nat.le_refl _,fun x h=>by omega,fun x h=>by simp at h,rfl⟩
  case round =>
    obtain ⟨lo,hi,rfl,rfl,hlh,hin,h1,h2,rfl⟩:=hrel
    have H1:=hide h1
    have H2:=hide h2
    by_cases hlt:lo < hi
    · obtain ⟨m,hm,hm1,hm2⟩:∃ m:Nat,((lo:Int) + (hi:Int)) / 2=(m:Int)∧lo≤m∧m < hi:=⟨(lo + hi) / 2,by omega,by omega,by omega⟩
      obtain ⟨y,hy,_⟩:=get_at (l:=l) (k:=m) (by omega)
      obtain ⟨b,off,hq,hbs,c0⟩:=strAt (uh HS) hy
      have HY:=hide hy
      have m0:(0:Int)≤(m:Int):=by omega
      have m1:(m:Int) < (l.length:Int):=by omega
      subst hq
      clear h1 h2 hy
      by_cases hyx:cmpB y p < 0
      · have hd:decide (cmpB y p < 0)=true:=decide_eq_true hyx
        go_wp2_with (go_at_call 184;refine (lessS _ _ _).mono ?_;rintro e w1 ⟨rfl,rfl⟩)
        go_roundw
        case rel=>exact ⟨m + 1,hi,by go_num,rfl,by omega,hin,fun x _ hx=>(by rw [Nat.add_sub_cancel,uh HY] at hx;cases hx;exact hyx),uh H2,trivial⟩
        case measure=>simp [intOf];omega
      · have hd:decide (cmpB y p < 0)=false:=decide_eq_false hyx
        go_wp2_with (go_at_call 184;refine (lessS _ _ _).mono ?_;rintro e w1 ⟨rfl,rfl⟩)
        go_roundw
        case rel=>exact ⟨lo,m,rfl,rfl,by omega,by omega,uh H1,fun x hx=>(by rw [uh HY] at hx;cases hx;have:=isCmp_B.neg y p;omega),trivial⟩
        case measure=>simp [intOf];omega
    · obtain rfl:hi=lo:=by omega
      have HE:=hide (memS_at (uh HST) h1 hin h2)
      by_cases hn:hi < l.length
      · obtain ⟨y,hy,_⟩:=get_at (l:=l) (k:=hi) hn
        obtain ⟨b,off,hq,hbs,c0⟩:=strAt (uh HS) hy
        have hpy:p ∈ l ↔ y=p:=by rw [uh HE,hy];simp
        have HPY:=hide hpy
        subst hq
        clear h1 h2 hy hpy
        by_cases e:y=p
        · have e1:(y.toList == p.toList)=true:=by simp [e]
          have HR:=hide (hasS_mem.2 ((uh HPY).2 e))
          clear e
          go_wp2_with (go_at_call 185;refine (nan2S _ _).mono ?_;rintro e w1 ⟨rfl,rfl⟩)
          go_ret2
          exact ⟨⟨hi,by rw [uh HR];rfl⟩,rfl⟩
        · have e1:(y.toList == p.toList)=false:=toList_ne e
          have HR:=hide (hasS_not (fun h=>e ((uh HPY).1 h)))
          clear e
          go_wp2_with (go_at_call 185;refine (nan2S _ _).mono ?_;rintro e w1 ⟨rfl,rfl⟩)
          go_ret2
          exact ⟨⟨hi,by rw [uh HR];rfl⟩,rfl⟩
      · have HR:=hide (show hasS p l=false by
          refine hasS_not fun h=>?_
          have:=(uh HE).1 h
          rw [List.getElem?_eq_none (by omega)] at this;cases this)
        clear h1 h2
        go_wp2
        go_ret2
        exact ⟨⟨hi,by rw [uh HR];rfl⟩,rfl⟩
end Go.Proofs.YtimklglliffpcaaGreat
namespace Go.Proofs.YtimklglliffpcaaGreat
open Go.RowKit Go.Sort Go.Shelf

def vI (x:Int):Value:=.int .i64 x
def vS (x:ByteArray):Value:=.string x
/-- A row of one-cell things that may be written. -/
def Rw {α:Type} (enc:α→Value) (w:World) (g:Nat) (l:List α):Prop:=g < w.heap.size∧∀ (j:Nat) (x:α),l[j]? = some x→w.cell? ⟨g,j,none⟩=some (enc x)∧w.frozen? ⟨g,j,none⟩=false
theorem Rw.kept {α:Type} {enc:α→Value} {w w':World} {g:Nat} {l:List α} (h:Rw enc w g l) (hs:w.heap.size≤w'.heap.size) (hb:w'.heap[g]? = w.heap[g]?):Rw enc w' g l :=
  ⟨Nat.lt_of_lt_of_le h.1 hs,fun j x hx=>⟨(World.cell?_of_block (a:=⟨g,j,none⟩) hb).trans (h.2 j x hx).1,(World.frozen?_of_block (a:=⟨g,j,none⟩) hb).trans (h.2 j x hx).2⟩⟩
theorem Rw.below {α:Type} {enc:α→Value} {w w':World} {g:Nat} {l:List α} (h:Rw enc w g l) (hb:Below w.heap.size w w'):Rw enc w' g l:=h.kept hb.size (hb.block g h.1)
theorem Rw.put {α:Type} {enc:α→Value} {w:World} {g:Nat} {l:List α} (h:Rw enc w g l) (k:Nat) (x:α) (hk:k < l.length):Rw enc (w.setCell ⟨g,k,none⟩ (enc x)) g (l.set k x):=by
  refine ⟨by simpa using h.1,fun j y hy=>?_⟩
  have hfz:(w.setCell ⟨g,k,none⟩ (enc x)).frozen? ⟨g,j,none⟩=w.frozen? ⟨g,j,none⟩:=by go_simp
  rw [hfz]
  by_cases e:j=k
  · subst e
    rw [List.getElem?_set_self hk] at hy
    cases hy
    obtain ⟨z,hz,_⟩:=get_at hk
    obtain ⟨h1,h2⟩:=h.2 j z hz
    refine ⟨?_,h2⟩
    have:=World.cell?_setCells_in g [enc x] j w (fun t ht=>by
      obtain rfl:t=0:=by simpa using ht
      rw [Nat.add_zero,h1];rfl) 0 (by simp)
    simpa [World.setCells] using this
  · rw [List.getElem?_set_ne (fun h=>e h.symm)] at hy
    obtain ⟨h1,h2⟩:=h.2 j y hy
    refine ⟨?_,h2⟩
    rw [World.cell?_setCell_other w ⟨g,k,none⟩ ⟨g,j,none⟩ (enc x) (by intro q;injection q with _ q2;exact e q2.symm)]
    exact h1
theorem below_setCellsC (g:Nat):∀ (vs:List Value) (o:Nat) (w:World),True∧w.heap.size≤(w.setCells g o vs).heap.size
  | [],_,_=>⟨trivial,Nat.le_refl _⟩
  | v :: vs,o,w=>⟨trivial,by
    have:=(below_setCellsC g vs (o + 1) (w.setCell ⟨g,o,none⟩ v)).2
    simpa [World.setCells] using this⟩
theorem Rw.cut {α:Type} {enc:α→Value} {w:World} {g:Nat} {l:List α} (h:Rw enc w g l) (k:Nat) (vs:List Value):Rw enc (w.setCells g k vs) g (l.take k):=by
  refine ⟨Nat.lt_of_lt_of_le h.1 (below_setCellsC g vs k w).2,fun j x hx=>?_⟩
  have hj:j < k:=by
    by_cases hjk:j < k
    · exact hjk
    · rw [List.getElem?_eq_none (by rw [List.length_take];omega)] at hx
      cases hx
  rw [List.getElem?_take_of_lt hj] at hx
  obtain ⟨h1,h2⟩:=h.2 j x hx
  rw [World.frozen?_setCells,World.cell?_setCells_out g vs k w ⟨g,j,none⟩ (fun _ _=>Or.inl hj)]
  exact ⟨h1,h2⟩
theorem grown_belowC {w w':World} (h:Below w.heap.size w w') (r:Option Nat):w.grownBy w' r:=⟨h.os,h.tape,h.output,h.size,fun k hk _=>h.block k hk⟩
theorem grown_twoC {w w1 w2:World} {r:Option Nat} (h:w.grownBy w1 r) (h2:w1.grownBy w2 r):w.grownBy w2 r:=⟨h2.os.trans h.os,h2.tape.trans h.tape,h2.output.trans h.output,Nat.le_trans h.size h2.size,fun k hk hr=>(h2.block k (Nat.lt_of_lt_of_le hk h.size) hr).trans (h.block k hk hr)⟩
theorem grown_setC {w w':World} {g:Nat} (h:w.grownBy w' (some g)) (o:Nat) (v:Value):w.grownBy (w'.setCell ⟨g,o,none⟩ v) (some g):=by
  refine grown_twoC h ⟨rfl,rfl,rfl,by simp,fun k _ hr=>?_⟩
  have hne:g ≠ k:=fun e=>hr (by rw [e])
  simp [World.setCell,Array.getElem?_modify,hne]
theorem grown_cellsC {w w':World} {g:Nat} (h:w.grownBy w' (some g)) (vs:List Value) (o:Nat):w.grownBy (w'.setCells g o vs) (some g):=by
  induction vs generalizing w' o with
  | nil=>exact h
  | cons v vs ih=>exact ih (grown_setC h o v) (o + 1)
def fstP {α:Type} (p:α→Bool):List α→Nat
  | []=>0
  | x :: l=>if p x then 0 else fstP p l + 1
def idxP {α:Type} (p:α→Bool) (l:List α):Int:=if fstP p l < l.length then (fstP p l:Int) else -1
theorem fstP_at {α:Type} {p:α→Bool}:∀ {l:List α} {k:Nat} {x:α},(∀ (t:Nat) (y:α),t < k→l[t]? = some y→p y=false)→l[k]? = some x→p x=true→fstP p l=k
  | [],k,x,_,hx,_=>by simp at hx
  | y :: l,0,x,_,hx,hp=>by
    simp at hx
    subst hx
    simp [fstP,hp]
  | y :: l,k + 1,x,h,hx,hp=>by
    have h0:=h 0 y (by omega) rfl
    have ih:=fstP_at (l:=l) (k:=k) (x:=x) (fun t z ht hz=>h (t + 1) z (by omega) (by simpa using hz)) (by simpa using hx) hp
    simp [fstP,h0,ih]
theorem fstP_none {α:Type} {p:α→Bool}:∀ {l:List α},(∀ (t:Nat) (y:α),l[t]? = some y→p y=false)→fstP p l=l.length
  | [],_=>rfl
  | y :: l,h=>by
    have h0:=h 0 y rfl
    have ih:=fstP_none (l:=l) (fun t z hz=>h (t + 1) z (by simpa using hz))
    simp [fstP,h0,ih]
theorem idxP_at {α:Type} {p:α→Bool} {l:List α} {k:Nat} {x:α} (h:∀ (t:Nat) (y:α),t < k→l[t]? = some y→p y=false) (hx:l[k]? = some x) (hp:p x=true):idxP p l=(k:Int):=by
  have e:=fstP_at h hx hp
  unfold idxP
  rw [e,if_pos (List.getElem?_eq_some_iff.1 hx).1]
theorem idxP_none {α:Type} {p:α→Bool} {l:List α} (h:∀ (t:Nat) (y:α),l[t]? = some y→p y=false):idxP p l=-1:=by
  unfold idxP
  rw [fstP_none h,if_neg (by omega)]
theorem fst_out {α:Type} {p:α→Bool}:∀ {l:List α},fstP p l < l.length→∃ x,l[fstP p l]? = some x∧p x=true∧((l.take (fstP p l + 1)).filter fun x=>!p x)=l.take (fstP p l)
  | [],h=>by simp at h
  | y :: l,h=>by
    cases hp:p y with
    | true=>exact ⟨y,by simp [fstP,hp],hp,by simp [fstP,hp]⟩
    | false =>
      have e:fstP p (y :: l)=fstP p l + 1:=by simp [fstP,hp]
      rw [e] at h ⊢
      obtain ⟨x,h1,h2,h3⟩:=fst_out (l:=l) (by simpa using h)
      refine ⟨x,by simpa using h1,h2, ?_⟩
      rw [List.take_succ_cons,List.take_succ_cons,List.filter_cons,hp]
      simpa using h3
theorem fst_all {α:Type} {p:α→Bool}:∀ {l:List α},¬ fstP p l < l.length→(l.filter fun x=>!p x)=l
  | [],_=>rfl
  | y :: l,h=>by
    cases hp:p y with
    | true=>exact absurd (by simp [fstP,hp]) h
    | false =>
      have e:fstP p (y :: l)=fstP p l + 1:=by simp [fstP,hp]
      rw [e] at h
      rw [List.filter_cons,hp]
      simp only [Bool.not_false,if_true]
      rw [fst_all (l:=l) (by simpa using h)]
theorem clearI (w:World) (ty:TypeId) (g o n c:Nat) (hn:0 < n) (hc:∀ j,j < n * 1→(w.cell? ⟨g,o + j,none⟩).isSome=true) (hf:∀ j,j < n * 1→w.frozen? ⟨g,o + j,none⟩=false) :
    (Builtin.clear_ #[23] ty #[.slice (some ⟨g,o,none⟩) n c]).run Tryz.prog w=.ok (.tuple #[]) (w.setCells g o (Builtin.zeroCells #[.int .i64 0] n).toList):=by
  have hl:(Builtin.zeroCells #[.int .i64 0] n).toList.length=n * 1:=by rw [Array.length_toList,size_zeroCells];rfl
  have hst:=run_storeCells_cells (P:=Tryz.prog) g o (Builtin.zeroCells #[.int .i64 0] n).toList 0 w (by rw [hl];exact hc) (by rw [hl];exact hf) (by
    intro v hv'
    simp only [Builtin.zeroCells,Array.toList_map,List.mem_map] at hv'
    obtain ⟨i,_,rfl⟩:=hv'
    have hm:i % 1=0:=by omega
    simp only [List.size_toArray,List.length_cons,List.length_nil,Nat.zero_add]
    rw [hm]
    rfl)
  simp only [Nat.add_zero] at hst
  obtain ⟨m,rfl⟩:∃ m,n=m + 1:=⟨n - 1,by omega⟩
  have hv:=Tryz.zeroValue3
  simp [Builtin.clear_,run_underlying Tryz.underlying23,hv,Value.cells,hst]
set_option maxHeartbeats 1000000 in
set_option maxRecDepth 100000 in
theorem idxFI (g cap M:Nat) (l:List Int) (p:Int→Bool) (w:World) (hr:Rw vI w g l) (hl:l.length≤100000000000000) (hP:∀ (W:World) (x:Int),w.grownBy W (some g)→Calls Tryz.prog 101 #[.int .i64 x,.pointer (some ⟨M,0,none⟩)] W fun e w'=>e=.returned (.bool (p x))∧Below W.heap.size W w') :
    Calls Tryz.prog 150 #[.slice (some ⟨g,0,none⟩) l.length cap,.func (.func 101) #[] #[.pointer (some ⟨M,0,none⟩)]] w fun e w'=>e=.returned (.int .i64 (idxP p l))∧Below w.heap.size w w':=by
  have l1:(l.length:Int)≤100000000000000:=by omega
  have HR:=hide hr
  clear hr
  go_enter Tryz.func150,Tryz.ntmps150
  go_wp2
  go_loopw [8] (fun i wr=>∃ k:Nat,k≤l.length∧i=.int .i64 k∧Hid (∀ (t:Nat) (x:Int),t < k→l[t]? = some x→p x=false)∧Hid (Below w.heap.size w wr)) (fun i _=>l.length - (intOf i).toNat)
  case atStart=>exact ⟨0,by omega,rfl,hide (fun t x h=>absurd h (by omega)),hide (Below.refl _ _)⟩
  case round =>
    obtain ⟨k,hk,rfl,HA,HB⟩:=hrel
    by_cases hlt:k < l.length
    · obtain ⟨x,hx,_⟩:=get_at hlt
      have hc:=(((uh HR).below (uh HB)).2 k x hx).1
      unfold vI at hc
      have ki0:(0:Int)≤(k:Int):=by omega
      have ki1:(k:Int) < (l.length:Int):=by omega
      have hD:=hP wr x (grown_belowC (uh HB) _)
      have HX:=hide hx
      clear hx
      cases hin:p x with
      | true =>
        rw [hin] at hD
        have HN:=hide (show (k:Int)=idxP p l by rw [idxP_at (uh HA) (uh HX) hin])
        go_wp2_with (go_at_call 101;refine hD.mono ?_;rintro e w2 ⟨rfl,b2⟩;have B2:=hide b2;clear b2)
        go_ret
        exact ⟨ret_int (uh HN),below_sub (uh HB) (uh B2)⟩
      | false =>
        rw [hin] at hD
        go_wp2_with (go_at_call 101;refine hD.mono ?_;rintro e w2 ⟨rfl,b2⟩;have B2:=hide b2;clear b2)
        go_roundw
        case rel =>
          exact ⟨k + 1,by omega,by go_num,hide (fun t y ht hy=>by
            by_cases e:t=k
            · subst e
              rw [uh HX] at hy
              cases hy
              exact hin
            · exact uh HA t y (by omega) hy),hide (below_sub (uh HB) (uh B2))⟩
        case measure=>simp [intOf];omega
    · have ki1:¬ (k:Int) < (l.length:Int):=by omega
      have HN:=hide (show -1=idxP p l by rw [idxP_none (fun t x h=>uh HA t x (by have:=(List.getElem?_eq_some_iff.1 h).1;omega) h)])
      go_wp2
      go_ret
      exact ⟨ret_int (uh HN),uh HB⟩
set_option maxHeartbeats 4000000 in
set_option maxRecDepth 100000 in
/-- slices.DeleteFunc of numbers. -/
theorem deleteI (g cap M:Nat) (l:List Int) (p:Int→Bool) (w:World) (hr:Rw vI w g l) (hl:l.length≤100000000000000) (hcap:l.length≤cap) (hP:∀ (W:World) (x:Int),w.grownBy W (some g)→Calls Tryz.prog 101 #[.int .i64 x,.pointer (some ⟨M,0,none⟩)] W fun e w'=>e=.returned (.bool (p x))∧Below W.heap.size W w') :
    Calls Tryz.prog 100 #[.slice (some ⟨g,0,none⟩) l.length cap,.func (.func 101) #[] #[.pointer (some ⟨M,0,none⟩)]] w fun e w'=>e=.returned (.slice (some ⟨g,0,none⟩) (l.filter fun x=>!p x).length cap)∧Rw vI w' g (l.filter fun x=>!p x)∧w.grownBy w' (some g):=by
  have hI:=idxFI g cap M l p w hr hl hP
  have i3:(l.length:Int)≤100000000000000:=by omega
  have HR:=hide hr
  by_cases hf:fstP p l < l.length
  · obtain ⟨x0,hx0,hin0,hfil⟩:=fst_out hf
    obtain ⟨i0,hi0⟩:∃ i0,fstP p l=i0:=⟨_,rfl⟩
    have hidx:idxP p l=(i0:Int):=by unfold idxP;rw [if_pos hf,hi0]
    rw [hidx] at hI
    rw [hi0] at hfil hf
    have ne1:((i0:Int) == -1)=false:=by rw [beq_eq_false_iff_ne];omega
    have HFIL:=hide hfil
    have i0l:(i0:Int)≤100000000000000:=by omega
    clear hr hidx hfil hx0 hi0
    go_enter Tryz.func100,Tryz.ntmps100
    go_wp2_with (go_at_call 150;refine hI.mono ?_;rintro e w1 ⟨rfl,b1⟩;have G1:=hide (grown_belowC b1 (some g));have HR1:=hide ((uh HR).below b1);clear b1)
    go_loopw [5,6] (fun a b wr=>∃ (k j:Nat) (d:List Int),j≤l.length∧k < j∧a=.int .i64 (k:Int)∧b=.int .i64 (j:Int)∧Hid (d.length=l.length)∧Hid (((l.take j).filter fun x=>!p x).length=k)∧Hid (d.take k=(l.take j).filter fun x=>!p x)∧Hid (∀ t,j≤t→d[t]? = l[t]?)∧Hid (Rw vI wr g d)∧Hid (w.grownBy wr (some g))) (fun _ b _=>l.length - (intOf b).toNat)
    case atStart=>exact ⟨i0,i0 + 1,l,by omega,by omega,rfl,by go_num,hide rfl,hide (by rw [uh HFIL,List.length_take];omega),hide (uh HFIL).symm,hide (fun _ _=>rfl),HR1,G1⟩
    case round =>
      obtain ⟨k,j,d,hj,hkj,rfl,rfl,HD,HK,HDK,HDI,HO,HG⟩:=hrel
      have k0:(0:Int)≤(k:Int):=by omega
      have k1:(k:Int) < (l.length:Int):=by omega
      have k2:(k:Int)≤(l.length:Int):=by omega
      have k3:(k:Int)≤100000000000000:=by omega
      have j0:(0:Int)≤(j:Int):=by omega
      by_cases hlt:j < l.length
      · obtain ⟨x,hx,_⟩:=get_at hlt
        have a0:=((uh HO).2 j x ((uh HDI _ (Nat.le_refl _)).trans hx)).1
        unfold vI at a0
        have j1:(j:Int) < (l.length:Int):=by omega
        have hD:=hP wr x (uh HG)
        have HXX:=hide hx
        cases hin:p x with
        | false =>
          rw [hin] at hD
          have HN:=hide (show ((l.take (j + 1)).filter fun x=>!p x)=((l.take j).filter fun x=>!p x) ++ [x] by rw [take_snoc_of hx,List.filter_append];simp [hin])
          clear hx
          go_wp2_with (go_at_call 101;refine hD.mono ?_;rintro e w2 ⟨rfl,b2⟩;have HOY:=hide ((uh HO).below b2);have HGY:=hide (grown_twoC (uh HG) (grown_belowC b2 (some g)) );(obtain ⟨z,hz,_⟩:=get_at (l:=d) (k:=k) (by have:=uh HD;omega));have z0:=((uh HOY).2 k z hz).1;have z1:=((uh HOY).2 k z hz).2;unfold vI at z0;clear b2 hz)
          go_roundw
          case rel=>exact ⟨k + 1,j + 1,d.set k x,by omega,by omega,by go_num,by go_num,hide (by rw [List.length_set];exact uh HD),hide (by rw [uh HN,List.length_append,uh HK];rfl),hide (by rw [uh HN,← uh HDK,take_snoc_of (x:=x) (by rw [List.getElem?_set_self (by have:=uh HD;omega)]),List.take_set_of_le (Nat.le_refl k)]),hide (fun t ht=>by rw [List.getElem?_set_ne (by omega)];exact uh HDI t (by omega)),hide ((uh HOY).put k x (by have:=uh HD;omega)),hide (grown_setC (uh HGY) k _)⟩
          case measure=>simp [intOf];omega
        | true =>
          rw [hin] at hD
          have HN:=hide (show ((l.take (j + 1)).filter fun x=>!p x)=((l.take j).filter fun x=>!p x) by rw [take_snoc_of hx,List.filter_append];simp [hin])
          clear hx
          go_wp2_with (go_at_call 101;refine hD.mono ?_;rintro e w2 ⟨rfl,b2⟩;have HOY:=hide ((uh HO).below b2);have HGY:=hide (grown_twoC (uh HG) (grown_belowC b2 (some g)));clear b2)
          go_roundw
          case rel=>exact ⟨k,j + 1,d,by omega,by omega,rfl,by go_num,HD,hide (by rw [uh HN];exact uh HK),hide (by rw [uh HN];exact uh HDK),hide (fun t ht=>uh HDI t (by omega)),HOY,HGY⟩
          case measure=>simp [intOf];omega
      · have j1:¬ (j:Int) < (l.length:Int):=by omega
        have e1:l.take j=l:=List.take_of_length_le (by omega)
        have HE:=hide e1
        obtain ⟨n3,hn3⟩:∃ n3,l.length - k=n3:=⟨_,rfl⟩
        obtain ⟨c3,hc3⟩:∃ c3,cap - k=c3:=⟨_,rfl⟩
        have nc4:¬ cap=k:=by omega
        have nc5:(k:Int)≤(cap:Int):=by omega
        have nc3:(l.length:Int)≤(cap:Int):=by omega
        have hcl:=fun ty=>clearI wr ty g k n3 c3 (by omega) (fun t ht=>by
          obtain ⟨u,hu,_⟩:=get_at (l:=d) (k:=k + t) (by have:=uh HD;omega)
          rw [((uh HO).2 _ u hu).1];rfl) (fun t ht=>by
          obtain ⟨u,hu,_⟩:=get_at (l:=d) (k:=k + t) (by have:=uh HD;omega)
          exact ((uh HO).2 _ u hu).2)
        generalize hvs:(Builtin.zeroCells #[.int .i64 0] n3).toList=vs at hcl
        clear e1 hvs
        go_wp2
        go_ret
        have hke:(l.filter fun x=>!p x).length=k:=by have:=uh HK;rw [uh HE] at this;exact this
        have hde:d.take k=l.filter fun x=>!p x:=by have:=uh HDK;rw [uh HE] at this;exact this
        refine ⟨by rw [hke];rfl, ?_,grown_cellsC (uh HG) vs k⟩
        have:=(uh HO).cut k vs
        rw [hde] at this
        exact this
  · have hidx:idxP p l=-1:=by unfold idxP;rw [if_neg hf]
    rw [hidx] at hI
    have HA:=hide (fst_all hf)
    clear hr hidx
    go_enter Tryz.func100,Tryz.ntmps100
    go_wp2_with (go_at_call 150;refine hI.mono ?_;rintro e w1 ⟨rfl,b1⟩;have B1:=hide b1;clear b1)
    go_ret
    rw [uh HA]
    exact ⟨rfl,(uh HR).below (uh B1),grown_belowC (uh B1) _⟩
theorem clearS (w:World) (ty:TypeId) (g o n c:Nat) (hn:0 < n) (hc:∀ j,j < n * 1→(w.cell? ⟨g,o + j,none⟩).isSome=true) (hf:∀ j,j < n * 1→w.frozen? ⟨g,o + j,none⟩=false) :
    (Builtin.clear_ #[24] ty #[.slice (some ⟨g,o,none⟩) n c]).run Tryz.prog w=.ok (.tuple #[]) (w.setCells g o (Builtin.zeroCells #[.string ⟨#[]⟩] n).toList):=by
  have hl:(Builtin.zeroCells #[.string ⟨#[]⟩] n).toList.length=n * 1:=by rw [Array.length_toList,size_zeroCells];rfl
  have hst:=run_storeCells_cells (P:=Tryz.prog) g o (Builtin.zeroCells #[.string ⟨#[]⟩] n).toList 0 w (by rw [hl];exact hc) (by rw [hl];exact hf) (by
    intro v hv'
    simp only [Builtin.zeroCells,Array.toList_map,List.mem_map] at hv'
    obtain ⟨i,_,rfl⟩:=hv'
    have hm:i % 1=0:=by omega
    simp only [List.size_toArray,List.length_cons,List.length_nil,Nat.zero_add]
    rw [hm]
    rfl)
  simp only [Nat.add_zero] at hst
  obtain ⟨m,rfl⟩:∃ m,n=m + 1:=⟨n - 1,by omega⟩
  have hv:=Tryz.zeroValue9
  simp [Builtin.clear_,run_underlying Tryz.underlying24,hv,Value.cells,hst]
set_option maxHeartbeats 1000000 in
set_option maxRecDepth 100000 in
theorem idxFS (g cap M:Nat) (l:List ByteArray) (p:ByteArray→Bool) (w:World) (hr:Rw vS w g l) (hl:l.length≤100000000000000) (hP:∀ (W:World) (x:ByteArray),w.grownBy W (some g)→Calls Tryz.prog 104 #[.string x,.pointer (some ⟨M,0,none⟩)] W fun e w'=>e=.returned (.bool (p x))∧Below W.heap.size W w') :
    Calls Tryz.prog 152 #[.slice (some ⟨g,0,none⟩) l.length cap,.func (.func 104) #[] #[.pointer (some ⟨M,0,none⟩)]] w fun e w'=>e=.returned (.int .i64 (idxP p l))∧Below w.heap.size w w':=by
  have l1:(l.length:Int)≤100000000000000:=by omega
  have HR:=hide hr
  clear hr
  go_enter Tryz.func152,Tryz.ntmps152
  go_wp2
  go_loopw [8] (fun i wr=>∃ k:Nat,k≤l.length∧i=.int .i64 k∧Hid (∀ (t:Nat) (x:ByteArray),t < k→l[t]? = some x→p x=false)∧Hid (Below w.heap.size w wr)) (fun i _=>l.length - (intOf i).toNat)
  case atStart=>exact ⟨0,by omega,rfl,hide (fun t x h=>absurd h (by omega)),hide (Below.refl _ _)⟩
  case round =>
    obtain ⟨k,hk,rfl,HA,HB⟩:=hrel
    by_cases hlt:k < l.length
    · obtain ⟨x,hx,_⟩:=get_at hlt
      have hc:=(((uh HR).below (uh HB)).2 k x hx).1
      unfold vS at hc
      have ki0:(0:Int)≤(k:Int):=by omega
      have ki1:(k:Int) < (l.length:Int):=by omega
      have hD:=hP wr x (grown_belowC (uh HB) _)
      have HX:=hide hx
      clear hx
      cases hin:p x with
      | true =>
        rw [hin] at hD
        have HN:=hide (show (k:Int)=idxP p l by rw [idxP_at (uh HA) (uh HX) hin])
        go_wp2_with (go_at_call 104;refine hD.mono ?_;rintro e w2 ⟨rfl,b2⟩;have B2:=hide b2;clear b2)
        go_ret
        exact ⟨ret_int (uh HN),below_sub (uh HB) (uh B2)⟩
      | false =>
        rw [hin] at hD
        go_wp2_with (go_at_call 104;refine hD.mono ?_;rintro e w2 ⟨rfl,b2⟩;have B2:=hide b2;clear b2)
        go_roundw
        case rel =>
          exact ⟨k + 1,by omega,by go_num,hide (fun t y ht hy=>by
            by_cases e:t=k
            · subst e
              rw [uh HX] at hy
              cases hy
              exact hin
            · exact uh HA t y (by omega) hy),hide (below_sub (uh HB) (uh B2))⟩
        case measure=>simp [intOf];omega
    · have ki1:¬ (k:Int) < (l.length:Int):=by omega
      have HN:=hide (show -1=idxP p l by rw [idxP_none (fun t x h=>uh HA t x (by have:=(List.getElem?_eq_some_iff.1 h).1;omega) h)])
      go_wp2
      go_ret
      exact ⟨ret_int (uh HN),uh HB⟩
set_option maxHeartbeats 4000000 in
set_option maxRecDepth 100000 in
/-- slices.DeleteFunc of words. -/
theorem deleteS (g cap M:Nat) (l:List ByteArray) (p:ByteArray→Bool) (w:World) (hr:Rw vS w g l) (hl:l.length≤100000000000000) (hcap:l.length≤cap) (hP:∀ (W:World) (x:ByteArray),w.grownBy W (some g)→Calls Tryz.prog 104 #[.string x,.pointer (some ⟨M,0,none⟩)] W fun e w'=>e=.returned (.bool (p x))∧Below W.heap.size W w') :
    Calls Tryz.prog 103 #[.slice (some ⟨g,0,none⟩) l.length cap,.func (.func 104) #[] #[.pointer (some ⟨M,0,none⟩)]] w fun e w'=>e=.returned (.slice (some ⟨g,0,none⟩) (l.filter fun x=>!p x).length cap)∧Rw vS w' g (l.filter fun x=>!p x)∧w.grownBy w' (some g):=by
  have hI:=idxFS g cap M l p w hr hl hP
  have i3:(l.length:Int)≤100000000000000:=by omega
  have HR:=hide hr
  by_cases hf:fstP p l < l.length
  · obtain ⟨x0,hx0,hin0,hfil⟩:=fst_out hf
    obtain ⟨i0,hi0⟩:∃ i0,fstP p l=i0:=⟨_,rfl⟩
    have hidx:idxP p l=(i0:Int):=by unfold idxP;rw [if_pos hf,hi0]
    rw [hidx] at hI
    rw [hi0] at hfil hf
    have ne1:((i0:Int) == -1)=false:=by rw [beq_eq_false_iff_ne];omega
    have HFIL:=hide hfil
    have i0l:(i0:Int)≤100000000000000:=by omega
    clear hr hidx hfil hx0 hi0
    go_enter Tryz.func103,Tryz.ntmps103
    go_wp2_with (go_at_call 152;refine hI.mono ?_;rintro e w1 ⟨rfl,b1⟩;have G1:=hide (grown_belowC b1 (some g));have HR1:=hide ((uh HR).below b1);clear b1)
    go_loopw [5,6] (fun a b wr=>∃ (k j:Nat) (d:List ByteArray),j≤l.length∧k < j∧a=.int .i64 (k:Int)∧b=.int .i64 (j:Int)∧Hid (d.length=l.length)∧Hid (((l.take j).filter fun x=>!p x).length=k)∧Hid (d.take k=(l.take j).filter fun x=>!p x)∧Hid (∀ t,j≤t→d[t]? = l[t]?)∧Hid (Rw vS wr g d)∧Hid (w.grownBy wr (some g))) (fun _ b _=>l.length - (intOf b).toNat)
    case atStart=>exact ⟨i0,i0 + 1,l,by omega,by omega,rfl,by go_num,hide rfl,hide (by rw [uh HFIL,List.length_take];omega),hide (uh HFIL).symm,hide (fun _ _=>rfl),HR1,G1⟩
    case round =>
      obtain ⟨k,j,d,hj,hkj,rfl,rfl,HD,HK,HDK,HDI,HO,HG⟩:=hrel
      have k0:(0:Int)≤(k:Int):=by omega
      have k1:(k:Int) < (l.length:Int):=by omega
      have k2:(k:Int)≤(l.length:Int):=by omega
      have k3:(k:Int)≤100000000000000:=by omega
      have j0:(0:Int)≤(j:Int):=by omega
      by_cases hlt:j < l.length
      · obtain ⟨x,hx,_⟩:=get_at hlt
        have a0:=((uh HO).2 j x ((uh HDI _ (Nat.le_refl _)).trans hx)).1
        unfold vS at a0
        have j1:(j:Int) < (l.length:Int):=by omega
        have hD:=hP wr x (uh HG)
        have HXX:=hide hx
        cases hin:p x with
        | false =>
          rw [hin] at hD
          have HN:=hide (show ((l.take (j + 1)).filter fun x=>!p x)=((l.take j).filter fun x=>!p x) ++ [x] by rw [take_snoc_of hx,List.filter_append];simp [hin])
          clear hx
          go_wp2_with (go_at_call 104;refine hD.mono ?_;rintro e w2 ⟨rfl,b2⟩;have HOY:=hide ((uh HO).below b2);have HGY:=hide (grown_twoC (uh HG) (grown_belowC b2 (some g)) );(obtain ⟨z,hz,_⟩:=get_at (l:=d) (k:=k) (by have:=uh HD;omega));have z0:=((uh HOY).2 k z hz).1;have z1:=((uh HOY).2 k z hz).2;unfold vS at z0;clear b2 hz)
          go_roundw
          case rel=>exact ⟨k + 1,j + 1,d.set k x,by omega,by omega,by go_num,by go_num,hide (by rw [List.length_set];exact uh HD),hide (by rw [uh HN,List.length_append,uh HK];rfl),hide (by rw [uh HN,← uh HDK,take_snoc_of (x:=x) (by rw [List.getElem?_set_self (by have:=uh HD;omega)]),List.take_set_of_le (Nat.le_refl k)]),hide (fun t ht=>by rw [List.getElem?_set_ne (by omega)];exact uh HDI t (by omega)),hide ((uh HOY).put k x (by have:=uh HD;omega)),hide (grown_setC (uh HGY) k _)⟩
          case measure=>simp [intOf];omega
        | true =>
          rw [hin] at hD
          have HN:=hide (show ((l.take (j + 1)).filter fun x=>!p x)=((l.take j).filter fun x=>!p x) by rw [take_snoc_of hx,List.filter_append];simp [hin])
          clear hx
          go_wp2_with (go_at_call 104;refine hD.mono ?_;rintro e w2 ⟨rfl,b2⟩;have HOY:=hide ((uh HO).below b2);have HGY:=hide (grown_twoC (uh HG) (grown_belowC b2 (some g)));clear b2)
          go_roundw
          case rel=>exact ⟨k,j + 1,d,by omega,by omega,rfl,by go_num,HD,hide (by rw [uh HN];exact uh HK),hide (by rw [uh HN];exact uh HDK),hide (fun t ht=>uh HDI t (by omega)),HOY,HGY⟩
          case measure=>simp [intOf];omega
      · have j1:¬ (j:Int) < (l.length:Int):=by omega
        have e1:l.take j=l:=List.take_of_length_le (by omega)
        have HE:=hide e1
        obtain ⟨n3,hn3⟩:∃ n3,l.length - k=n3:=⟨_,rfl⟩
        obtain ⟨c3,hc3⟩:∃ c3,cap - k=c3:=⟨_,rfl⟩
        have nc4:¬ cap=k:=by omega
        have nc5:(k:Int)≤(cap:Int):=by omega
        have nc3:(l.length:Int)≤(cap:Int):=by omega
        have hcl:=fun ty=>clearS wr ty g k n3 c3 (by omega) (fun t ht=>by
          obtain ⟨u,hu,_⟩:=get_at (l:=d) (k:=k + t) (by have:=uh HD;omega)
          rw [((uh HO).2 _ u hu).1];rfl) (fun t ht=>by
          obtain ⟨u,hu,_⟩:=get_at (l:=d) (k:=k + t) (by have:=uh HD;omega)
          exact ((uh HO).2 _ u hu).2)
        generalize hvs:(Builtin.zeroCells #[.string ⟨#[]⟩] n3).toList=vs at hcl
        clear e1 hvs
        go_wp2
        go_ret
        have hke:(l.filter fun x=>!p x).length=k:=by have:=uh HK;rw [uh HE] at this;exact this
        have hde:d.take k=l.filter fun x=>!p x:=by have:=uh HDK;rw [uh HE] at this;exact this
        refine ⟨by rw [hke];rfl, ?_,grown_cellsC (uh HG) vs k⟩
        have:=(uh HO).cut k vs
        rw [hde] at this
        exact this
  · have hidx:idxP p l=-1:=by unfold idxP;rw [if_neg hf]
    rw [hidx] at hI
    have HA:=hide (fst_all hf)
    clear hr hidx
    go_enter Tryz.func103,Tryz.ntmps103
    go_wp2_with (go_at_call 152;refine hI.mono ?_;rintro e w1 ⟨rfl,b1⟩;have B1:=hide b1;clear b1)
    go_ret
    rw [uh HA]
    exact ⟨rfl,(uh HR).below (uh B1),grown_belowC (uh B1) _⟩
end Go.Proofs.YtimklglliffpcaaGreat
