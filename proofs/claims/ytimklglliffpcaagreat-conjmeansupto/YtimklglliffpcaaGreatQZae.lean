/- What a normal predicate has; the longer of two prefixes. -/
import Derived.Test.YtimklglliffpcaaGreatQZad
import Derived.Deep.Cut
namespace Go.Proofs.YtimklglliffpcaaGreat
open Go.RowKit Go.Sort Go.Shelf

theorem one_box (w:World) (u:Pv):∃ X,w.alloc (.cells #[.int .i64 u.kind,.string u.attr,.slice u.qi u.ni u.ci,.slice u.qw u.nw u.cw,.int .i64 u.lo,.int .i64 u.hi] 26)=X∧Below w.heap.size w X∧X.heap[w.heap.size]? = some (.cells #[.int .i64 u.kind,.string u.attr,.slice u.qi u.ni u.ci,.slice u.qw u.nw u.cw,.int .i64 u.lo,.int .i64 u.hi] 26 (0,0)) :=
  ⟨_,rfl,(Below.refl _ _).alloc (Nat.le_refl _) _,World.alloc_heap_new _ _⟩
/-- What of a normal predicate its members' calls lean on. -/
def Nrm (p:Pd):Prop:=WkI p.ints∧WkS p.words∧p.ints.length≤1000000000∧p.words.length≤1000000000∧(p.kind=4→∃ s,p.words=[s])
def hasID (b:Pd) (x:Int):Bool:=if b.kind=3 then decide (b.lo≤x) && decide (x≤b.hi) else decide (x ∈ b.ints)
def fstW (b:Pd):ByteArray:=b.words.headD ⟨#[]⟩
def hasSD (b:Pd) (s:ByteArray):Bool:=if b.kind=4 then prefB s (fstW b) else hasS s b.words
theorem isSet_any (u:Pv) (w:World):Calls Tryz.prog 99 #[u.val] w fun e w'=>e=.returned (.bool (decide (u.kind=1) || decide (u.kind=2)))∧Below w.heap.size w w':=by
  unfold Pv.val
  obtain ⟨X,HX,bX,x8⟩:=one_box w u
  obtain ⟨a0,a1,a2,a3,a4,a5⟩:=of6C x8
  have BX:=hide bX
  clear bX x8
  by_cases h1:u.kind=1
  · have k1:(u.kind == 1)=true:=by simpa using h1
    have HR:=hide (show (decide (u.kind=1) || decide (u.kind=2))=true by simp [h1])
    clear h1
    go_enter Tryz.func99,Tryz.ntmps99
    go_wp2
    go_ret
    exact ⟨ret_bool (uh HR).symm,uh BX⟩
  · have k1:(u.kind == 1)=false:=by simpa using h1
    by_cases h2:u.kind=2
    · have k2:(u.kind == 2)=true:=by simpa using h2
      have HR:=hide (show (decide (u.kind=1) || decide (u.kind=2))=true by simp [h2])
      clear h1 h2
      go_enter Tryz.func99,Tryz.ntmps99
      go_wp2
      go_ret
      exact ⟨ret_bool (uh HR).symm,uh BX⟩
    · have k2:(u.kind == 2)=false:=by simpa using h2
      have HR:=hide (show (decide (u.kind=1) || decide (u.kind=2))=false by simp [h1,h2])
      clear h1 h2
      go_enter Tryz.func99,Tryz.ntmps99
      go_wp2
      go_ret
      exact ⟨ret_bool (uh HR).symm,uh BX⟩
set_option maxHeartbeats 1000000 in
theorem hasI_any (u:Pv) (b:Pd) (x:Int) (w:World) (hu:PdIn w u b) (hn:Nrm b):Calls Tryz.prog 102 #[u.val,.int .i64 x] w fun e w'=>e=.returned (.bool (hasID b x))∧Below w.heap.size w w':=by
  unfold Pv.val
  obtain ⟨X,HX,bX,x8⟩:=one_box w u
  obtain ⟨a0,a1,a2,a3,a4,a5⟩:=of6C x8
  have BX:=hide bX
  have hS:=searchI u.qi u.ci b.ints x X (hu.2.2.2.2.2.2.1.below bX) (by have:=hn.2.2.1;omega) hn.1
  rw [← hu.2.2.1] at hS
  have hk:=hu.1
  have hlo:=hu.2.2.2.2.1
  have hhi:=hu.2.2.2.2.2.1
  clear bX x8 hu hn
  by_cases h3:b.kind=3
  · have k3:(u.kind == 3)=true:=by rw [hk];simpa using h3
    by_cases c1:u.lo≤x
    · by_cases c2:x≤u.hi
      · have HR:=hide (show hasID b x=true by unfold hasID;rw [if_pos h3];simp;omega)
        clear h3 hk hlo hhi hS
        go_enter Tryz.func102,Tryz.ntmps102
        go_wp2
        go_ret
        exact ⟨ret_bool (uh HR).symm,uh BX⟩
      · have HR:=hide (show hasID b x=false by unfold hasID;rw [if_pos h3];simp;omega)
        clear h3 hk hlo hhi hS
        go_enter Tryz.func102,Tryz.ntmps102
        go_wp2
        go_ret
        exact ⟨ret_bool (uh HR).symm,uh BX⟩
    · have HR:=hide (show hasID b x=false by unfold hasID;rw [if_pos h3];simp;omega)
      clear h3 hk hlo hhi hS
      go_enter Tryz.func102,Tryz.ntmps102
      go_wp2
      go_ret
      exact ⟨ret_bool (uh HR).symm,uh BX⟩
  · have k3:(u.kind == 3)=false:=by rw [hk];simpa using h3
    have HR:=hide (show hasID b x=decide (x ∈ b.ints) by unfold hasID;rw [if_neg h3])
    obtain ⟨r,hr⟩:∃ r,decide (x ∈ b.ints)=r:=⟨_,rfl⟩
    rw [hr] at hS HR
    clear h3 hk hlo hhi hr
    go_enter Tryz.func102,Tryz.ntmps102
    go_wp2_with (go_at_call 151;refine hS.mono ?_;rintro e w1 ⟨⟨n,rfl⟩,rfl⟩)
    go_ret
    exact ⟨ret_bool (uh HR).symm,uh BX⟩
set_option maxHeartbeats 1000000 in
theorem hasS_any (u:Pv) (b:Pd) (x:ByteArray) (w:World) (hu:PdIn w u b) (hn:Nrm b):Calls Tryz.prog 105 #[u.val,.string x] w fun e w'=>e=.returned (.bool (hasSD b x))∧Below w.heap.size w w':=by
  unfold Pv.val
  obtain ⟨X,HX,bX,x8⟩:=one_box w u
  obtain ⟨a0,a1,a2,a3,a4,a5⟩:=of6C x8
  have BX:=hide bX
  have hS:=searchS u.qw u.cw b.words x X (hu.2.2.2.2.2.2.2.below bX) (by have:=hn.2.2.2.1;omega) hn.2.1
  rw [← hu.2.2.2.1] at hS
  have hk:=hu.1
  by_cases h4:b.kind=4
  · obtain ⟨s,hs⟩:=hn.2.2.2.2 h4
    obtain ⟨bw,ow,hq,hbw,hcw⟩:=wordsAt (hu.2.2.2.2.2.2.2.below bX) (j:=0) (x:=s) (by rw [hs];rfl)
    have k4:(u.kind == 4)=true:=by rw [hk];simpa using h4
    have hnw:u.nw=1:=by rw [hu.2.2.2.1,hs];rfl
    have HR:=hide (show hasSD b x=prefB x s by unfold hasSD fstW;rw [if_pos h4,hs];rfl)
    rw [hq,hnw] at a3
    rw [Nat.add_zero] at hcw
    clear bX x8 hu hn hk h4 hs hS hq hnw
    go_enter Tryz.func105,Tryz.ntmps105
    go_wp2_with (go_at_call 90;refine (hasPrefix_any x s _).mono ?_;rintro e w1 ⟨rfl,b1⟩;have B1:=hide b1;clear b1)
    go_ret
    exact ⟨ret_bool (uh HR).symm,below_sub (uh BX) (uh B1)⟩
  · have k4:(u.kind == 4)=false:=by rw [hk];simpa using h4
    have HR:=hide (show hasSD b x=hasS x b.words by unfold hasSD;rw [if_neg h4])
    obtain ⟨r,hr⟩:∃ r,hasS x b.words=r:=⟨_,rfl⟩
    rw [hr] at hS HR
    clear bX x8 hu hn hk h4 hr
    go_enter Tryz.func105,Tryz.ntmps105
    go_wp2_with (go_at_call 153;refine hS.mono ?_;rintro e w1 ⟨⟨n,rfl⟩,rfl⟩)
    go_ret
    exact ⟨ret_bool (uh HR).symm,uh BX⟩
theorem cloI (v:Pv) (b:Pd) (x:Int) (M:Nat) (W:World) (hc:W.heap[M]? = some (.cells #[.int .i64 v.kind,.string v.attr,.slice v.qi v.ni v.ci,.slice v.qw v.nw v.cw,.int .i64 v.lo,.int .i64 v.hi] 26 (0,0))) (hb:PdIn W v b) (hn:Nrm b) :
    Calls Tryz.prog 101 #[.int .i64 x,.pointer (some ⟨M,0,none⟩)] W fun e w'=>e=.returned (.bool (!hasID b x))∧Below W.heap.size W w':=by
  obtain ⟨a0,a1,a2,a3,a4,a5⟩:=of6C hc
  have hH:=hasI_any v b x W hb hn
  unfold Pv.val at hH
  clear hc hb hn
  go_enter Tryz.func101,Tryz.ntmps101
  go_wp2_with (go_at_call 102;refine hH.mono ?_;rintro e w1 ⟨rfl,b1⟩;have B1:=hide b1;clear b1)
  go_ret
  exact ⟨rfl,uh B1⟩
theorem cloS (v:Pv) (b:Pd) (x:ByteArray) (M:Nat) (W:World) (hc:W.heap[M]? = some (.cells #[.int .i64 v.kind,.string v.attr,.slice v.qi v.ni v.ci,.slice v.qw v.nw v.cw,.int .i64 v.lo,.int .i64 v.hi] 26 (0,0))) (hb:PdIn W v b) (hn:Nrm b) :
    Calls Tryz.prog 104 #[.string x,.pointer (some ⟨M,0,none⟩)] W fun e w'=>e=.returned (.bool (!hasSD b x))∧Below W.heap.size W w':=by
  obtain ⟨a0,a1,a2,a3,a4,a5⟩:=of6C hc
  have hH:=hasS_any v b x W hb hn
  unfold Pv.val at hH
  clear hc hb hn
  go_enter Tryz.func104,Tryz.ntmps104
  go_wp2_with (go_at_call 105;refine hH.mono ?_;rintro e w1 ⟨rfl,b1⟩;have B1:=hide b1;clear b1)
  go_ret
  exact ⟨rfl,uh B1⟩
end Go.Proofs.YtimklglliffpcaaGreat
namespace Go.Proofs.YtimklglliffpcaaGreat
open Go.RowKit Go.Sort Go.Shelf

theorem flatI1 {l:List Int} {j:Nat} {u:Value} (h:(flatK encI 1 l.toArray).toList[j]? = some u):∃ x,l[j]? = some x∧u=vI x:=by
  rw [flatI_map,List.getElem?_map] at h
  obtain ⟨x,hx,rfl⟩:=Option.map_eq_some_iff.1 h
  exact ⟨x,hx,rfl⟩
theorem flatS_map (l:List ByteArray):(flatK encS 1 l.toArray).toList=l.map (fun x=>Value.string x):=by
  apply List.ext_getElem?
  intro j
  by_cases hj:j < l.length
  · obtain ⟨x,hx,_⟩:=get_at hj
    have:=flat_at (enc:=encS) (k:=1) hx 0 (by omega)
    rw [Nat.mul_one,Nat.add_zero] at this
    rw [this,List.getElem?_map,hx];rfl
  · rw [List.getElem?_eq_none (by simp [flatK];omega),List.getElem?_eq_none (by simp;omega)]
theorem flatS1 {l:List ByteArray} {j:Nat} {u:Value} (h:(flatK encS 1 l.toArray).toList[j]? = some u):∃ x,l[j]? = some x∧u=vS x:=by
  rw [flatS_map,List.getElem?_map] at h
  obtain ⟨x,hx,rfl⟩:=Option.map_eq_some_iff.1 h
  exact ⟨x,hx,rfl⟩
theorem Rw.slI {w:World} {g cap:Nat} {l:List Int} (h:Rw vI w g l) (hc:l.length≤cap) (hm:cap≤maxLen):SlOf encI 1 w (some ⟨g,0,none⟩) cap l :=
  ⟨(fun e=>by cases e),hc,hm,fun _=>⟨g,0,rfl,h.1,fun j u hj=>by
    obtain ⟨x,hx,rfl⟩:=flatI1 hj
    rw [Nat.zero_add]
    exact (h.2 j x hx).1⟩⟩
theorem Rw.slS {w:World} {g cap:Nat} {l:List ByteArray} (h:Rw vS w g l) (hc:l.length≤cap) (hm:cap≤maxLen):SlOf encS 1 w (some ⟨g,0,none⟩) cap l :=
  ⟨(fun e=>by cases e),hc,hm,fun _=>⟨g,0,rfl,h.1,fun j u hj=>by
    obtain ⟨x,hx,rfl⟩:=flatS1 hj
    rw [Nat.zero_add]
    exact (h.2 j x hx).1⟩⟩
theorem Rw.wr {α:Type} {enc:α→Value} {w:World} {g:Nat} {l:List α} (h:Rw enc w g l):Wr w (some ⟨g,0,none⟩) l.length:=fun b off e j hj=>by
  cases e
  obtain ⟨x,hx,_⟩:=get_at hj
  rw [Nat.zero_add]
  exact ⟨rfl,(h.2 j x hx).2⟩
/-- A row that doesn't lie in a box. -/
def Off (r:Pv) (M:Nat→Prop):Prop:=(∀ a,r.qi=some a→¬ M a.block)∧∀ a,r.qw=some a→¬ M a.block
/-- A predicate, or none, is answered. -/
def OutP (B:Nat) (M:Nat→Prop) (o:Option Pd) (e:Ending) (w':World):Prop:=∃ r:Pv,e=.returned (.tuple #[.agg #[.int .i64 r.kind,.string r.attr,.slice r.qi r.ni r.ci,.slice r.qw r.nw r.cw,.int .i64 r.lo,.int .i64 r.hi],.bool o.isSome])∧PdOwn B w' r (o.getD zeroD)∧Off r M
theorem zero_off (M:Nat→Prop):Off zeroP M:=⟨fun a e=>(by cases e),fun a e=>(by cases e)⟩
theorem amongI0 (attr:ByteArray) (q:Option Addr) (c:Nat) (w:World):Calls Tryz.prog 55 #[.string attr,.slice q 0 c] w fun e w'=>e=.returned (.tuple #[.agg #[.int .i64 0,.string ⟨#[]⟩,.slice none 0 0,.slice none 0 0,.int .i64 0,.int .i64 0],.bool false])∧Below w.heap.size w w':=by
  go_enter Tryz.func55,Tryz.ntmps55
  go_wp2
  exact bodyPost_ret (v:=.tuple #[.agg #[.int .i64 0,.string ⟨#[]⟩,.slice none 0 0,.slice none 0 0,.int .i64 0,.int .i64 0],.bool false]) (by simp [results,Tryz.results55,go_sem]) rfl ⟨rfl,(Below.refl _ _).alloc (Nat.le_refl _) _⟩
def mkI (attr:ByteArray) (l:List Int):Option Pd:=if l.length=0 then none else some ⟨1,attr,l,[],0,0⟩
theorem amongI_o (attr:ByteArray) (g cap B:Nat) (M:Nat→Prop) (l:List Int) (w:World) (hB:B≤g) (hM:¬ M g) (hr:Rw vI w g l) (hc:l.length≤cap) (hm:cap≤maxLen) :
    Calls Tryz.prog 55 #[.string attr,.slice (some ⟨g,0,none⟩) l.length cap] w fun e w'=>OutP B M (mkI attr l) e w'∧Below w.heap.size w w':=by
  by_cases h0:l.length=0
  · rw [h0]
    exact (amongI0 attr _ _ w).mono fun e w' ⟨he,hb⟩=>⟨⟨zeroP,by unfold mkI;rw [if_pos h0];exact he,by unfold mkI;rw [if_pos h0];exact zeroD_own _ _,zero_off _⟩,hb⟩
  · refine (amongI attr (some ⟨g,0,none⟩) l.length cap (by omega) w).mono fun e w' ⟨he,hb⟩=>⟨?_,hb⟩
    unfold mkI
    rw [if_neg h0]
    have hr:=hr.below hb
    exact ⟨⟨1,attr,some ⟨g,0,none⟩,l.length,cap,none,0,0,0,0⟩,he,⟨⟨rfl,rfl,rfl,rfl,rfl,rfl,hr.slI hc hm,SlOf.none _⟩,⟨fun a e=>(by cases e;exact hB),fun a e=>(by cases e)⟩,(fun _=>hr.wr),(fun e=>by simp at e)⟩,⟨fun a e=>(by cases e;exact hM),fun a e=>(by cases e)⟩⟩
theorem amongS0 (attr:ByteArray) (q:Option Addr) (c:Nat) (w:World):Calls Tryz.prog 57 #[.string attr,.slice q 0 c] w fun e w'=>e=.returned (.tuple #[.agg #[.int .i64 0,.string ⟨#[]⟩,.slice none 0 0,.slice none 0 0,.int .i64 0,.int .i64 0],.bool false])∧Below w.heap.size w w':=by
  go_enter Tryz.func57,Tryz.ntmps57
  go_wp2
  exact bodyPost_ret (v:=.tuple #[.agg #[.int .i64 0,.string ⟨#[]⟩,.slice none 0 0,.slice none 0 0,.int .i64 0,.int .i64 0],.bool false]) (by simp [results,Tryz.results57,go_sem]) rfl ⟨rfl,(Below.refl _ _).alloc (Nat.le_refl _) _⟩
def mkS (attr:ByteArray) (l:List ByteArray):Option Pd:=if l.length=0 then none else some ⟨2,attr,[],l,0,0⟩
theorem amongS_o (attr:ByteArray) (g cap B:Nat) (M:Nat→Prop) (l:List ByteArray) (w:World) (hB:B≤g) (hM:¬ M g) (hr:Rw vS w g l) (hc:l.length≤cap) (hm:cap≤maxLen) :
    Calls Tryz.prog 57 #[.string attr,.slice (some ⟨g,0,none⟩) l.length cap] w fun e w'=>OutP B M (mkS attr l) e w'∧Below w.heap.size w w':=by
  by_cases h0:l.length=0
  · rw [h0]
    exact (amongS0 attr _ _ w).mono fun e w' ⟨he,hb⟩=>⟨⟨zeroP,by unfold mkS;rw [if_pos h0];exact he,by unfold mkS;rw [if_pos h0];exact zeroD_own _ _,zero_off _⟩,hb⟩
  · refine (amongS attr (some ⟨g,0,none⟩) l.length cap (by omega) w).mono fun e w' ⟨he,hb⟩=>⟨?_,hb⟩
    unfold mkS
    rw [if_neg h0]
    have hr:=hr.below hb
    exact ⟨⟨2,attr,none,0,0,some ⟨g,0,none⟩,l.length,cap,0,0⟩,he,⟨⟨rfl,rfl,rfl,rfl,rfl,rfl,SlOf.none _,hr.slS hc hm⟩,⟨fun a e=>(by cases e),fun a e=>(by cases e;exact hB)⟩,(fun e=>by simp at e),(fun _=>hr.wr)⟩,⟨fun a e=>(by cases e),fun a e=>(by cases e;exact hM)⟩⟩
def betwD (attr:ByteArray) (lo hi:Int):Option Pd:=if hi < lo then none else if lo=hi then some ⟨1,attr,[lo],[],0,0⟩ else some ⟨3,attr,[],[],lo,hi⟩
theorem between_o (attr:ByteArray) (lo hi:Int) (B:Nat) (M:Nat→Prop) (w:World) (hB:B≤w.heap.size) (hM:∀ k,M k→k < w.heap.size) :
    Calls Tryz.prog 59 #[.string attr,.int .i64 lo,.int .i64 hi] w fun e w'=>OutP B M (betwD attr lo hi) e w'∧Below w.heap.size w w':=by
  unfold betwD
  by_cases h1:hi < lo
  · rw [if_pos h1]
    exact (betweenNo attr lo hi h1 w).mono fun e w' ⟨he,hb⟩=>⟨⟨zeroP,he,zeroD_own _ _,zero_off _⟩,hb⟩
  · rw [if_neg h1]
    by_cases h2:lo=hi
    · rw [if_pos h2]
      subst h2
      exact (betweenEo attr lo w).mono fun e w' ⟨⟨q,c,he,hs,hq,hw⟩,hb⟩=>⟨⟨⟨1,attr,q,1,c,none,0,0,0,0⟩,he,⟨⟨rfl,rfl,rfl,rfl,rfl,rfl,hs,SlOf.none _⟩,⟨fun a e=>Nat.le_trans hB (hq a e),fun a e=>(by cases e)⟩,fun _=>hw,(fun e=>by simp at e)⟩,fun a e hS=>(by have h1:=hq a e;have h2:=hM _ hS;omega),fun a e=>(by cases e)⟩,hb⟩
    · rw [if_neg h2]
      exact (betweenR attr lo hi (by omega) w).mono fun e w' ⟨he,hb⟩=>⟨⟨⟨3,attr,none,0,0,none,0,0,lo,hi⟩,he,⟨⟨rfl,rfl,rfl,rfl,rfl,rfl,SlOf.none _,SlOf.none _⟩,Fr2.none2 rfl rfl,(fun e=>by simp at e),(fun e=>by simp at e)⟩,fun a e=>(by cases e),fun a e=>(by cases e)⟩,hb⟩
def longD (attr a b:ByteArray):Option Pd:=if a.size < b.size then (if prefB b a then some ⟨4,attr,[],[b],0,0⟩ else none) else (if prefB a b then some ⟨4,attr,[],[a],0,0⟩ else none)
set_option maxHeartbeats 2000000 in
set_option maxRecDepth 100000 in
theorem longer_o (attr a b:ByteArray) (B:Nat) (M:Nat→Prop) (w:World) (hB:B≤w.heap.size) (hM:∀ k,M k→k < w.heap.size) :
    Calls Tryz.prog 106 #[.string attr,.string a,.string b] w fun e w'=>OutP B M (longD attr a b) e w'∧Below w.heap.size w w':=by
  unfold longD
  obtain ⟨X,HX⟩:∃ X,w.alloc (.cells #[.int .i64 0,.string ⟨#[]⟩,.slice none 0 0,.slice none 0 0,.int .i64 0,.int .i64 0] 26)=X:=⟨_,rfl⟩
  have bX:Below w.heap.size w X:=by rw [← HX];exact (Below.refl _ _).alloc (Nat.le_refl _) _
  have x8:X.heap[w.heap.size]? = some (.cells #[.int .i64 0,.string ⟨#[]⟩,.slice none 0 0,.slice none 0 0,.int .i64 0,.int .i64 0] 26 (0,0)):=by rw [← HX];exact World.alloc_heap_new _ _
  have hlX:w.heap.size < X.heap.size:=(Array.getElem?_eq_some_iff.1 x8).1
  obtain ⟨x0,x1,x2,x3,x4,x5⟩:=of6C x8
  have xf:=fun o=>frozen_free (o:=o) x8
  have BX:=hide bX
  have X8:=hide x8
  clear bX x8
  by_cases hlt:a.size < b.size
  · rw [if_pos hlt]
    have c1:(a.size:Int) < (b.size:Int):=by omega
    cases hp:prefB b a with
    | true =>
      simp only [if_true]
      have hH:=fun W=>hasPrefix_any b a W
      rw [hp] at hH
      clear hp hlt
      go_enter Tryz.func106,Tryz.ntmps106
      go_wp2_with (first
        | (go_at_call 90;refine (hH _).mono ?_;rintro e w1 ⟨rfl,b1⟩;have B1:=hide b1;have q9:=(b1.block _ hlX).trans (uh X8);(obtain ⟨z0,z1,z2,z3,z4,z5⟩:=of6C q9);have zf:=fun o=>frozen_free (o:=o) q9;have s1:=b1.size;clear b1 q9)
        | (go_at_call 60;refine (beginsS attr b _).mono ?_;rintro e w2 ⟨⟨q2,c2,rfl,s2,p2⟩,b2⟩;have S2:=hide s2;have P2:=hide p2;have B2:=hide b2;clear z0 z1 z2 z3 z4 z5 zf;have q9:=(b2.block _ (Nat.lt_of_lt_of_le hlX s1)).trans (((uh B1).block _ hlX).trans (uh X8));(obtain ⟨z0,z1,z2,z3,z4,z5⟩:=of6C q9);have zf:=fun o=>frozen_free (o:=o) q9;clear s2 p2 b2 q9))
      have L2:∀ a,q2=some a→a.block ≠ w.heap.size:=fun a e=>by have:=uh P2 a e;omega
      exact bodyPost_ret (v:=.tuple #[.agg #[.int .i64 4,.string attr,.slice none 0 0,.slice q2 1 c2,.int .i64 0,.int .i64 0],.bool true]) (by simp [results,Tryz.results106,go_sem, *]) rfl ⟨⟨⟨4,attr,none,0,0,q2,1,c2,0,0⟩,rfl,⟨⟨rfl,rfl,rfl,rfl,rfl,rfl,SlOf.none _,((((((uh S2).set L2 0 _).set L2 1 _).set L2 2 _).set L2 3 _).set L2 4 _).set L2 5 _⟩,⟨fun a e=>(by cases e),fun a e=>(by have:=uh P2 a e;omega)⟩,(fun e=>by simp at e),(fun e=>by simp at e)⟩,fun a e=>(by cases e),fun a e hS=>(by have h1:=uh P2 a e;have h2:=hM _ hS;omega)⟩,((((((below_sub (uh BX) (below_sub (uh B1) (uh B2))).setCell (p:=⟨w.heap.size,0,none⟩) (Nat.le_refl _) _).setCell (p:=⟨w.heap.size,1,none⟩) (Nat.le_refl _) _).setCell (p:=⟨w.heap.size,2,none⟩) (Nat.le_refl _) _).setCell (p:=⟨w.heap.size,3,none⟩) (Nat.le_refl _) _).setCell (p:=⟨w.heap.size,4,none⟩) (Nat.le_refl _) _).setCell (p:=⟨w.heap.size,5,none⟩) (Nat.le_refl _) _⟩
    | false =>
      simp only [Bool.false_eq_true,if_false]
      have hH:=fun W=>hasPrefix_any b a W
      rw [hp] at hH
      clear hp hlt
      go_enter Tryz.func106,Tryz.ntmps106
      go_wp2_with (go_at_call 90;refine (hH _).mono ?_;rintro e w1 ⟨rfl,b1⟩;have B1:=hide b1;have q9:=(b1.block _ hlX).trans (uh X8);(obtain ⟨z0,z1,z2,z3,z4,z5⟩:=of6C q9);have zf:=fun o=>frozen_free (o:=o) q9;clear b1 q9)
      exact bodyPost_ret (v:=.tuple #[.agg #[.int .i64 0,.string ⟨#[]⟩,.slice none 0 0,.slice none 0 0,.int .i64 0,.int .i64 0],.bool false]) (by simp [results,Tryz.results106,go_sem, *]) rfl ⟨⟨zeroP,rfl,zeroD_own _ _,zero_off _⟩,((((((below_sub (uh BX) (uh B1)).setCell (p:=⟨w.heap.size,0,none⟩) (Nat.le_refl _) _).setCell (p:=⟨w.heap.size,1,none⟩) (Nat.le_refl _) _).setCell (p:=⟨w.heap.size,2,none⟩) (Nat.le_refl _) _).setCell (p:=⟨w.heap.size,3,none⟩) (Nat.le_refl _) _).setCell (p:=⟨w.heap.size,4,none⟩) (Nat.le_refl _) _).setCell (p:=⟨w.heap.size,5,none⟩) (Nat.le_refl _) _⟩
  · rw [if_neg hlt]
    have c1:¬ (a.size:Int) < (b.size:Int):=by omega
    cases hp:prefB a b with
    | true =>
      simp only [if_true]
      have hH:=fun W=>hasPrefix_any a b W
      rw [hp] at hH
      clear hp hlt
      go_enter Tryz.func106,Tryz.ntmps106
      go_wp2_with (first
        | (go_at_call 90;refine (hH _).mono ?_;rintro e w1 ⟨rfl,b1⟩;have B1:=hide b1;have q9:=(b1.block _ hlX).trans (uh X8);(obtain ⟨z0,z1,z2,z3,z4,z5⟩:=of6C q9);have zf:=fun o=>frozen_free (o:=o) q9;have s1:=b1.size;clear b1 q9)
        | (go_at_call 60;refine (beginsS attr a _).mono ?_;rintro e w2 ⟨⟨q2,c2,rfl,s2,p2⟩,b2⟩;have S2:=hide s2;have P2:=hide p2;have B2:=hide b2;clear z0 z1 z2 z3 z4 z5 zf;have q9:=(b2.block _ (Nat.lt_of_lt_of_le hlX s1)).trans (((uh B1).block _ hlX).trans (uh X8));(obtain ⟨z0,z1,z2,z3,z4,z5⟩:=of6C q9);have zf:=fun o=>frozen_free (o:=o) q9;clear s2 p2 b2 q9))
      have L2:∀ a,q2=some a→a.block ≠ w.heap.size:=fun a e=>by have:=uh P2 a e;omega
      exact bodyPost_ret (v:=.tuple #[.agg #[.int .i64 4,.string attr,.slice none 0 0,.slice q2 1 c2,.int .i64 0,.int .i64 0],.bool true]) (by simp [results,Tryz.results106,go_sem, *]) rfl ⟨⟨⟨4,attr,none,0,0,q2,1,c2,0,0⟩,rfl,⟨⟨rfl,rfl,rfl,rfl,rfl,rfl,SlOf.none _,((((((uh S2).set L2 0 _).set L2 1 _).set L2 2 _).set L2 3 _).set L2 4 _).set L2 5 _⟩,⟨fun a e=>(by cases e),fun a e=>(by have:=uh P2 a e;omega)⟩,(fun e=>by simp at e),(fun e=>by simp at e)⟩,fun a e=>(by cases e),fun a e hS=>(by have h1:=uh P2 a e;have h2:=hM _ hS;omega)⟩,((((((below_sub (uh BX) (below_sub (uh B1) (uh B2))).setCell (p:=⟨w.heap.size,0,none⟩) (Nat.le_refl _) _).setCell (p:=⟨w.heap.size,1,none⟩) (Nat.le_refl _) _).setCell (p:=⟨w.heap.size,2,none⟩) (Nat.le_refl _) _).setCell (p:=⟨w.heap.size,3,none⟩) (Nat.le_refl _) _).setCell (p:=⟨w.heap.size,4,none⟩) (Nat.le_refl _) _).setCell (p:=⟨w.heap.size,5,none⟩) (Nat.le_refl _) _⟩
    | false =>
      simp only [Bool.false_eq_true,if_false]
      have hH:=fun W=>hasPrefix_any a b W
      rw [hp] at hH
      clear hp hlt
      go_enter Tryz.func106,Tryz.ntmps106
      go_wp2_with (go_at_call 90;refine (hH _).mono ?_;rintro e w1 ⟨rfl,b1⟩;have B1:=hide b1;have q9:=(b1.block _ hlX).trans (uh X8);(obtain ⟨z0,z1,z2,z3,z4,z5⟩:=of6C q9);have zf:=fun o=>frozen_free (o:=o) q9;clear b1 q9)
      exact bodyPost_ret (v:=.tuple #[.agg #[.int .i64 0,.string ⟨#[]⟩,.slice none 0 0,.slice none 0 0,.int .i64 0,.int .i64 0],.bool false]) (by simp [results,Tryz.results106,go_sem, *]) rfl ⟨⟨zeroP,rfl,zeroD_own _ _,zero_off _⟩,((((((below_sub (uh BX) (uh B1)).setCell (p:=⟨w.heap.size,0,none⟩) (Nat.le_refl _) _).setCell (p:=⟨w.heap.size,1,none⟩) (Nat.le_refl _) _).setCell (p:=⟨w.heap.size,2,none⟩) (Nat.le_refl _) _).setCell (p:=⟨w.heap.size,3,none⟩) (Nat.le_refl _) _).setCell (p:=⟨w.heap.size,4,none⟩) (Nat.le_refl _) _).setCell (p:=⟨w.heap.size,5,none⟩) (Nat.le_refl _) _⟩
end Go.Proofs.YtimklglliffpcaaGreat
namespace Go.Proofs.YtimklglliffpcaaGreat
open Go.RowKit Go.Sort Go.Shelf

theorem grown_undrew {w w':World} {r:Option Nat} (h:w.drew.grownBy w' r):w.grownBy w' r:=⟨h.os,h.tape,h.output,h.size,h.block⟩
theorem below_grownB {B g:Nat} {w w1 w2:World} (h:Below w.heap.size w w1) (hg:w1.grownBy w2 (some g)) (hB:B≤w.heap.size) (hBg:B≤g):Below B w w2 :=
  ⟨hg.os.trans h.os,hg.tape.trans h.tape,hg.output.trans h.output,Nat.le_trans h.size hg.size,fun k hk=>(hg.block k (Nat.lt_of_lt_of_le (Nat.lt_of_lt_of_le hk hB) h.size) (fun e=>by injection e with e;omega)).trans (h.block k (Nat.lt_of_lt_of_le hk hB))⟩
theorem sl_grownC {α:Type} [Inhabited α] {enc:α→List Value} {k c:Nat} {w w':World} {g:Nat} {q:Option Addr} {l:List α} (h:SlOf enc k w q c l) (hg:w.grownBy w' (some g)) (hr:∀ a,q=some a→l ≠ []→a.block ≠ g):SlOf enc k w' q c l:=by
  refine ⟨h.1,h.2.1,h.2.2.1,fun h0=>?_⟩
  obtain ⟨b,off,hq,hb,hc⟩:=h.2.2.2 h0
  refine ⟨b,off,hq,Nat.lt_of_lt_of_le hb hg.size,fun j u hj=>?_⟩
  rw [World.cell?_of_block (a:=⟨b,off + j,none⟩) (hg.block b hb (fun e=>by injection e with e;exact hr _ hq (List.length_pos_iff.1 h0) e))]
  exact hc j u hj
theorem pdin_grown {w w':World} {g:Nat} {u:Pv} {p:Pd} (h:PdIn w u p) (hg:w.grownBy w' (some g)) (h1:∀ a,u.qi=some a→p.ints ≠ []→a.block ≠ g) (h2:∀ a,u.qw=some a→p.words ≠ []→a.block ≠ g):PdIn w' u p:=by
  obtain ⟨c1,c2,c3,c4,c5,c6,c7,c8⟩:=h
  exact ⟨c1,c2,c3,c4,c5,c6,sl_grownC c7 hg h1,sl_grownC c8 hg h2⟩
theorem six_out {w:World} {M b o:Nat} {v0 v1 v2 v3 v4 v5:Value} {x:Option Value} (hne:b ≠ M) (h:w.cell? ⟨b,o,none⟩=x):((((((w.setCell ⟨M,0,none⟩ v0).setCell ⟨M,1,none⟩ v1).setCell ⟨M,2,none⟩ v2).setCell ⟨M,3,none⟩ v3).setCell ⟨M,4,none⟩ v4).setCell ⟨M,5,none⟩ v5).cell? ⟨b,o,none⟩=x:=by
  have hn:∀ (W:World) (k:Nat) (v:Value),(W.setCell ⟨M,k,none⟩ v).cell? ⟨b,o,none⟩=W.cell? ⟨b,o,none⟩:=fun W k v=>World.cell?_setCell_other W ⟨M,k,none⟩ ⟨b,o,none⟩ v (by intro g;injection g with g1;exact hne g1.symm)
  rw [hn,hn,hn,hn,hn,hn]
  exact h
theorem Off.sub {r:Pv} {M:Nat} {T:Nat→Prop} (h:Off r (fun k=>k=M ∨ T k)):Off r T:=⟨fun a e ht=>h.1 a e (Or.inr ht),fun a e ht=>h.2 a e (Or.inr ht)⟩
theorem PdOwn.setC {B M:Nat} {S:Nat→Prop} {w:World} {u:Pv} {p:Pd} (h:PdOwn B w u p) (hf:Off u S) (hM:S M) (k:Nat) (v:Value):PdOwn B (w.setCell ⟨M,k,none⟩ v) u p:=by
  obtain ⟨⟨c1,c2,c3,c4,c5,c6,c7,c8⟩,d1,d2,d3⟩:=h
  exact ⟨⟨c1,c2,c3,c4,c5,c6,c7.set (fun a e h=>hf.1 a e (h ▸ hM)) k v,c8.set (fun a e h=>hf.2 a e (h ▸ hM)) k v⟩,d1,fun e=>(d2 e).set _ _ _,fun e=>(d3 e).set _ _ _⟩
theorem own_rowI {B:Nat} {w:World} {u:Pv} {p:Pd} (h:PdOwn B w u p) (hk:p.kind=1) (hne:p.ints ≠ []):∃ g,u.qi=some ⟨g,0,none⟩∧B≤g∧Rw vI w g p.ints:=by
  have hl:0 < p.ints.length:=List.length_pos_iff.2 hne
  obtain ⟨b,off,hq,hb,hc⟩:=h.1.2.2.2.2.2.2.1.2.2.2 hl
  have hw:=h.2.2.1 hk b off hq
  obtain rfl:=(hw 0 hl).1
  refine ⟨b,hq,h.2.1.1 _ hq,hb,fun j x hx=>?_⟩
  have hj:j < p.ints.length:=(List.getElem?_eq_some_iff.1 hx).1
  have h1:=hc j (vI x) (by rw [flatI_map,List.getElem?_map,hx];rfl)
  have h2:=(hw j hj).2
  rw [Nat.zero_add] at h1 h2
  exact ⟨h1,h2⟩
theorem own_rowS {B:Nat} {w:World} {u:Pv} {p:Pd} (h:PdOwn B w u p) (hk:p.kind=2) (hne:p.words ≠ []):∃ g,u.qw=some ⟨g,0,none⟩∧B≤g∧Rw vS w g p.words:=by
  have hl:0 < p.words.length:=List.length_pos_iff.2 hne
  obtain ⟨b,off,hq,hb,hc⟩:=h.1.2.2.2.2.2.2.2.2.2.2 hl
  have hw:=h.2.2.2 hk b off hq
  obtain rfl:=(hw 0 hl).1
  refine ⟨b,hq,h.2.1.2 _ hq,hb,fun j x hx=>?_⟩
  have hj:j < p.words.length:=(List.getElem?_eq_some_iff.1 hx).1
  have h1:=hc j (vS x) (by rw [flatS_map,List.getElem?_map,hx];rfl)
  have h2:=(hw j hj).2
  rw [Nat.zero_add] at h1 h2
  exact ⟨h1,h2⟩
/-- A normal predicate. -/
def Gd (p:Pd):Prop:=Nrm p∧(p.kind=1→p.ints ≠ [])∧(p.kind=2→p.words ≠ [])∧(p.kind=1 ∨ p.kind=2 ∨ p.kind=3 ∨ p.kind=4)
/-- The lists of two predicates lie apart. -/
def Apart (u:Pv) (p:Pd) (v:Pv) (r:Pd):Prop:=∀ x y,(u.qi=some x∧p.ints ≠ [] ∨ u.qw=some x∧p.words ≠ [])→(v.qi=some y∧r.ints ≠ [] ∨ v.qw=some y∧r.words ≠ [])→x.block ≠ y.block
theorem Apart.symm {u v:Pv} {p r:Pd} (h:Apart u p v r):Apart v r u p:=fun x y hx hy=>(h y x hy hx).symm
def coreD (a b:Pd):Option Pd:=if a.kind=1 then mkI a.attr (a.ints.filter (hasID b)) else if a.kind=2 then mkS a.attr (a.words.filter (hasSD b)) else if ¬ a.kind=b.kind then none else if a.kind=3 then betwD a.attr (max a.lo b.lo) (min a.hi b.hi) else longD a.attr (fstW a) (fstW b)
def setK (p:Pd):Bool:=decide (p.kind=1) || decide (p.kind=2)
def bothD (a b:Pd):Option Pd:=if setK b then coreD b a else coreD a b
theorem three_boxes (w:World) (u v:Pv):∃ X,((w.alloc (.cells #[.int .i64 u.kind,.string u.attr,.slice u.qi u.ni u.ci,.slice u.qw u.nw u.cw,.int .i64 u.lo,.int .i64 u.hi] 26)).alloc (.cells #[.int .i64 v.kind,.string v.attr,.slice v.qi v.ni v.ci,.slice v.qw v.nw v.cw,.int .i64 v.lo,.int .i64 v.hi] 26)).alloc (.cells #[.int .i64 0,.string ⟨#[]⟩,.slice none 0 0,.slice none 0 0,.int .i64 0,.int .i64 0] 26)=X∧Below w.heap.size w X∧X.heap.size=w.heap.size + 3∧X.heap[w.heap.size]? = some (.cells #[.int .i64 u.kind,.string u.attr,.slice u.qi u.ni u.ci,.slice u.qw u.nw u.cw,.int .i64 u.lo,.int .i64 u.hi] 26 (0,0))∧X.heap[w.heap.size + 1]? = some (.cells #[.int .i64 v.kind,.string v.attr,.slice v.qi v.ni v.ci,.slice v.qw v.nw v.cw,.int .i64 v.lo,.int .i64 v.hi] 26 (0,0))∧X.heap[w.heap.size + 2]? = some (.cells #[.int .i64 0,.string ⟨#[]⟩,.slice none 0 0,.slice none 0 0,.int .i64 0,.int .i64 0] 26 (0,0)):=by
  obtain ⟨Y,hY,bY,sY,y8,y9⟩:=two_boxes w u v
  rw [hY]
  have b:=(Below.refl Y.heap.size Y).alloc (Nat.le_refl _) (.cells #[.int .i64 0,.string ⟨#[]⟩,.slice none 0 0,.slice none 0 0,.int .i64 0,.int .i64 0] 26)
  refine ⟨_,rfl,below_sub bY b,by simp;omega,(b.block _ (by omega)).trans y8,(b.block _ (by omega)).trans y9, ?_⟩
  rw [← sY]
  exact World.alloc_heap_new _ _
theorem box_set6 {V:World} {b:Nat} {c0 c1 c2 c3 c4 c5:Value} (h:V.heap[b]? = some (.cells #[c0,c1,c2,c3,c4,c5] 26 (0,0))) (v0 v1 v2 v3 v4 v5:Value) :
    ((((((V.setCell ⟨b,0,none⟩ v0).setCell ⟨b,1,none⟩ v1).setCell ⟨b,2,none⟩ v2).setCell ⟨b,3,none⟩ v3).setCell ⟨b,4,none⟩ v4).setCell ⟨b,5,none⟩ v5).heap[b]? = some (.cells #[v0,v1,v2,v3,v4,v5] 26 (0,0)):=by
  simp [World.setCell,Array.getElem?_modify,h]
theorem heap_six {w:World} {M b:Nat} (hne:b ≠ M) (v0 v1 v2 v3 v4 v5:Value):((((((w.setCell ⟨M,0,none⟩ v0).setCell ⟨M,1,none⟩ v1).setCell ⟨M,2,none⟩ v2).setCell ⟨M,3,none⟩ v3).setCell ⟨M,4,none⟩ v4).setCell ⟨M,5,none⟩ v5).heap[b]? = w.heap[b]?:=by
  simp [World.setCell,Array.getElem?_modify,Ne.symm hne]
theorem size_six {w:World} {M:Nat} (v0 v1 v2 v3 v4 v5:Value):((((((w.setCell ⟨M,0,none⟩ v0).setCell ⟨M,1,none⟩ v1).setCell ⟨M,2,none⟩ v2).setCell ⟨M,3,none⟩ v3).setCell ⟨M,4,none⟩ v4).setCell ⟨M,5,none⟩ v5).heap.size=w.heap.size:=by
  simp
theorem setC_os (w:World) (p:Addr) (v:Value):(w.setCell p v).os=w.os:=rfl
theorem setC_tape (w:World) (p:Addr) (v:Value):(w.setCell p v).tape=w.tape:=rfl
theorem setC_out (w:World) (p:Addr) (v:Value):(w.setCell p v).output=w.output:=rfl
theorem swap_facts (Z0:World) (n:Nat) (A V:Pv) (q8:Z0.heap[n]? = some (.cells #[.int .i64 V.kind,.string V.attr,.slice V.qi V.ni V.ci,.slice V.qw V.nw V.cw,.int .i64 V.lo,.int .i64 V.hi] 26 (0,0))) (q9:Z0.heap[n + 1]? = some (.cells #[.int .i64 A.kind,.string A.attr,.slice A.qi A.ni A.ci,.slice A.qw A.nw A.cw,.int .i64 A.lo,.int .i64 A.hi] 26 (0,0))) (Z:World) (hZ:((((((((((((Z0.setCell ⟨n,0,none⟩ (.int .i64 A.kind)).setCell ⟨n,1,none⟩ (.string A.attr)).setCell ⟨n,2,none⟩ (.slice A.qi A.ni A.ci)).setCell ⟨n,3,none⟩ (.slice A.qw A.nw A.cw)).setCell ⟨n,4,none⟩ (.int .i64 A.lo)).setCell ⟨n,5,none⟩ (.int .i64 A.hi)).setCell ⟨(n + 1),0,none⟩ (.int .i64 V.kind)).setCell ⟨(n + 1),1,none⟩ (.string V.attr)).setCell ⟨(n + 1),2,none⟩ (.slice V.qi V.ni V.ci)).setCell ⟨(n + 1),3,none⟩ (.slice V.qw V.nw V.cw)).setCell ⟨(n + 1),4,none⟩ (.int .i64 V.lo)).setCell ⟨(n + 1),5,none⟩ (.int .i64 V.hi))=Z) :
    Z.heap[n]? = some (.cells #[.int .i64 A.kind,.string A.attr,.slice A.qi A.ni A.ci,.slice A.qw A.nw A.cw,.int .i64 A.lo,.int .i64 A.hi] 26 (0,0))∧Z.heap[n + 1]? = some (.cells #[.int .i64 V.kind,.string V.attr,.slice V.qi V.ni V.ci,.slice V.qw V.nw V.cw,.int .i64 V.lo,.int .i64 V.hi] 26 (0,0))∧(∀ k,k ≠ n→k ≠ n + 1→Z.heap[k]? = Z0.heap[k]?)∧Z.heap.size=Z0.heap.size∧Z.os=Z0.os∧Z.tape=Z0.tape∧Z.output=Z0.output:=by
  subst hZ
  refine ⟨?_, ?_,fun k h1 h2=>?_, ?_,by simp only [setC_os],by simp only [setC_tape],by simp only [setC_out]⟩
  · exact (heap_six (M:=n + 1) (b:=n) (by omega) _ _ _ _ _ _).trans (box_set6 q8 _ _ _ _ _ _)
  · exact box_set6 ((heap_six (M:=n) (b:=n + 1) (by omega) _ _ _ _ _ _).trans q9) _ _ _ _ _ _
  · exact (heap_six (M:=n + 1) h2 _ _ _ _ _ _).trans (heap_six (M:=n) h1 _ _ _ _ _ _)
  · exact (size_six _ _ _ _ _ _).trans (size_six _ _ _ _ _ _)
end Go.Proofs.YtimklglliffpcaaGreat
namespace Go.Proofs.YtimklglliffpcaaGreat

theorem wkI_of {l:List Int} (h:l.Pairwise (· < ·)):WkI l:=h.imp fun h=>Int.le_of_lt h
theorem wkS_of {l:List ByteArray} (h:l.Pairwise ltS):WkS l:=h.imp fun h=>Int.le_of_lt h
theorem pd_some {p:Pd} (h:p.ok=true):(p.kind=1→p.ints ≠ [])∧(p.kind=2→p.words ≠ []):=by
  unfold Pd.ok predB at h
  rw [Bool.and_eq_true] at h
  obtain ⟨_,h⟩:=h
  constructor
  · intro hk hn
    rw [hk,hn] at h
    simp [memB] at h
  · intro hk hn
    rw [hk,hn] at h
    simp [memB] at h
theorem once_ne {l:List Int} (h:l ≠ []):onceI l ≠ []:=by
  obtain ⟨x,hx⟩:=List.exists_mem_of_ne_nil l h
  exact List.ne_nil_of_mem (((onceI_spec l).1 x).2 hx)
theorem onceS_ne {l:List ByteArray} (h:l ≠ []):onceS l ≠ []:=by
  obtain ⟨x,hx⟩:=List.exists_mem_of_ne_nil l h
  exact List.ne_nil_of_mem (((onceS_spec l).1 x).2 hx)
theorem gd_one (attr:ByteArray) (l:List Int) (h1:WkI l) (h2:l.length≤1000000000) (h3:l ≠ []):Gd ⟨1,attr,l,[],0,0⟩:=⟨⟨h1,List.Pairwise.nil,h2,by simp,fun e=>by simp at e⟩,fun _=>h3,fun e=>by simp at e,Or.inl rfl⟩
theorem gd_two (attr:ByteArray) (l:List ByteArray) (h1:WkS l) (h2:l.length≤1000000000) (h3:l ≠ []):Gd ⟨2,attr,[],l,0,0⟩:=⟨⟨List.Pairwise.nil,h1,by simp,h2,fun e=>by simp at e⟩,fun e=>by simp at e,fun _=>h3,Or.inr (Or.inl rfl)⟩
theorem gd_three (attr:ByteArray) (lo hi:Int):Gd ⟨3,attr,[],[],lo,hi⟩:=⟨⟨List.Pairwise.nil,List.Pairwise.nil,by simp,by simp,fun e=>by simp at e⟩,fun e=>by simp at e,fun e=>by simp at e,Or.inr (Or.inr (Or.inl rfl))⟩
theorem gd_four (attr s:ByteArray):Gd ⟨4,attr,[],[s],0,0⟩:=⟨⟨List.Pairwise.nil,List.pairwise_singleton _ _,by simp,by simp,fun _=>⟨s,rfl⟩⟩,fun e=>by simp at e,fun e=>by simp at e,Or.inr (Or.inr (Or.inr rfl))⟩
theorem pd_len {p:Pd} (h:p.ok=true):(p.kind=1→p.ints.length≤64)∧(p.kind=2→p.words.length≤64):=by
  unfold Pd.ok predB at h
  rw [Bool.and_eq_true] at h
  obtain ⟨_,h⟩:=h
  constructor
  · intro hk
    rw [hk] at h
    simp [memB] at h
    omega
  · intro hk
    rw [hk] at h
    simp [memB] at h
    omega
theorem gd_norm {p m:Pd} (_:p.small) (h:normD p=some m):Gd m:=by
  cases hp:p.ok with
  | false=>rw [normD_none hp] at h;cases h
  | true =>
    rcases pd_kinds hp with hk | hk | hk | ⟨hk,s,hs1⟩
    · rw [normD_1 hp hk] at h
      cases h
      exact gd_one _ _ (wkI_of (onceI_spec p.ints).2.1) (Nat.le_trans (onceI_spec p.ints).2.2 (Nat.le_trans ((pd_len hp).1 hk) (by decide))) (once_ne ((pd_some hp).1 hk))
    · rw [normD_2 hp hk] at h
      cases h
      exact gd_two _ _ (wkS_of (onceS_spec p.words).2.1) (Nat.le_trans (onceS_spec p.words).2.2 (Nat.le_trans ((pd_len hp).2 hk) (by decide))) (onceS_ne ((pd_some hp).2 hk))
    · rw [normD_3 hp hk] at h
      split at h
      · cases h
      · split at h
        · cases h
          exact gd_one _ _ (List.pairwise_singleton _ _) (by simp) (by simp)
        · cases h
          exact gd_three _ _ _
    · rw [normD_4 hp hk,hs1] at h
      cases h
      exact gd_four _ _
theorem gd_core {a b m:Pd} (ha:Gd a) (h:coreD a b=some m):Gd m:=by
  unfold coreD at h
  split at h
  · unfold mkI at h
    split at h
    · cases h
    · next h0 =>
      cases h
      exact gd_one _ _ (ha.1.1.sublist List.filter_sublist) (Nat.le_trans (List.length_filter_le _ _) ha.1.2.2.1) (fun e=>h0 (by rw [e];rfl))
  · split at h
    · unfold mkS at h
      split at h
      · cases h
      · next h0 =>
        cases h
        exact gd_two _ _ (ha.1.2.1.sublist List.filter_sublist) (Nat.le_trans (List.length_filter_le _ _) ha.1.2.2.2.1) (fun e=>h0 (by rw [e];rfl))
    · split at h
      · cases h
      · split at h
        · unfold betwD at h
          split at h
          · cases h
          · split at h
            · cases h
              exact gd_one _ _ (List.pairwise_singleton _ _) (by simp) (by simp)
            · cases h
              exact gd_three _ _ _
        · unfold longD at h
          split at h <;> split at h <;> first | (cases h;exact gd_four _ _) | cases h
theorem gd_both {a b m:Pd} (ha:Gd a) (hb:Gd b) (h:bothD a b=some m):Gd m:=by
  unfold bothD at h
  split at h
  · exact gd_core hb h
  · exact gd_core ha h
/-- What is met so far, and the rest. -/
def meetGo:Option Pd→List Pd→Option Pd
  | o,[]=>o
  | o,q :: qs=>match o,normD q with
    | some m,some n=>if n.attr=m.attr then meetGo (bothD m n) qs else none
    | _,_=>none
def meetD:List Pd→Option Pd
  | []=>none
  | p :: ps=>meetGo (normD p) ps
end Go.Proofs.YtimklglliffpcaaGreat
namespace Go.Proofs.YtimklglliffpcaaGreat
open Go.RowKit Go.Sort Go.Shelf

/-- A list without members is nil. -/
def Tight (v:Pv) (p:Pd):Prop:=(p.ints=[]→v.qi=none)∧(p.words=[]→v.qw=none)
/-- conj.Normal. -/
theorem normal_tight (u:Pv) (p:Pd) (w:World) (hu:PdIn w u p) (hs:p.small) :
    Calls Tryz.prog 16 #[u.val] w fun e w'=>(∃ v,e=.returned (.tuple #[Pv.val v,.bool (normD p).isSome])∧PdOwn w.heap.size w' v ((normD p).getD zeroD)∧Tight v ((normD p).getD zeroD))∧Below w.heap.size w w':=by
  obtain ⟨hk,ha,hi,hw,hl,hh,s1,s2⟩:=hu
  have l1:p.ints.length≤1000000000000000000:=by have:=hs.1;omega
  have l2:p.words.length≤1000000000000000000:=by have:=hs.2;omega
  unfold Pv.val
  rw [hk,ha,hi,hw,hl,hh]
  cases hp:p.ok with
  | false =>
    rw [normD_none hp]
    exact (normal_no p.kind p.attr u.qi u.ci p.ints u.qw u.cw p.words p.lo p.hi w s1 s2 l1 l2 hp).mono fun e w' ⟨he,hb⟩=>⟨⟨zeroP,he,zeroD_own _ _,fun _=>rfl,fun _=>rfl⟩,hb⟩
  | true =>
    have hp':=hp
    unfold Pd.ok at hp'
    rcases pd_kinds hp with h | h | h | ⟨h,s,hs1⟩
    · rw [normD_1 hp h]
      rw [h] at hp' ⊢
      refine (normal_1o p.attr u.qi u.ci p.ints u.qw u.cw p.words p.lo p.hi w s1 s2 l1 l2 hp').mono fun e w' ⟨⟨q,c,he,hq,hB,hW⟩,hb⟩=>⟨⟨⟨1,p.attr,q,(onceI p.ints).length,c,none,0,0,0,0⟩,he,⟨⟨rfl,rfl,rfl,rfl,rfl,rfl,hq,SlOf.none _⟩,⟨hB,fun a e=>(by cases e)⟩,fun _=>hW,(fun e=>by simp at e)⟩,(fun e=>absurd e (once_ne ((pd_some hp).1 h))),fun _=>rfl⟩,hb⟩
    · rw [normD_2 hp h]
      rw [h] at hp' ⊢
      refine (normal_2o p.attr u.qi u.ci p.ints u.qw u.cw p.words p.lo p.hi w s1 s2 l1 l2 hp').mono fun e w' ⟨⟨q,c,he,hq,hB,hW⟩,hb⟩=>⟨⟨⟨2,p.attr,none,0,0,q,(onceS p.words).length,c,0,0⟩,he,⟨⟨rfl,rfl,rfl,rfl,rfl,rfl,SlOf.none _,hq⟩,⟨fun a e=>(by cases e),hB⟩,(fun e=>by simp at e),fun _=>hW⟩,fun _=>rfl,(fun e=>absurd e (onceS_ne ((pd_some hp).2 h)))⟩,hb⟩
    · rw [normD_3 hp h]
      rw [h] at hp' ⊢
      by_cases hc:p.hi < p.lo
      · rw [if_pos hc]
        exact (normal_3n p.attr u.qi u.ci p.ints u.qw u.cw p.words p.lo p.hi w s1 s2 l1 l2 hp' hc).mono fun e w' ⟨he,hb⟩=>⟨⟨zeroP,he,zeroD_own _ _,fun _=>rfl,fun _=>rfl⟩,hb⟩
      · rw [if_neg hc]
        by_cases hq:p.lo=p.hi
        · rw [if_pos hq]
          refine (normal_3eo p.attr u.qi u.ci p.ints u.qw u.cw p.words p.lo p.hi w s1 s2 l1 l2 hp' hq).mono fun e w' ⟨⟨q,c,he,hq,hB,hW⟩,hb⟩=>⟨⟨⟨1,p.attr,q,1,c,none,0,0,0,0⟩,he,⟨⟨rfl,rfl,rfl,rfl,rfl,rfl,hq,SlOf.none _⟩,⟨hB,fun a e=>(by cases e)⟩,fun _=>hW,(fun e=>by simp at e)⟩,(fun e=>absurd e (by simp)),fun _=>rfl⟩,hb⟩
        · rw [if_neg hq]
          exact (normal_3r p.attr u.qi u.ci p.ints u.qw u.cw p.words p.lo p.hi w s1 s2 l1 l2 hp' (by omega)).mono fun e w' ⟨he,hb⟩=>⟨⟨⟨3,p.attr,none,0,0,none,0,0,p.lo,p.hi⟩,he,⟨⟨rfl,rfl,rfl,rfl,rfl,rfl,SlOf.none _,SlOf.none _⟩,Fr2.none2 rfl rfl,(fun e=>by simp at e),(fun e=>by simp at e)⟩,fun _=>rfl,fun _=>rfl⟩,hb⟩
    · rw [normD_4 hp h]
      rw [h] at hp' ⊢
      exact (normal_4o p.attr u.qi u.ci p.ints u.qw u.cw p.words p.lo p.hi w s1 s2 l1 l2 hp' s (by rw [hs1];rfl)).mono fun e w' ⟨⟨q,c,he,hq,hB⟩,hb⟩=>⟨⟨⟨4,p.attr,none,0,0,q,1,c,0,0⟩,he,⟨⟨rfl,rfl,rfl,(by show 1=p.words.length;rw [hs1];rfl),rfl,rfl,SlOf.none _,(by show SlOf encS 1 w' q c p.words;rw [hs1];exact hq)⟩,⟨fun a e=>(by cases e),hB⟩,(fun e=>by simp at e),(fun e=>by simp at e)⟩,fun _=>rfl,(fun e=>by simp [hs1] at e)⟩,hb⟩
theorem off_new {B M:Nat} {w:World} {u:Pv} {p:Pd} (h:PdOwn B w u p) (ht:Tight u p) (hM:w.heap.size≤M):Off u (fun j=>j=M):=by
  refine ⟨fun a e hj=>?_,fun a e hj=>?_⟩
  · by_cases hn:p.ints=[]
    · rw [ht.1 hn] at e;cases e
    · obtain ⟨b,off,hq2,hb,_⟩:=h.1.2.2.2.2.2.2.1.2.2.2 (List.length_pos_iff.2 hn)
      rw [e] at hq2
      cases hq2
      simp only at hj
      omega
  · by_cases hn:p.words=[]
    · rw [ht.2 hn] at e;cases e
    · obtain ⟨b,off,hq2,hb,_⟩:=h.1.2.2.2.2.2.2.2.2.2.2 (List.length_pos_iff.2 hn)
      rw [e] at hq2
      cases hq2
      simp only at hj
      omega
end Go.Proofs.YtimklglliffpcaaGreat
