/- What the helper that compares trees returns, of any two. -/
import Derived.Test.YtikhopiegaoacaaDoorTSamePred
import Derived.Lib.QuietBelow
namespace Go.Proofs.YtikhopiegaoacaaDoor
open Go.RowKit Go.Sort

/-- Lists no longer than any memory holds. -/
inductive OkN:Nd→Prop
 | mk {kind:Int} {attr:ByteArray} {ints:List Int} {words:List ByteArray} {lo hi op:Int} {kids:List Nd}:ints.length≤100000000000000→words.length≤100000000000000→kids.length≤100000000000000→(∀ x ∈ kids,OkN x)→OkN (.mk kind attr ints words lo hi op kids)
theorem OkN.of_wt:∀ (t:Nd),wtN t≤1000000000→OkN t:=by
 intro t
 induction t using Nd.ind with
 | h kind attr ints words lo hi op kids ih =>
  intro h
  simp only [wtN] at h
  have h1:=words_len words
  have h2:=len_size kids
  have h3:=sizeL_wt kids
  exact .mk (by omega) (by omega) (by omega) fun x hx=>ih x hx (by have:=wtL_mem hx;omega)
/-- What SameNode has to do at a tree. -/
def SameM (a:Nd):Prop:=∀ (b:Nd) (va vb:Nv) (w:World),NdIn w va a→NdIn w vb b→OkN a→Calls Tryd.prog 11 #[va.val,vb.val] w fun e w'=>e=.returned (.bool (sameT a b))∧Below w.heap.size w w'
set_option maxRecDepth 100000 in
set_option maxHeartbeats 4000000 in
theorem sameM_o (k1:Int) (a1:ByteArray) (qi1:Option Addr) (ci1:Nat) (i1:List Int) (qw1:Option Addr) (cw1:Nat) (w1:List ByteArray) (l1 h1 o1:Int) (qk1:Option Addr) (ck1:Nat) (ks1:List Nd) (k2:Int) (a2:ByteArray) (qi2:Option Addr) (ci2:Nat) (i2:List Int) (qw2:Option Addr) (cw2:Nat) (w2:List ByteArray) (l2 h2 o2:Int) (qk2:Option Addr) (ck2:Nat) (ks2:List Nd) (w:World) (hne:o1 ≠ o2) :
  Calls Tryd.prog 11 #[.agg #[.int .i64 k1,.string a1,.slice qi1 i1.length ci1,.slice qw1 w1.length cw1,.int .i64 l1,.int .i64 h1,.int .i64 o1,.slice qk1 ks1.length ck1],.agg #[.int .i64 k2,.string a2,.slice qi2 i2.length ci2,.slice qw2 w2.length cw2,.int .i64 l2,.int .i64 h2,.int .i64 o2,.slice qk2 ks2.length ck2]] w fun e w'=>e=.returned (.bool false)∧Below w.heap.size w w':=by
 obtain ⟨X,HX⟩:∃ X,(w.alloc (.cells #[.int .i64 k1,.string a1,.slice qi1 i1.length ci1,.slice qw1 w1.length cw1,.int .i64 l1,.int .i64 h1,.int .i64 o1,.slice qk1 ks1.length ck1] 29)).alloc (.cells #[.int .i64 k2,.string a2,.slice qi2 i2.length ci2,.slice qw2 w2.length cw2,.int .i64 l2,.int .i64 h2,.int .i64 o2,.slice qk2 ks2.length ck2] 29)=X:=⟨_,rfl⟩
 have hXs:X.heap.size=w.heap.size + 2:=by rw [← HX];simp
 have hwX:Below w.heap.size w X:=by rw [← HX];exact ((Below.refl _ _).alloc (Nat.le_refl _) _).alloc (by simp) _
 have hX0:X.heap[w.heap.size]? = some (.cells #[.int .i64 k1,.string a1,.slice qi1 i1.length ci1,.slice qw1 w1.length cw1,.int .i64 l1,.int .i64 h1,.int .i64 o1,.slice qk1 ks1.length ck1] 29 (0,0)):=by rw [← HX,Below.heap_alloc _ _ _ (by simp)];exact box_nw _ _
 have hX1:X.heap[w.heap.size + 1]? = some (.cells #[.int .i64 k2,.string a2,.slice qi2 i2.length ci2,.slice qw2 w2.length cw2,.int .i64 l2,.int .i64 h2,.int .i64 o2,.slice qk2 ks2.length ck2] 29 (0,0)):=by rw [← HX,show w.heap.size + 1=(w.alloc (.cells #[.int .i64 k1,.string a1,.slice qi1 i1.length ci1,.slice qw1 w1.length cw1,.int .i64 l1,.int .i64 h1,.int .i64 o1,.slice qk1 ks1.length ck1] 29)).heap.size by simp];exact box_nw _ _
 obtain ⟨x0,x1,x2,x3,x4,x5,x6,x7⟩:=of8' hX0
 obtain ⟨y0,y1,y2,y3,y4,y5,y6,y7⟩:=of8' hX1
 have HX0:=hide hX0
 have HX1:=hide hX1
 have HWX:=hide hwX
 have eq0:(o1 != o2)=true:=by simpa using hne
 clear hwX hX0 hX1
 go_enter Tryd.func11,Tryd.ntmps11
 go_wp2
 go_ret
 exact ⟨rfl,uh HWX⟩
set_option maxRecDepth 100000 in
set_option maxHeartbeats 4000000 in
theorem sameM_n (k1:Int) (a1:ByteArray) (qi1:Option Addr) (ci1:Nat) (i1:List Int) (qw1:Option Addr) (cw1:Nat) (w1:List ByteArray) (l1 h1 o1:Int) (qk1:Option Addr) (ck1:Nat) (ks1:List Nd) (k2:Int) (a2:ByteArray) (qi2:Option Addr) (ci2:Nat) (i2:List Int) (qw2:Option Addr) (cw2:Nat) (w2:List ByteArray) (l2 h2 o2:Int) (qk2:Option Addr) (ck2:Nat) (ks2:List Nd) (w:World) (ho:o1=o2) (hne:ks1.length ≠ ks2.length) :
  Calls Tryd.prog 11 #[.agg #[.int .i64 k1,.string a1,.slice qi1 i1.length ci1,.slice qw1 w1.length cw1,.int .i64 l1,.int .i64 h1,.int .i64 o1,.slice qk1 ks1.length ck1],.agg #[.int .i64 k2,.string a2,.slice qi2 i2.length ci2,.slice qw2 w2.length cw2,.int .i64 l2,.int .i64 h2,.int .i64 o2,.slice qk2 ks2.length ck2]] w fun e w'=>e=.returned (.bool false)∧Below w.heap.size w w':=by
 subst ho
 obtain ⟨X,HX⟩:∃ X,(w.alloc (.cells #[.int .i64 k1,.string a1,.slice qi1 i1.length ci1,.slice qw1 w1.length cw1,.int .i64 l1,.int .i64 h1,.int .i64 o1,.slice qk1 ks1.length ck1] 29)).alloc (.cells #[.int .i64 k2,.string a2,.slice qi2 i2.length ci2,.slice qw2 w2.length cw2,.int .i64 l2,.int .i64 h2,.int .i64 o1,.slice qk2 ks2.length ck2] 29)=X:=⟨_,rfl⟩
 have hXs:X.heap.size=w.heap.size + 2:=by rw [← HX];simp
 have hwX:Below w.heap.size w X:=by rw [← HX];exact ((Below.refl _ _).alloc (Nat.le_refl _) _).alloc (by simp) _
 have hX0:X.heap[w.heap.size]? = some (.cells #[.int .i64 k1,.string a1,.slice qi1 i1.length ci1,.slice qw1 w1.length cw1,.int .i64 l1,.int .i64 h1,.int .i64 o1,.slice qk1 ks1.length ck1] 29 (0,0)):=by rw [← HX,Below.heap_alloc _ _ _ (by simp)];exact box_nw _ _
 have hX1:X.heap[w.heap.size + 1]? = some (.cells #[.int .i64 k2,.string a2,.slice qi2 i2.length ci2,.slice qw2 w2.length cw2,.int .i64 l2,.int .i64 h2,.int .i64 o1,.slice qk2 ks2.length ck2] 29 (0,0)):=by rw [← HX,show w.heap.size + 1=(w.alloc (.cells #[.int .i64 k1,.string a1,.slice qi1 i1.length ci1,.slice qw1 w1.length cw1,.int .i64 l1,.int .i64 h1,.int .i64 o1,.slice qk1 ks1.length ck1] 29)).heap.size by simp];exact box_nw _ _
 obtain ⟨x0,x1,x2,x3,x4,x5,x6,x7⟩:=of8' hX0
 obtain ⟨y0,y1,y2,y3,y4,y5,y6,y7⟩:=of8' hX1
 have HX0:=hide hX0
 have HX1:=hide hX1
 have HWX:=hide hwX
 have eq0:(o1 != o1)=false:=by simp
 have eq1:((ks1.length:Int) != (ks2.length:Int))=true:=by rw [bne_iff_ne];omega
 clear hwX hX0 hX1
 go_enter Tryd.func11,Tryd.ntmps11
 go_wp2
 go_ret
 exact ⟨rfl,uh HWX⟩
set_option maxRecDepth 100000 in
set_option maxHeartbeats 4000000 in
theorem sameM_p (k1:Int) (a1:ByteArray) (qi1:Option Addr) (ci1:Nat) (i1:List Int) (qw1:Option Addr) (cw1:Nat) (w1:List ByteArray) (l1 h1 o1:Int) (qk1:Option Addr) (ck1:Nat) (ks1:List Nd) (k2:Int) (a2:ByteArray) (qi2:Option Addr) (ci2:Nat) (i2:List Int) (qw2:Option Addr) (cw2:Nat) (w2:List ByteArray) (l2 h2 o2:Int) (qk2:Option Addr) (ck2:Nat) (ks2:List Nd) (w:World) (s1:SlOf encI 1 w qi1 ci1 i1) (s2:SlOf encI 1 w qi2 ci2 i2) (t1:SlOf encS 1 w qw1 cw1 w1) (t2:SlOf encS 1 w qw2 cw2 w2) (m1:i1.length≤100000000000000) (m2:w1.length≤100000000000000) (ho:o1=o2) (hn:ks1.length=ks2.length) (hne:sameQ k1 a1 i1 w1 l1 h1 k2 a2 i2 w2 l2 h2=false) :
  Calls Tryd.prog 11 #[.agg #[.int .i64 k1,.string a1,.slice qi1 i1.length ci1,.slice qw1 w1.length cw1,.int .i64 l1,.int .i64 h1,.int .i64 o1,.slice qk1 ks1.length ck1],.agg #[.int .i64 k2,.string a2,.slice qi2 i2.length ci2,.slice qw2 w2.length cw2,.int .i64 l2,.int .i64 h2,.int .i64 o2,.slice qk2 ks2.length ck2]] w fun e w'=>e=.returned (.bool false)∧Below w.heap.size w w':=by
 subst ho
 rw [← hn]
 obtain ⟨X,HX⟩:∃ X,(w.alloc (.cells #[.int .i64 k1,.string a1,.slice qi1 i1.length ci1,.slice qw1 w1.length cw1,.int .i64 l1,.int .i64 h1,.int .i64 o1,.slice qk1 ks1.length ck1] 29)).alloc (.cells #[.int .i64 k2,.string a2,.slice qi2 i2.length ci2,.slice qw2 w2.length cw2,.int .i64 l2,.int .i64 h2,.int .i64 o1,.slice qk2 ks1.length ck2] 29)=X:=⟨_,rfl⟩
 have hXs:X.heap.size=w.heap.size + 2:=by rw [← HX];simp
 have hwX:Below w.heap.size w X:=by rw [← HX];exact ((Below.refl _ _).alloc (Nat.le_refl _) _).alloc (by simp) _
 have hX0:X.heap[w.heap.size]? = some (.cells #[.int .i64 k1,.string a1,.slice qi1 i1.length ci1,.slice qw1 w1.length cw1,.int .i64 l1,.int .i64 h1,.int .i64 o1,.slice qk1 ks1.length ck1] 29 (0,0)):=by rw [← HX,Below.heap_alloc _ _ _ (by simp)];exact box_nw _ _
 have hX1:X.heap[w.heap.size + 1]? = some (.cells #[.int .i64 k2,.string a2,.slice qi2 i2.length ci2,.slice qw2 w2.length cw2,.int .i64 l2,.int .i64 h2,.int .i64 o1,.slice qk2 ks1.length ck2] 29 (0,0)):=by rw [← HX,show w.heap.size + 1=(w.alloc (.cells #[.int .i64 k1,.string a1,.slice qi1 i1.length ci1,.slice qw1 w1.length cw1,.int .i64 l1,.int .i64 h1,.int .i64 o1,.slice qk1 ks1.length ck1] 29)).heap.size by simp];exact box_nw _ _
 obtain ⟨x0,x1,x2,x3,x4,x5,x6,x7⟩:=of8' hX0
 obtain ⟨y0,y1,y2,y3,y4,y5,y6,y7⟩:=of8' hX1
 have HX0:=hide hX0
 have HX1:=hide hX1
 have HWX:=hide hwX
 have eq0:(o1 != o1)=false:=by simp
 have eq1:((ks1.length:Int) != (ks1.length:Int))=false:=by simp
 have c0:=samePred_any k1 a1 qi1 ci1 i1 qw1 cw1 w1 l1 h1 k2 a2 qi2 ci2 i2 qw2 cw2 w2 l2 h2 X (s1.below hwX) (s2.below hwX) (t1.below hwX) (t2.below hwX) m1 m2
 rw [hne] at c0
 clear hwX hX0 hX1 s1 s2 t1 t2 hn
 go_enter Tryd.func11,Tryd.ntmps11
 go_wp2_with (go_at_call 27;refine c0.mono ?_;rintro e u1 ⟨rfl,b1⟩;have B1:=hide b1;clear b1)
 go_ret
 exact ⟨rfl,below_sub (uh HWX) (uh B1)⟩
set_option maxRecDepth 100000 in
set_option maxHeartbeats 4000000 in
theorem sameM_ks (k1:Int) (a1:ByteArray) (qi1:Option Addr) (ci1:Nat) (i1:List Int) (qw1:Option Addr) (cw1:Nat) (w1:List ByteArray) (l1 h1 o1:Int) (qk1:Option Addr) (ck1:Nat) (ks1:List Nd) (k2:Int) (a2:ByteArray) (qi2:Option Addr) (ci2:Nat) (i2:List Int) (qw2:Option Addr) (cw2:Nat) (w2:List ByteArray) (l2 h2 o2:Int) (qk2:Option Addr) (ck2:Nat) (ks2:List Nd) (w:World) (s1:SlOf encI 1 w qi1 ci1 i1) (s2:SlOf encI 1 w qi2 ci2 i2) (t1:SlOf encS 1 w qw1 cw1 w1) (t2:SlOf encS 1 w qw2 cw2 w2) (m1:i1.length≤100000000000000) (m2:w1.length≤100000000000000) (n1:NdsOf w qk1 ck1 ks1) (n2:NdsOf w qk2 ck2 ks2) (m3:ks1.length≤100000000000000) (mk:∀ x ∈ ks1,OkN x) (ih:∀ x ∈ ks1,SameM x) (ho:o1=o2) (hn:ks1.length=ks2.length) (he:sameQ k1 a1 i1 w1 l1 h1 k2 a2 i2 w2 l2 h2=true) :
  Calls Tryd.prog 11 #[.agg #[.int .i64 k1,.string a1,.slice qi1 i1.length ci1,.slice qw1 w1.length cw1,.int .i64 l1,.int .i64 h1,.int .i64 o1,.slice qk1 ks1.length ck1],.agg #[.int .i64 k2,.string a2,.slice qi2 i2.length ci2,.slice qw2 w2.length cw2,.int .i64 l2,.int .i64 h2,.int .i64 o2,.slice qk2 ks2.length ck2]] w fun e w'=>e=.returned (.bool (sameL ks1 ks2))∧Below w.heap.size w w':=by
 subst ho
 rw [← hn]
 obtain ⟨X,HX⟩:∃ X,(w.alloc (.cells #[.int .i64 k1,.string a1,.slice qi1 i1.length ci1,.slice qw1 w1.length cw1,.int .i64 l1,.int .i64 h1,.int .i64 o1,.slice qk1 ks1.length ck1] 29)).alloc (.cells #[.int .i64 k2,.string a2,.slice qi2 i2.length ci2,.slice qw2 w2.length cw2,.int .i64 l2,.int .i64 h2,.int .i64 o1,.slice qk2 ks1.length ck2] 29)=X:=⟨_,rfl⟩
 have hXs:X.heap.size=w.heap.size + 2:=by rw [← HX];simp
 have hwX:Below w.heap.size w X:=by rw [← HX];exact ((Below.refl _ _).alloc (Nat.le_refl _) _).alloc (by simp) _
 have hX0:X.heap[w.heap.size]? = some (.cells #[.int .i64 k1,.string a1,.slice qi1 i1.length ci1,.slice qw1 w1.length cw1,.int .i64 l1,.int .i64 h1,.int .i64 o1,.slice qk1 ks1.length ck1] 29 (0,0)):=by rw [← HX,Below.heap_alloc _ _ _ (by simp)];exact box_nw _ _
 have hX1:X.heap[w.heap.size + 1]? = some (.cells #[.int .i64 k2,.string a2,.slice qi2 i2.length ci2,.slice qw2 w2.length cw2,.int .i64 l2,.int .i64 h2,.int .i64 o1,.slice qk2 ks1.length ck2] 29 (0,0)):=by rw [← HX,show w.heap.size + 1=(w.alloc (.cells #[.int .i64 k1,.string a1,.slice qi1 i1.length ci1,.slice qw1 w1.length cw1,.int .i64 l1,.int .i64 h1,.int .i64 o1,.slice qk1 ks1.length ck1] 29)).heap.size by simp];exact box_nw _ _
 obtain ⟨x0,x1,x2,x3,x4,x5,x6,x7⟩:=of8' hX0
 obtain ⟨y0,y1,y2,y3,y4,y5,y6,y7⟩:=of8' hX1
 have HX0:=hide hX0
 have HX1:=hide hX1
 have HWX:=hide hwX
 have eq0:(o1 != o1)=false:=by simp
 have eq1:((ks1.length:Int) != (ks1.length:Int))=false:=by simp
 have a0:(ks1.length:Int)≤100000000000000:=by omega
 have c0:=samePred_any k1 a1 qi1 ci1 i1 qw1 cw1 w1 l1 h1 k2 a2 qi2 ci2 i2 qw2 cw2 w2 l2 h2 X (s1.below hwX) (s2.below hwX) (t1.below hwX) (t2.below hwX) m1 m2
 rw [he] at c0
 have N1:=hide n1
 have N2:=hide n2
 have IH:=hide ih
 have MK:=hide mk
 have HLM:=hide hn
 have mixed:Tryd.prog.follows .mixedOrders=true:=by kernel_rfl
 have en15:∀ args w,(callFunc 11 args).run Tryd.prog w=.ok (.enter 11 args) w:=enters_of Tryd.func11 (by kernel_rfl) rfl
 clear hwX hX0 hX1 s1 s2 t1 t2 hn n1 n2 ih mk
 go_enter Tryd.func11,Tryd.ntmps11
 go_wp2_with (go_at_call 27;refine c0.mono ?_;rintro e u1 ⟨rfl,b1⟩;obtain ⟨d0,d1,d2,d3,d4,d5,d6,d7⟩:=of8' ((b1.block _ (by omega)).trans (uh HX0));obtain ⟨e0,e1,e2,e3,e4,e5,e6,e7⟩:=of8' ((b1.block _ (by omega)).trans (uh HX1));have B1:=hide b1;clear b1)
 go_loopw [31] (fun i wr=>∃ k:Nat,k≤ks1.length∧i=.int .i64 k∧ks1.take k=ks2.take k∧Below X.heap.size X wr) (fun i _=>ks1.length - (intOf i).toNat)
 case atStart=>exact ⟨0,by omega,rfl,rfl,uh B1⟩
 case round =>
  obtain ⟨k,hk,rfl,hpre,hbel⟩:=hrel
  clear d0 d1 d2 d3 d4 d5 d6 d7 e0 e1 e2 e3 e4 e5 e6 e7 x0 x1 x2 x3 x4 x5 x6 x7 y0 y1 y2 y3 y4 y5 y6 y7
  obtain ⟨f0,f1,f2,f3,f4,f5,f6,f7⟩:=of8' ((hbel.block _ (by omega)).trans (uh HX0))
  obtain ⟨j0,j1,j2,j3,j4,j5,j6,j7⟩:=of8' ((hbel.block _ (by omega)).trans (uh HX1))
  have HB:=hide hbel
  by_cases hlt:k < ks1.length
  ·obtain ⟨x,hx,_⟩:=get_at hlt
   obtain ⟨y,hy,_⟩:=get_at (l:=ks2) (k:=k) (by have:=uh HLM;omega)
   have hw:=below_sub (uh HWX) hbel
   obtain ⟨b,off,v1,hq,hb,hin1,g0,g1,g2,g3,g4,g5,g6,g7⟩:=(uh N1).cells hx hw
   obtain ⟨b',off',v2,hq',hb',hin2,z0,z1,z2,z3,z4,z5,z6,z7⟩:=(uh N2).cells hy hw
   subst hq
   subst hq'
   have ki0:(0:Int)≤(k:Int):=by omega
   have ki1:(k:Int) < (ks1.length:Int):=by omega
   have hxm:x ∈ ks1:=List.mem_of_getElem? hx
   have q15:=fun (n:Nat) (os:Array Obj)=>uh IH x hxm y v1 v2 (grow (redrawn wr n) os) (hin1.keep (below_regrown wr n os)) (hin2.keep (below_regrown wr n os)) (uh MK x hxm)
   simp only [Nv.val] at q15
   have F7:∀ n os,(grow (redrawn wr n) os).cell? ⟨w.heap.size,7,none⟩=some _:=cell_regrown f7
   have J7:∀ n os,(grow (redrawn wr n) os).cell? ⟨w.heap.size + 1,7,none⟩=some _:=cell_regrown j7
   have G0:∀ n os,(grow (redrawn wr n) os).cell? ⟨b,off + k * 8,none⟩=some _:=cell_regrown g0
   have G1:∀ n os,(grow (redrawn wr n) os).cell? ⟨b,off + k * 8 + 1,none⟩=some _:=cell_regrown g1
   have G2:∀ n os,(grow (redrawn wr n) os).cell? ⟨b,off + k * 8 + 2,none⟩=some _:=cell_regrown g2
   have G3:∀ n os,(grow (redrawn wr n) os).cell? ⟨b,off + k * 8 + 3,none⟩=some _:=cell_regrown g3
   have G4:∀ n os,(grow (redrawn wr n) os).cell? ⟨b,off + k * 8 + 4,none⟩=some _:=cell_regrown g4
   have G5:∀ n os,(grow (redrawn wr n) os).cell? ⟨b,off + k * 8 + 5,none⟩=some _:=cell_regrown g5
   have G6:∀ n os,(grow (redrawn wr n) os).cell? ⟨b,off + k * 8 + 6,none⟩=some _:=cell_regrown g6
   have G7:∀ n os,(grow (redrawn wr n) os).cell? ⟨b,off + k * 8 + 7,none⟩=some _:=cell_regrown g7
   have Z0:∀ n os,(grow (redrawn wr n) os).cell? ⟨b',off' + k * 8,none⟩=some _:=cell_regrown z0
   have Z1:∀ n os,(grow (redrawn wr n) os).cell? ⟨b',off' + k * 8 + 1,none⟩=some _:=cell_regrown z1
   have Z2:∀ n os,(grow (redrawn wr n) os).cell? ⟨b',off' + k * 8 + 2,none⟩=some _:=cell_regrown z2
   have Z3:∀ n os,(grow (redrawn wr n) os).cell? ⟨b',off' + k * 8 + 3,none⟩=some _:=cell_regrown z3
   have Z4:∀ n os,(grow (redrawn wr n) os).cell? ⟨b',off' + k * 8 + 4,none⟩=some _:=cell_regrown z4
   have Z5:∀ n os,(grow (redrawn wr n) os).cell? ⟨b',off' + k * 8 + 5,none⟩=some _:=cell_regrown z5
   have Z6:∀ n os,(grow (redrawn wr n) os).cell? ⟨b',off' + k * 8 + 6,none⟩=some _:=cell_regrown z6
   have Z7:∀ n os,(grow (redrawn wr n) os).cell? ⟨b',off' + k * 8 + 7,none⟩=some _:=cell_regrown z7
   clear hin1 hin2 hw f0 f1 f2 f3 f4 f5 f6 j0 j1 j2 j3 j4 j5 j6 j7 g0 g1 g2 g3 g4 g5 g6 g7 z0 z1 z2 z3 z4 z5 z6 z7
   by_cases hxy:x=y
   ·have HN:=hide (pre_snoc hpre hx (by rw [hxy];exact hy))
    rw [sameT_yes hxy] at q15
    clear hx hy hbel hpre hxm hxy
    go_wp2
    refine wp_region_quiet_below (by assumption) (by kernel_rfl) ?_
    repeat (go_big_quiet_step (first
     | (go_at_fn 11;refine Calls.regrown_of (q15 _ _))))
    refine wpQuiet_nil ?_
    intro _ hw'
    obtain ⟨⟨dq,osq⟩,hw''⟩:=hw'
    subst hw''
    go_wp2
    exact ⟨⟨k + 1,by omega,congrArg (Value.int .i64) (by omega),uh HN,below_sub (uh HB) (below_regrown _ _ _)⟩,by simp [intOf];omega⟩
   ·have HN:=hide (pre_ne hx hy hxy)
    rw [sameT_no hxy] at q15
    clear hx hy hbel hpre hxm hxy
    go_wp2
    refine wp_region_quiet_below (by assumption) (by kernel_rfl) ?_
    repeat (go_big_quiet_step (first
     | (go_at_fn 11;refine Calls.regrown_of (q15 _ _))))
    refine wpQuiet_nil ?_
    intro _ hw'
    obtain ⟨⟨dq,osq⟩,hw''⟩:=hw'
    subst hw''
    go_wp2
    go_ret
    exact ⟨ret_bool (sameL_no (uh HN)).symm,below_sub (uh HWX) (below_sub (uh HB) (below_regrown _ _ _))⟩
  ·have ki1:¬ (k:Int) < (ks1.length:Int):=by omega
   have HN:=hide (show ks1=ks2 by rw [← List.take_of_length_le (l:=ks1) (i:=k) (by omega),hpre,List.take_of_length_le (by have:=uh HLM;omega)])
   clear hpre
   go_wp2
   go_ret
   exact ⟨ret_bool (sameL_yes (uh HN)).symm,below_sub (uh HWX) (uh HB)⟩
theorem sameT_mk (k1 a1 i1 w1 l1 h1 o1 ks1 k2 a2 i2 w2 l2 h2 o2 ks2):sameT (Nd.mk k1 a1 i1 w1 l1 h1 o1 ks1) (Nd.mk k2 a2 i2 w2 l2 h2 o2 ks2)=(decide (o1=o2) && (sameQ k1 a1 i1 w1 l1 h1 k2 a2 i2 w2 l2 h2 && sameL ks1 ks2)):=by
 rw [Bool.eq_iff_iff,sameT_iff]
 simp only [Bool.and_eq_true,decide_eq_true_eq,sameQ,sameL,Nd.mk.injEq]
 constructor
 ·rintro ⟨rfl,rfl,rfl,rfl,rfl,rfl,rfl,rfl⟩;simp
 ·rintro ⟨rfl,⟨rfl,rfl,rfl,rfl,rfl,rfl⟩,rfl⟩;simp
theorem sameM_all:∀ a,SameM a:=by
 intro t
 induction t using Nd.ind with
 | h k1 a1 i1 w1 l1 h1 o1 ks1 ih =>
  intro b va vb w g1 g2 hok
  cases b with
  | mk k2 a2 i2 w2 l2 h2 o2 ks2 =>
   obtain ⟨qi1,ci1,qw1,cw1,qk1,ck1,rfl,s1,t1,n1⟩:=g1.parts
   obtain ⟨qi2,ci2,qw2,cw2,qk2,ck2,rfl,s2,t2,n2⟩:=g2.parts
   cases hok with
   | mk m1 m2 m3 mk =>
    rw [sameT_mk]
    simp only [Nv.val]
    by_cases ho:o1=o2
    case neg=>rw [decide_eq_false ho,Bool.false_and];exact sameM_o k1 a1 qi1 ci1 i1 qw1 cw1 w1 l1 h1 o1 qk1 ck1 ks1 k2 a2 qi2 ci2 i2 qw2 cw2 w2 l2 h2 o2 qk2 ck2 ks2 w ho
    rw [decide_eq_true ho,Bool.true_and]
    by_cases hn:ks1.length=ks2.length
    case neg=>rw [sameL_no (fun e=>hn (by rw [e])),Bool.and_false];exact sameM_n k1 a1 qi1 ci1 i1 qw1 cw1 w1 l1 h1 o1 qk1 ck1 ks1 k2 a2 qi2 ci2 i2 qw2 cw2 w2 l2 h2 o2 qk2 ck2 ks2 w ho hn
    cases he:sameQ k1 a1 i1 w1 l1 h1 k2 a2 i2 w2 l2 h2 with
    | false=>rw [Bool.false_and];exact sameM_p k1 a1 qi1 ci1 i1 qw1 cw1 w1 l1 h1 o1 qk1 ck1 ks1 k2 a2 qi2 ci2 i2 qw2 cw2 w2 l2 h2 o2 qk2 ck2 ks2 w s1 s2 t1 t2 m1 m2 ho hn he
    | true=>rw [Bool.true_and];exact sameM_ks k1 a1 qi1 ci1 i1 qw1 cw1 w1 l1 h1 o1 qk1 ck1 ks1 k2 a2 qi2 ci2 i2 qw2 cw2 w2 l2 h2 o2 qk2 ck2 ks2 w s1 s2 t1 t2 m1 m2 n1 n2 m3 mk ih ho hn he
end Go.Proofs.YtikhopiegaoacaaDoor
