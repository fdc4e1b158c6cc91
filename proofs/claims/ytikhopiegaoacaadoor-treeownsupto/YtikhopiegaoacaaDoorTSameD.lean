/- What Same returns, of any two trees: the cases ks, eq. -/
import Derived.Test.YtikhopiegaoacaaDoorTSame
import Derived.Test.YtikhopiegaoacaaDoorTCloneTree
namespace Go.Proofs.YtikhopiegaoacaaDoor
open Go.RowKit

set_option maxRecDepth 100000 in
set_option maxHeartbeats 8000000 in
theorem same_ks (k1:Int) (a1:ByteArray) (qi1:Option Addr) (ci1:Nat) (i1:List Int) (qw1:Option Addr) (cw1:Nat) (w1:List ByteArray) (l1 h1 o1:Int) (qk1:Option Addr) (ck1:Nat) (ks1:List Nd) (qi2:Option Addr) (ci2:Nat) (qw2:Option Addr) (cw2:Nat) (qk2:Option Addr) (ck2:Nat) (ks2:List Nd) (w:World) (s1:SlOf encI 1 w qi1 ci1 i1) (s2:SlOf encI 1 w qi2 ci2 i1) (m1:i1.length≤1000000000) (t1:SlOf encS 1 w qw1 cw1 w1) (t2:SlOf encS 1 w qw2 cw2 w1) (m2:w1.length≤1000000000) (n1:NdsOf w qk1 ck1 ks1) (n2:NdsOf w qk2 ck2 ks2) (m3:wtL ks1≤1000000000) (ih:∀ x ∈ ks1,SameP x) (hne:ks1 ≠ ks2) :
  Calls Tryd.prog 20 #[.agg #[.int .i64 k1,.string a1,.slice qi1 i1.length ci1,.slice qw1 w1.length cw1,.int .i64 l1,.int .i64 h1,.int .i64 o1,.slice qk1 ks1.length ck1],.agg #[.int .i64 k1,.string a1,.slice qi2 i1.length ci2,.slice qw2 w1.length cw2,.int .i64 l1,.int .i64 h1,.int .i64 o1,.slice qk2 ks2.length ck2]] w fun e w'=>e=.returned (.bool (sameT (Nd.mk k1 a1 i1 w1 l1 h1 o1 ks1) (Nd.mk k1 a1 i1 w1 l1 h1 o1 ks2)))∧Below w.heap.size w w':=by
 obtain ⟨X,HX⟩:∃ X,(w.alloc (.cells #[.int .i64 k1,.string a1,.slice qi1 i1.length ci1,.slice qw1 w1.length cw1,.int .i64 l1,.int .i64 h1,.int .i64 o1,.slice qk1 ks1.length ck1] 29)).alloc (.cells #[.int .i64 k1,.string a1,.slice qi2 i1.length ci2,.slice qw2 w1.length cw2,.int .i64 l1,.int .i64 h1,.int .i64 o1,.slice qk2 ks2.length ck2] 29)=X:=⟨_,rfl⟩
 have hXs:X.heap.size=w.heap.size + 2:=by rw [← HX];simp
 have hwX:Below w.heap.size w X:=by rw [← HX];exact ((Below.refl _ _).alloc (Nat.le_refl _) _).alloc (by simp) _
 have hX0:X.heap[w.heap.size]? = some (.cells #[.int .i64 k1,.string a1,.slice qi1 i1.length ci1,.slice qw1 w1.length cw1,.int .i64 l1,.int .i64 h1,.int .i64 o1,.slice qk1 ks1.length ck1] 29 (0,0)):=by rw [← HX,Below.heap_alloc _ _ _ (by simp)];exact box_nw _ _
 have hX1:X.heap[w.heap.size + 1]? = some (.cells #[.int .i64 k1,.string a1,.slice qi2 i1.length ci2,.slice qw2 w1.length cw2,.int .i64 l1,.int .i64 h1,.int .i64 o1,.slice qk2 ks2.length ck2] 29 (0,0)):=by rw [← HX,show w.heap.size + 1=(w.alloc (.cells #[.int .i64 k1,.string a1,.slice qi1 i1.length ci1,.slice qw1 w1.length cw1,.int .i64 l1,.int .i64 h1,.int .i64 o1,.slice qk1 ks1.length ck1] 29)).heap.size by simp];exact box_nw _ _
 obtain ⟨x0,x1,x2,x3,x4,x5,x6,x7⟩:=of8' hX0
 obtain ⟨y0,y1,y2,y3,y4,y5,y6,y7⟩:=of8' hX1
 have HWX:=hide hwX
 have HX0:=hide hX0
 have HX1:=hide hX1
 have c1:=eqI qi1 ci1 i1 qi2 ci2 i1 X (s1.below hwX) (s2.below hwX) (by omega)
 rw [decide_eq_true rfl] at c1
 clear s1 s2
 have c2:=fun w' (hb:Below w.heap.size w w')=>eqS qw1 cw1 w1 qw2 cw2 w1 w' (t1.below hb) (t2.below hb) (by omega)
 rw [decide_eq_true rfl] at c2
 clear t1 t2
 have c3:=fun w' (hb:Below w.heap.size w w')=>eqF_any qk1 ck1 ks1 qk2 ck2 ks2 w' (n1.below hb) (n2.below hb) ih m3
 rw [sameL_no hne] at c3
 clear n1 n2 ih
 have HN:=hide (show Nd.mk k1 a1 i1 w1 l1 h1 o1 ks1 ≠ Nd.mk k1 a1 i1 w1 l1 h1 o1 ks2 from fun e=>hne (by injection e))
 clear hwX hX0 hX1
 go_enter Tryd.func20,Tryd.ntmps20
 go_wp2_with (first
  | (go_at_call 34;refine c1.mono ?_;rintro e u1 ⟨rfl,b1⟩;obtain ⟨d0,d1,d2,d3,d4,d5,d6,d7⟩:=of8' ((b1.block _ (by omega)).trans (uh HX0));obtain ⟨e0,e1,e2,e3,e4,e5,e6,e7⟩:=of8' ((b1.block _ (by omega)).trans (uh HX1));have B1:=hide b1;clear b1)
  | (go_at_call 35;refine (c2 _ (by exact below_sub (uh HWX) (uh B1))).mono ?_;rintro e u2 ⟨rfl,b2⟩;have B2:=hide (below_sub (uh B1) b2);obtain ⟨f0,f1,f2,f3,f4,f5,f6,f7⟩:=of8' (((uh B2).block _ (by omega)).trans (uh HX0));obtain ⟨g0,g1,g2,g3,g4,g5,g6,g7⟩:=of8' (((uh B2).block _ (by omega)).trans (uh HX1));clear b2)
  | (go_at_call 36;refine (c3 _ (by exact below_sub (uh HWX) (uh B2))).mono ?_;rintro e u3 ⟨rfl,b3⟩;have B3:=hide (below_sub (uh B2) b3);clear b3))
 go_ret
 exact ⟨ret_bool (sameT_no (uh HN)).symm,below_sub (uh HWX) (uh B3)⟩
set_option maxRecDepth 100000 in
set_option maxHeartbeats 8000000 in
theorem same_eq (k1:Int) (a1:ByteArray) (qi1:Option Addr) (ci1:Nat) (i1:List Int) (qw1:Option Addr) (cw1:Nat) (w1:List ByteArray) (l1 h1 o1:Int) (qk1:Option Addr) (ck1:Nat) (ks1:List Nd) (qi2:Option Addr) (ci2:Nat) (qw2:Option Addr) (cw2:Nat) (qk2:Option Addr) (ck2:Nat) (w:World) (s1:SlOf encI 1 w qi1 ci1 i1) (s2:SlOf encI 1 w qi2 ci2 i1) (m1:i1.length≤1000000000) (t1:SlOf encS 1 w qw1 cw1 w1) (t2:SlOf encS 1 w qw2 cw2 w1) (m2:w1.length≤1000000000) (n1:NdsOf w qk1 ck1 ks1) (n2:NdsOf w qk2 ck2 ks1) (m3:wtL ks1≤1000000000) (ih:∀ x ∈ ks1,SameP x) :
  Calls Tryd.prog 20 #[.agg #[.int .i64 k1,.string a1,.slice qi1 i1.length ci1,.slice qw1 w1.length cw1,.int .i64 l1,.int .i64 h1,.int .i64 o1,.slice qk1 ks1.length ck1],.agg #[.int .i64 k1,.string a1,.slice qi2 i1.length ci2,.slice qw2 w1.length cw2,.int .i64 l1,.int .i64 h1,.int .i64 o1,.slice qk2 ks1.length ck2]] w fun e w'=>e=.returned (.bool (sameT (Nd.mk k1 a1 i1 w1 l1 h1 o1 ks1) (Nd.mk k1 a1 i1 w1 l1 h1 o1 ks1)))∧Below w.heap.size w w':=by
 obtain ⟨X,HX⟩:∃ X,(w.alloc (.cells #[.int .i64 k1,.string a1,.slice qi1 i1.length ci1,.slice qw1 w1.length cw1,.int .i64 l1,.int .i64 h1,.int .i64 o1,.slice qk1 ks1.length ck1] 29)).alloc (.cells #[.int .i64 k1,.string a1,.slice qi2 i1.length ci2,.slice qw2 w1.length cw2,.int .i64 l1,.int .i64 h1,.int .i64 o1,.slice qk2 ks1.length ck2] 29)=X:=⟨_,rfl⟩
 have hXs:X.heap.size=w.heap.size + 2:=by rw [← HX];simp
 have hwX:Below w.heap.size w X:=by rw [← HX];exact ((Below.refl _ _).alloc (Nat.le_refl _) _).alloc (by simp) _
 have hX0:X.heap[w.heap.size]? = some (.cells #[.int .i64 k1,.string a1,.slice qi1 i1.length ci1,.slice qw1 w1.length cw1,.int .i64 l1,.int .i64 h1,.int .i64 o1,.slice qk1 ks1.length ck1] 29 (0,0)):=by rw [← HX,Below.heap_alloc _ _ _ (by simp)];exact box_nw _ _
 have hX1:X.heap[w.heap.size + 1]? = some (.cells #[.int .i64 k1,.string a1,.slice qi2 i1.length ci2,.slice qw2 w1.length cw2,.int .i64 l1,.int .i64 h1,.int .i64 o1,.slice qk2 ks1.length ck2] 29 (0,0)):=by rw [← HX,show w.heap.size + 1=(w.alloc (.cells #[.int .i64 k1,.string a1,.slice qi1 i1.length ci1,.slice qw1 w1.length cw1,.int .i64 l1,.int .i64 h1,.int .i64 o1,.slice qk1 ks1.length ck1] 29)).heap.size by simp];exact box_nw _ _
 obtain ⟨x0,x1,x2,x3,x4,x5,x6,x7⟩:=of8' hX0
 obtain ⟨y0,y1,y2,y3,y4,y5,y6,y7⟩:=of8' hX1
 have HWX:=hide hwX
 have HX0:=hide hX0
 have HX1:=hide hX1
 have c1:=eqI qi1 ci1 i1 qi2 ci2 i1 X (s1.below hwX) (s2.below hwX) (by omega)
 rw [decide_eq_true rfl] at c1
 clear s1 s2
 have c2:=fun w' (hb:Below w.heap.size w w')=>eqS qw1 cw1 w1 qw2 cw2 w1 w' (t1.below hb) (t2.below hb) (by omega)
 rw [decide_eq_true rfl] at c2
 clear t1 t2
 have c3:=fun w' (hb:Below w.heap.size w w')=>eqF_any qk1 ck1 ks1 qk2 ck2 ks1 w' (n1.below hb) (n2.below hb) ih m3
 rw [sameL_yes rfl] at c3
 clear n1 n2 ih
 clear hwX hX0 hX1
 go_enter Tryd.func20,Tryd.ntmps20
 go_wp2_with (first
  | (go_at_call 34;refine c1.mono ?_;rintro e u1 ⟨rfl,b1⟩;obtain ⟨d0,d1,d2,d3,d4,d5,d6,d7⟩:=of8' ((b1.block _ (by omega)).trans (uh HX0));obtain ⟨e0,e1,e2,e3,e4,e5,e6,e7⟩:=of8' ((b1.block _ (by omega)).trans (uh HX1));have B1:=hide b1;clear b1)
  | (go_at_call 35;refine (c2 _ (by exact below_sub (uh HWX) (uh B1))).mono ?_;rintro e u2 ⟨rfl,b2⟩;have B2:=hide (below_sub (uh B1) b2);obtain ⟨f0,f1,f2,f3,f4,f5,f6,f7⟩:=of8' (((uh B2).block _ (by omega)).trans (uh HX0));obtain ⟨g0,g1,g2,g3,g4,g5,g6,g7⟩:=of8' (((uh B2).block _ (by omega)).trans (uh HX1));clear b2)
  | (go_at_call 36;refine (c3 _ (by exact below_sub (uh HWX) (uh B2))).mono ?_;rintro e u3 ⟨rfl,b3⟩;have B3:=hide (below_sub (uh B2) b3);clear b3))
 go_ret
 exact ⟨ret_bool (sameT_yes rfl).symm,below_sub (uh HWX) (uh B3)⟩
end Go.Proofs.YtikhopiegaoacaaDoor
