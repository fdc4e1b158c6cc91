/- What the helpers that compare predicates and trees return, of any two. -/
import Derived.Test.YtikhopiegaoacaaDoorTKept
import Derived.Test.YtikhopiegaoacaaDoorTSame
import Derived.Test.YtikhopiegaoacaaDoorTCloneTree
namespace Go.Proofs.YtikhopiegaoacaaDoor
open Go.RowKit Go.Sort

set_option maxRecDepth 100000 in
set_option maxHeartbeats 4000000 in
theorem sameQ_k (k1:Int) (a1:ByteArray) (qi1:Option Addr) (ci1:Nat) (i1:List Int) (qw1:Option Addr) (cw1:Nat) (w1:List ByteArray) (l1 h1:Int) (qi2:Option Addr) (ci2:Nat) (qw2:Option Addr) (cw2:Nat) (k2:Int) (a2:ByteArray) (l2:Int) (h2:Int) (i2:List Int) (w2:List ByteArray) (w:World) (hne:k1 ≠ k2) :
  Calls Tryd.prog 27 #[.agg #[.int .i64 k1,.string a1,.slice qi1 i1.length ci1,.slice qw1 w1.length cw1,.int .i64 l1,.int .i64 h1],.agg #[.int .i64 k2,.string a2,.slice qi2 i2.length ci2,.slice qw2 w2.length cw2,.int .i64 l2,.int .i64 h2]] w fun e w'=>e=.returned (.bool false)∧Below w.heap.size w w':=by
 obtain ⟨X,HX⟩:∃ X,(w.alloc (.cells #[.int .i64 k1,.string a1,.slice qi1 i1.length ci1,.slice qw1 w1.length cw1,.int .i64 l1,.int .i64 h1] 27)).alloc (.cells #[.int .i64 k2,.string a2,.slice qi2 i2.length ci2,.slice qw2 w2.length cw2,.int .i64 l2,.int .i64 h2] 27)=X:=⟨_,rfl⟩
 have hXs:X.heap.size=w.heap.size + 2:=by rw [← HX];simp
 have hwX:Below w.heap.size w X:=by rw [← HX];exact ((Below.refl _ _).alloc (Nat.le_refl _) _).alloc (by simp) _
 have hX0:X.heap[w.heap.size]? = some (.cells #[.int .i64 k1,.string a1,.slice qi1 i1.length ci1,.slice qw1 w1.length cw1,.int .i64 l1,.int .i64 h1] 27 (0,0)):=by rw [← HX,Below.heap_alloc _ _ _ (by simp)];exact box_nw _ _
 have hX1:X.heap[w.heap.size + 1]? = some (.cells #[.int .i64 k2,.string a2,.slice qi2 i2.length ci2,.slice qw2 w2.length cw2,.int .i64 l2,.int .i64 h2] 27 (0,0)):=by rw [← HX,show w.heap.size + 1=(w.alloc (.cells #[.int .i64 k1,.string a1,.slice qi1 i1.length ci1,.slice qw1 w1.length cw1,.int .i64 l1,.int .i64 h1] 27)).heap.size by simp];exact box_nw _ _
 obtain ⟨x0,x1,x2,x3,x4,x5⟩:=of6' hX0
 obtain ⟨y0,y1,y2,y3,y4,y5⟩:=of6' hX1
 have HX0:=hide hX0
 have HX1:=hide hX1
 have HWX:=hide hwX
 have eq0:(k1 == k2)=false:=by simpa using hne
 clear hwX hX0 hX1
 go_enter Tryd.func27,Tryd.ntmps27
 go_wp2
 go_ret
 exact ⟨rfl,uh HWX⟩
set_option maxRecDepth 100000 in
set_option maxHeartbeats 4000000 in
theorem sameQ_a (k1:Int) (a1:ByteArray) (qi1:Option Addr) (ci1:Nat) (i1:List Int) (qw1:Option Addr) (cw1:Nat) (w1:List ByteArray) (l1 h1:Int) (qi2:Option Addr) (ci2:Nat) (qw2:Option Addr) (cw2:Nat) (a2:ByteArray) (l2:Int) (h2:Int) (i2:List Int) (w2:List ByteArray) (w:World) (hne:a1 ≠ a2) :
  Calls Tryd.prog 27 #[.agg #[.int .i64 k1,.string a1,.slice qi1 i1.length ci1,.slice qw1 w1.length cw1,.int .i64 l1,.int .i64 h1],.agg #[.int .i64 k1,.string a2,.slice qi2 i2.length ci2,.slice qw2 w2.length cw2,.int .i64 l2,.int .i64 h2]] w fun e w'=>e=.returned (.bool false)∧Below w.heap.size w w':=by
 obtain ⟨X,HX⟩:∃ X,(w.alloc (.cells #[.int .i64 k1,.string a1,.slice qi1 i1.length ci1,.slice qw1 w1.length cw1,.int .i64 l1,.int .i64 h1] 27)).alloc (.cells #[.int .i64 k1,.string a2,.slice qi2 i2.length ci2,.slice qw2 w2.length cw2,.int .i64 l2,.int .i64 h2] 27)=X:=⟨_,rfl⟩
 have hXs:X.heap.size=w.heap.size + 2:=by rw [← HX];simp
 have hwX:Below w.heap.size w X:=by rw [← HX];exact ((Below.refl _ _).alloc (Nat.le_refl _) _).alloc (by simp) _
 have hX0:X.heap[w.heap.size]? = some (.cells #[.int .i64 k1,.string a1,.slice qi1 i1.length ci1,.slice qw1 w1.length cw1,.int .i64 l1,.int .i64 h1] 27 (0,0)):=by rw [← HX,Below.heap_alloc _ _ _ (by simp)];exact box_nw _ _
 have hX1:X.heap[w.heap.size + 1]? = some (.cells #[.int .i64 k1,.string a2,.slice qi2 i2.length ci2,.slice qw2 w2.length cw2,.int .i64 l2,.int .i64 h2] 27 (0,0)):=by rw [← HX,show w.heap.size + 1=(w.alloc (.cells #[.int .i64 k1,.string a1,.slice qi1 i1.length ci1,.slice qw1 w1.length cw1,.int .i64 l1,.int .i64 h1] 27)).heap.size by simp];exact box_nw _ _
 obtain ⟨x0,x1,x2,x3,x4,x5⟩:=of6' hX0
 obtain ⟨y0,y1,y2,y3,y4,y5⟩:=of6' hX1
 have HX0:=hide hX0
 have HX1:=hide hX1
 have HWX:=hide hwX
 have eq0:(a1.toList == a2.toList)=false:=toList_ne hne
 clear hwX hX0 hX1
 go_enter Tryd.func27,Tryd.ntmps27
 go_wp2
 go_ret
 exact ⟨rfl,uh HWX⟩
set_option maxRecDepth 100000 in
set_option maxHeartbeats 4000000 in
theorem sameQ_l (k1:Int) (a1:ByteArray) (qi1:Option Addr) (ci1:Nat) (i1:List Int) (qw1:Option Addr) (cw1:Nat) (w1:List ByteArray) (l1 h1:Int) (qi2:Option Addr) (ci2:Nat) (qw2:Option Addr) (cw2:Nat) (l2:Int) (h2:Int) (i2:List Int) (w2:List ByteArray) (w:World) (hne:l1 ≠ l2) :
  Calls Tryd.prog 27 #[.agg #[.int .i64 k1,.string a1,.slice qi1 i1.length ci1,.slice qw1 w1.length cw1,.int .i64 l1,.int .i64 h1],.agg #[.int .i64 k1,.string a1,.slice qi2 i2.length ci2,.slice qw2 w2.length cw2,.int .i64 l2,.int .i64 h2]] w fun e w'=>e=.returned (.bool false)∧Below w.heap.size w w':=by
 obtain ⟨X,HX⟩:∃ X,(w.alloc (.cells #[.int .i64 k1,.string a1,.slice qi1 i1.length ci1,.slice qw1 w1.length cw1,.int .i64 l1,.int .i64 h1] 27)).alloc (.cells #[.int .i64 k1,.string a1,.slice qi2 i2.length ci2,.slice qw2 w2.length cw2,.int .i64 l2,.int .i64 h2] 27)=X:=⟨_,rfl⟩
 have hXs:X.heap.size=w.heap.size + 2:=by rw [← HX];simp
 have hwX:Below w.heap.size w X:=by rw [← HX];exact ((Below.refl _ _).alloc (Nat.le_refl _) _).alloc (by simp) _
 have hX0:X.heap[w.heap.size]? = some (.cells #[.int .i64 k1,.string a1,.slice qi1 i1.length ci1,.slice qw1 w1.length cw1,.int .i64 l1,.int .i64 h1] 27 (0,0)):=by rw [← HX,Below.heap_alloc _ _ _ (by simp)];exact box_nw _ _
 have hX1:X.heap[w.heap.size + 1]? = some (.cells #[.int .i64 k1,.string a1,.slice qi2 i2.length ci2,.slice qw2 w2.length cw2,.int .i64 l2,.int .i64 h2] 27 (0,0)):=by rw [← HX,show w.heap.size + 1=(w.alloc (.cells #[.int .i64 k1,.string a1,.slice qi1 i1.length ci1,.slice qw1 w1.length cw1,.int .i64 l1,.int .i64 h1] 27)).heap.size by simp];exact box_nw _ _
 obtain ⟨x0,x1,x2,x3,x4,x5⟩:=of6' hX0
 obtain ⟨y0,y1,y2,y3,y4,y5⟩:=of6' hX1
 have HX0:=hide hX0
 have HX1:=hide hX1
 have HWX:=hide hwX
 have eq0:(l1 == l2)=false:=by simpa using hne
 clear hwX hX0 hX1
 go_enter Tryd.func27,Tryd.ntmps27
 go_wp2
 go_ret
 exact ⟨rfl,uh HWX⟩
set_option maxRecDepth 100000 in
set_option maxHeartbeats 4000000 in
theorem sameQ_h (k1:Int) (a1:ByteArray) (qi1:Option Addr) (ci1:Nat) (i1:List Int) (qw1:Option Addr) (cw1:Nat) (w1:List ByteArray) (l1 h1:Int) (qi2:Option Addr) (ci2:Nat) (qw2:Option Addr) (cw2:Nat) (h2:Int) (i2:List Int) (w2:List ByteArray) (w:World) (hne:h1 ≠ h2) :
  Calls Tryd.prog 27 #[.agg #[.int .i64 k1,.string a1,.slice qi1 i1.length ci1,.slice qw1 w1.length cw1,.int .i64 l1,.int .i64 h1],.agg #[.int .i64 k1,.string a1,.slice qi2 i2.length ci2,.slice qw2 w2.length cw2,.int .i64 l1,.int .i64 h2]] w fun e w'=>e=.returned (.bool false)∧Below w.heap.size w w':=by
 obtain ⟨X,HX⟩:∃ X,(w.alloc (.cells #[.int .i64 k1,.string a1,.slice qi1 i1.length ci1,.slice qw1 w1.length cw1,.int .i64 l1,.int .i64 h1] 27)).alloc (.cells #[.int .i64 k1,.string a1,.slice qi2 i2.length ci2,.slice qw2 w2.length cw2,.int .i64 l1,.int .i64 h2] 27)=X:=⟨_,rfl⟩
 have hXs:X.heap.size=w.heap.size + 2:=by rw [← HX];simp
 have hwX:Below w.heap.size w X:=by rw [← HX];exact ((Below.refl _ _).alloc (Nat.le_refl _) _).alloc (by simp) _
 have hX0:X.heap[w.heap.size]? = some (.cells #[.int .i64 k1,.string a1,.slice qi1 i1.length ci1,.slice qw1 w1.length cw1,.int .i64 l1,.int .i64 h1] 27 (0,0)):=by rw [← HX,Below.heap_alloc _ _ _ (by simp)];exact box_nw _ _
 have hX1:X.heap[w.heap.size + 1]? = some (.cells #[.int .i64 k1,.string a1,.slice qi2 i2.length ci2,.slice qw2 w2.length cw2,.int .i64 l1,.int .i64 h2] 27 (0,0)):=by rw [← HX,show w.heap.size + 1=(w.alloc (.cells #[.int .i64 k1,.string a1,.slice qi1 i1.length ci1,.slice qw1 w1.length cw1,.int .i64 l1,.int .i64 h1] 27)).heap.size by simp];exact box_nw _ _
 obtain ⟨x0,x1,x2,x3,x4,x5⟩:=of6' hX0
 obtain ⟨y0,y1,y2,y3,y4,y5⟩:=of6' hX1
 have HX0:=hide hX0
 have HX1:=hide hX1
 have HWX:=hide hwX
 have eq0:(h1 == h2)=false:=by simpa using hne
 clear hwX hX0 hX1
 go_enter Tryd.func27,Tryd.ntmps27
 go_wp2
 go_ret
 exact ⟨rfl,uh HWX⟩
set_option maxRecDepth 100000 in
set_option maxHeartbeats 4000000 in
theorem sameQ_i (k1:Int) (a1:ByteArray) (qi1:Option Addr) (ci1:Nat) (i1:List Int) (qw1:Option Addr) (cw1:Nat) (w1:List ByteArray) (l1 h1:Int) (qi2:Option Addr) (ci2:Nat) (qw2:Option Addr) (cw2:Nat) (i2:List Int) (w2:List ByteArray) (w:World) (s1:SlOf encI 1 w qi1 ci1 i1) (s2:SlOf encI 1 w qi2 ci2 i2) (m1:i1.length≤100000000000000) (hne:i1 ≠ i2) :
  Calls Tryd.prog 27 #[.agg #[.int .i64 k1,.string a1,.slice qi1 i1.length ci1,.slice qw1 w1.length cw1,.int .i64 l1,.int .i64 h1],.agg #[.int .i64 k1,.string a1,.slice qi2 i2.length ci2,.slice qw2 w2.length cw2,.int .i64 l1,.int .i64 h1]] w fun e w'=>e=.returned (.bool false)∧Below w.heap.size w w':=by
 obtain ⟨X,HX⟩:∃ X,(w.alloc (.cells #[.int .i64 k1,.string a1,.slice qi1 i1.length ci1,.slice qw1 w1.length cw1,.int .i64 l1,.int .i64 h1] 27)).alloc (.cells #[.int .i64 k1,.string a1,.slice qi2 i2.length ci2,.slice qw2 w2.length cw2,.int .i64 l1,.int .i64 h1] 27)=X:=⟨_,rfl⟩
 have hXs:X.heap.size=w.heap.size + 2:=by rw [← HX];simp
 have hwX:Below w.heap.size w X:=by rw [← HX];exact ((Below.refl _ _).alloc (Nat.le_refl _) _).alloc (by simp) _
 have hX0:X.heap[w.heap.size]? = some (.cells #[.int .i64 k1,.string a1,.slice qi1 i1.length ci1,.slice qw1 w1.length cw1,.int .i64 l1,.int .i64 h1] 27 (0,0)):=by rw [← HX,Below.heap_alloc _ _ _ (by simp)];exact box_nw _ _
 have hX1:X.heap[w.heap.size + 1]? = some (.cells #[.int .i64 k1,.string a1,.slice qi2 i2.length ci2,.slice qw2 w2.length cw2,.int .i64 l1,.int .i64 h1] 27 (0,0)):=by rw [← HX,show w.heap.size + 1=(w.alloc (.cells #[.int .i64 k1,.string a1,.slice qi1 i1.length ci1,.slice qw1 w1.length cw1,.int .i64 l1,.int .i64 h1] 27)).heap.size by simp];exact box_nw _ _
 obtain ⟨x0,x1,x2,x3,x4,x5⟩:=of6' hX0
 obtain ⟨y0,y1,y2,y3,y4,y5⟩:=of6' hX1
 have HX0:=hide hX0
 have HX1:=hide hX1
 have HWX:=hide hwX
 have c1:=memEqI qi1 ci1 i1 qi2 ci2 i2 X (s1.below hwX) (s2.below hwX) m1
 rw [decide_eq_false hne] at c1
 clear s1 s2
 clear hwX hX0 hX1
 go_enter Tryd.func27,Tryd.ntmps27
 go_wp2_with (first
  | (go_at_call 50;refine c1.mono ?_;rintro e u1 ⟨rfl,b1⟩;obtain ⟨d0,d1,d2,d3,d4,d5⟩:=of6' ((b1.block _ (by omega)).trans (uh HX0));obtain ⟨e0,e1,e2,e3,e4,e5⟩:=of6' ((b1.block _ (by omega)).trans (uh HX1));have B1:=hide b1;clear b1))
 go_ret
 exact ⟨rfl,below_sub (uh HWX) (uh B1)⟩
set_option maxRecDepth 100000 in
set_option maxHeartbeats 4000000 in
theorem sameQ_w (k1:Int) (a1:ByteArray) (qi1:Option Addr) (ci1:Nat) (i1:List Int) (qw1:Option Addr) (cw1:Nat) (w1:List ByteArray) (l1 h1:Int) (qi2:Option Addr) (ci2:Nat) (qw2:Option Addr) (cw2:Nat) (w2:List ByteArray) (w:World) (s1:SlOf encI 1 w qi1 ci1 i1) (s2:SlOf encI 1 w qi2 ci2 i1) (m1:i1.length≤100000000000000) (t1:SlOf encS 1 w qw1 cw1 w1) (t2:SlOf encS 1 w qw2 cw2 w2) (m2:w1.length≤100000000000000) (hne:w1 ≠ w2) :
  Calls Tryd.prog 27 #[.agg #[.int .i64 k1,.string a1,.slice qi1 i1.length ci1,.slice qw1 w1.length cw1,.int .i64 l1,.int .i64 h1],.agg #[.int .i64 k1,.string a1,.slice qi2 i1.length ci2,.slice qw2 w2.length cw2,.int .i64 l1,.int .i64 h1]] w fun e w'=>e=.returned (.bool false)∧Below w.heap.size w w':=by
 obtain ⟨X,HX⟩:∃ X,(w.alloc (.cells #[.int .i64 k1,.string a1,.slice qi1 i1.length ci1,.slice qw1 w1.length cw1,.int .i64 l1,.int .i64 h1] 27)).alloc (.cells #[.int .i64 k1,.string a1,.slice qi2 i1.length ci2,.slice qw2 w2.length cw2,.int .i64 l1,.int .i64 h1] 27)=X:=⟨_,rfl⟩
 have hXs:X.heap.size=w.heap.size + 2:=by rw [← HX];simp
 have hwX:Below w.heap.size w X:=by rw [← HX];exact ((Below.refl _ _).alloc (Nat.le_refl _) _).alloc (by simp) _
 have hX0:X.heap[w.heap.size]? = some (.cells #[.int .i64 k1,.string a1,.slice qi1 i1.length ci1,.slice qw1 w1.length cw1,.int .i64 l1,.int .i64 h1] 27 (0,0)):=by rw [← HX,Below.heap_alloc _ _ _ (by simp)];exact box_nw _ _
 have hX1:X.heap[w.heap.size + 1]? = some (.cells #[.int .i64 k1,.string a1,.slice qi2 i1.length ci2,.slice qw2 w2.length cw2,.int .i64 l1,.int .i64 h1] 27 (0,0)):=by rw [← HX,show w.heap.size + 1=(w.alloc (.cells #[.int .i64 k1,.string a1,.slice qi1 i1.length ci1,.slice qw1 w1.length cw1,.int .i64 l1,.int .i64 h1] 27)).heap.size by simp];exact box_nw _ _
 obtain ⟨x0,x1,x2,x3,x4,x5⟩:=of6' hX0
 obtain ⟨y0,y1,y2,y3,y4,y5⟩:=of6' hX1
 have HX0:=hide hX0
 have HX1:=hide hX1
 have HWX:=hide hwX
 have c1:=memEqI qi1 ci1 i1 qi2 ci2 i1 X (s1.below hwX) (s2.below hwX) m1
 rw [decide_eq_true rfl] at c1
 clear s1 s2
 have c2:=fun w' (hb:Below w.heap.size w w')=>memEqS qw1 cw1 w1 qw2 cw2 w2 w' (t1.below hb) (t2.below hb) m2
 rw [decide_eq_false hne] at c2
 clear t1 t2
 clear hwX hX0 hX1
 go_enter Tryd.func27,Tryd.ntmps27
 go_wp2_with (first
  | (go_at_call 50;refine c1.mono ?_;rintro e u1 ⟨rfl,b1⟩;obtain ⟨d0,d1,d2,d3,d4,d5⟩:=of6' ((b1.block _ (by omega)).trans (uh HX0));obtain ⟨e0,e1,e2,e3,e4,e5⟩:=of6' ((b1.block _ (by omega)).trans (uh HX1));have B1:=hide b1;clear b1)
  | (go_at_call 51;refine (c2 _ (by exact below_sub (uh HWX) (uh B1))).mono ?_;rintro e u2 ⟨rfl,b2⟩;have B2:=hide (below_sub (uh B1) b2);clear b2))
 go_ret
 exact ⟨rfl,below_sub (uh HWX) (uh B2)⟩
def sameQ (k1:Int) (a1:ByteArray) (i1:List Int) (w1:List ByteArray) (l1 h1:Int) (k2:Int) (a2:ByteArray) (i2:List Int) (w2:List ByteArray) (l2 h2:Int):Bool:=decide (k1=k2∧a1=a2∧l1=l2∧h1=h2∧i1=i2∧w1=w2)
theorem samePred_any (k1:Int) (a1:ByteArray) (qi1:Option Addr) (ci1:Nat) (i1:List Int) (qw1:Option Addr) (cw1:Nat) (w1:List ByteArray) (l1 h1:Int) (k2:Int) (a2:ByteArray) (qi2:Option Addr) (ci2:Nat) (i2:List Int) (qw2:Option Addr) (cw2:Nat) (w2:List ByteArray) (l2 h2:Int) (w:World) (s1:SlOf encI 1 w qi1 ci1 i1) (s2:SlOf encI 1 w qi2 ci2 i2) (t1:SlOf encS 1 w qw1 cw1 w1) (t2:SlOf encS 1 w qw2 cw2 w2) (m1:i1.length≤100000000000000) (m2:w1.length≤100000000000000) :
  Calls Tryd.prog 27 #[.agg #[.int .i64 k1,.string a1,.slice qi1 i1.length ci1,.slice qw1 w1.length cw1,.int .i64 l1,.int .i64 h1],.agg #[.int .i64 k2,.string a2,.slice qi2 i2.length ci2,.slice qw2 w2.length cw2,.int .i64 l2,.int .i64 h2]] w fun e w'=>e=.returned (.bool (sameQ k1 a1 i1 w1 l1 h1 k2 a2 i2 w2 l2 h2))∧Below w.heap.size w w':=by
 by_cases hk:k1=k2
 case neg=>rw [show sameQ k1 a1 i1 w1 l1 h1 k2 a2 i2 w2 l2 h2=false from decide_eq_false (fun h=>hk h.1)];exact sameQ_k k1 a1 qi1 ci1 i1 qw1 cw1 w1 l1 h1 qi2 ci2 qw2 cw2 k2 a2 l2 h2 i2 w2 w hk
 subst hk
 by_cases ha:a1=a2
 case neg=>rw [show sameQ k1 a1 i1 w1 l1 h1 k1 a2 i2 w2 l2 h2=false from decide_eq_false (fun h=>ha h.2.1)];exact sameQ_a k1 a1 qi1 ci1 i1 qw1 cw1 w1 l1 h1 qi2 ci2 qw2 cw2 a2 l2 h2 i2 w2 w ha
 subst ha
 by_cases hl:l1=l2
 case neg=>rw [show sameQ k1 a1 i1 w1 l1 h1 k1 a1 i2 w2 l2 h2=false from decide_eq_false (fun h=>hl h.2.2.1)];exact sameQ_l k1 a1 qi1 ci1 i1 qw1 cw1 w1 l1 h1 qi2 ci2 qw2 cw2 l2 h2 i2 w2 w hl
 subst hl
 by_cases hh:h1=h2
 case neg=>rw [show sameQ k1 a1 i1 w1 l1 h1 k1 a1 i2 w2 l1 h2=false from decide_eq_false (fun h=>hh h.2.2.2.1)];exact sameQ_h k1 a1 qi1 ci1 i1 qw1 cw1 w1 l1 h1 qi2 ci2 qw2 cw2 h2 i2 w2 w hh
 subst hh
 by_cases hi:i1=i2
 case neg=>rw [show sameQ k1 a1 i1 w1 l1 h1 k1 a1 i2 w2 l1 h1=false from decide_eq_false (fun h=>hi h.2.2.2.2.1)];exact sameQ_i k1 a1 qi1 ci1 i1 qw1 cw1 w1 l1 h1 qi2 ci2 qw2 cw2 i2 w2 w s1 s2 m1 hi
 subst hi
 by_cases hw:w1=w2
 case neg=>rw [show sameQ k1 a1 i1 w1 l1 h1 k1 a1 i1 w2 l1 h1=false from decide_eq_false (fun h=>hw h.2.2.2.2.2)];exact sameQ_w k1 a1 qi1 ci1 i1 qw1 cw1 w1 l1 h1 qi2 ci2 qw2 cw2 w2 w s1 s2 m1 t1 t2 m2 hw
 subst hw
 rw [show sameQ k1 a1 i1 w1 l1 h1 k1 a1 i1 w1 l1 h1=true from decide_eq_true ⟨rfl,rfl,rfl,rfl,rfl,rfl⟩]
 exact samePred_eq k1 a1 i1 w1 l1 h1 qi1 ci1 qw1 cw1 qi2 ci2 qw2 cw2 w s1 s2 t1 t2 m1 m2
end Go.Proofs.YtikhopiegaoacaaDoor
