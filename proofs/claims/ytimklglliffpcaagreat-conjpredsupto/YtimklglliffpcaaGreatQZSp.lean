/- What the helpers that compare predicates and trees return, of any two. -/
import Derived.Test.YtimklglliffpcaaGreatQKept
import Derived.Test.YtimklglliffpcaaGreatQZab
import Derived.Test.YtimklglliffpcaaGreatQCjFix
namespace Go.Proofs.YtimklglliffpcaaGreat
open Go.RowKit Go.Sort
set_option maxRecDepth 100000 in
set_option maxHeartbeats 4000000 in
theorem Yb (k1:Int) (a1:ByteArray) (qi1:Option Addr) (ci1:Nat) (i1:List Int) (qw1:Option Addr) (cw1:Nat) (w1:List ByteArray) (l1 h1:Int) (qi2:Option Addr) (ci2:Nat) (qw2:Option Addr) (cw2:Nat) (k2:Int) (a2:ByteArray) (l2:Int) (h2:Int) (i2:List Int) (w2:List ByteArray) (w:World) (hne:k1 ≠ k2) :
  Calls Tryz.prog 18 #[.agg #[.int .i64 k1,.string a1,.slice qi1 i1.length ci1,.slice qw1 w1.length cw1,.int .i64 l1,.int .i64 h1],.agg #[.int .i64 k2,.string a2,.slice qi2 i2.length ci2,.slice qw2 w2.length cw2,.int .i64 l2,.int .i64 h2]] w fun e w'=>e=.returned (.bool false)/\Below w.heap.size w w':=by
 obtain ⟨X,HX⟩:∃ X,(w.alloc (.cells #[.int .i64 k1,.string a1,.slice qi1 i1.length ci1,.slice qw1 w1.length cw1,.int .i64 l1,.int .i64 h1] 26)).alloc (.cells #[.int .i64 k2,.string a2,.slice qi2 i2.length ci2,.slice qw2 w2.length cw2,.int .i64 l2,.int .i64 h2] 26)=X:=⟨_,rfl⟩
 have hXs:X.heap.size=w.heap.size + 2:=by rw [<- HX];simp
 have hwX:Below w.heap.size w X:=by rw [<- HX];exact ((Below.refl _ _).alloc (Nat.le_refl _) _).alloc (by simp) _
 have hX0:X.heap[w.heap.size]? = some (.cells #[.int .i64 k1,.string a1,.slice qi1 i1.length ci1,.slice qw1 w1.length cw1,.int .i64 l1,.int .i64 h1] 26 (0,0)):=by rw [<- HX,Below.heap_alloc _ _ _ (by simp)];exact jf _ _
 have hX1:X.heap[w.heap.size + 1]? = some (.cells #[.int .i64 k2,.string a2,.slice qi2 i2.length ci2,.slice qw2 w2.length cw2,.int .i64 l2,.int .i64 h2] 26 (0,0)):=by rw [<- HX,show w.heap.size + 1=(w.alloc (.cells #[.int .i64 k1,.string a1,.slice qi1 i1.length ci1,.slice qw1 w1.length cw1,.int .i64 l1,.int .i64 h1] 26)).heap.size by simp];exact jf _ _
 obtain ⟨x0,x1,x2,x3,x4,x5⟩:=kx hX0
 obtain ⟨y0,y1,y2,y3,y4,y5⟩:=kx hX1
 have HX0:=d9 hX0
 have HX1:=d9 hX1
 have HWX:=d9 hwX
 have eq0:(k1 == k2)=false:=by simpa using hne
 clear hwX hX0 hX1
 go_enter Tryz.func18,Tryz.ntmps18
 go_wp2
 go_ret
 exact ⟨rfl,uh HWX⟩
set_option maxRecDepth 100000 in
set_option maxHeartbeats 4000000 in
theorem Yx (k1:Int) (a1:ByteArray) (qi1:Option Addr) (ci1:Nat) (i1:List Int) (qw1:Option Addr) (cw1:Nat) (w1:List ByteArray) (l1 h1:Int) (qi2:Option Addr) (ci2:Nat) (qw2:Option Addr) (cw2:Nat) (a2:ByteArray) (l2:Int) (h2:Int) (i2:List Int) (w2:List ByteArray) (w:World) (hne:a1 ≠ a2) :
  Calls Tryz.prog 18 #[.agg #[.int .i64 k1,.string a1,.slice qi1 i1.length ci1,.slice qw1 w1.length cw1,.int .i64 l1,.int .i64 h1],.agg #[.int .i64 k1,.string a2,.slice qi2 i2.length ci2,.slice qw2 w2.length cw2,.int .i64 l2,.int .i64 h2]] w fun e w'=>e=.returned (.bool false)/\Below w.heap.size w w':=by
 obtain ⟨X,HX⟩:∃ X,(w.alloc (.cells #[.int .i64 k1,.string a1,.slice qi1 i1.length ci1,.slice qw1 w1.length cw1,.int .i64 l1,.int .i64 h1] 26)).alloc (.cells #[.int .i64 k1,.string a2,.slice qi2 i2.length ci2,.slice qw2 w2.length cw2,.int .i64 l2,.int .i64 h2] 26)=X:=⟨_,rfl⟩
 have hXs:X.heap.size=w.heap.size + 2:=by rw [<- HX];simp
 have hwX:Below w.heap.size w X:=by rw [<- HX];exact ((Below.refl _ _).alloc (Nat.le_refl _) _).alloc (by simp) _
 have hX0:X.heap[w.heap.size]? = some (.cells #[.int .i64 k1,.string a1,.slice qi1 i1.length ci1,.slice qw1 w1.length cw1,.int .i64 l1,.int .i64 h1] 26 (0,0)):=by rw [<- HX,Below.heap_alloc _ _ _ (by simp)];exact jf _ _
 have hX1:X.heap[w.heap.size + 1]? = some (.cells #[.int .i64 k1,.string a2,.slice qi2 i2.length ci2,.slice qw2 w2.length cw2,.int .i64 l2,.int .i64 h2] 26 (0,0)):=by rw [<- HX,show w.heap.size + 1=(w.alloc (.cells #[.int .i64 k1,.string a1,.slice qi1 i1.length ci1,.slice qw1 w1.length cw1,.int .i64 l1,.int .i64 h1] 26)).heap.size by simp];exact jf _ _
 obtain ⟨x0,x1,x2,x3,x4,x5⟩:=kx hX0
 obtain ⟨y0,y1,y2,y3,y4,y5⟩:=kx hX1
 have HX0:=d9 hX0
 have HX1:=d9 hX1
 have HWX:=d9 hwX
 have eq0:(a1.toList == a2.toList)=false:=mg hne
 clear hwX hX0 hX1
 go_enter Tryz.func18,Tryz.ntmps18
 go_wp2
 go_ret
 exact ⟨rfl,uh HWX⟩
set_option maxRecDepth 100000 in
set_option maxHeartbeats 4000000 in
theorem Yk (k1:Int) (a1:ByteArray) (qi1:Option Addr) (ci1:Nat) (i1:List Int) (qw1:Option Addr) (cw1:Nat) (w1:List ByteArray) (l1 h1:Int) (qi2:Option Addr) (ci2:Nat) (qw2:Option Addr) (cw2:Nat) (l2:Int) (h2:Int) (i2:List Int) (w2:List ByteArray) (w:World) (hne:l1 ≠ l2) :
  Calls Tryz.prog 18 #[.agg #[.int .i64 k1,.string a1,.slice qi1 i1.length ci1,.slice qw1 w1.length cw1,.int .i64 l1,.int .i64 h1],.agg #[.int .i64 k1,.string a1,.slice qi2 i2.length ci2,.slice qw2 w2.length cw2,.int .i64 l2,.int .i64 h2]] w fun e w'=>e=.returned (.bool false)/\Below w.heap.size w w':=by
 obtain ⟨X,HX⟩:∃ X,(w.alloc (.cells #[.int .i64 k1,.string a1,.slice qi1 i1.length ci1,.slice qw1 w1.length cw1,.int .i64 l1,.int .i64 h1] 26)).alloc (.cells #[.int .i64 k1,.string a1,.slice qi2 i2.length ci2,.slice qw2 w2.length cw2,.int .i64 l2,.int .i64 h2] 26)=X:=⟨_,rfl⟩
 have hXs:X.heap.size=w.heap.size + 2:=by rw [<- HX];simp
 have hwX:Below w.heap.size w X:=by rw [<- HX];exact ((Below.refl _ _).alloc (Nat.le_refl _) _).alloc (by simp) _
 have hX0:X.heap[w.heap.size]? = some (.cells #[.int .i64 k1,.string a1,.slice qi1 i1.length ci1,.slice qw1 w1.length cw1,.int .i64 l1,.int .i64 h1] 26 (0,0)):=by rw [<- HX,Below.heap_alloc _ _ _ (by simp)];exact jf _ _
 have hX1:X.heap[w.heap.size + 1]? = some (.cells #[.int .i64 k1,.string a1,.slice qi2 i2.length ci2,.slice qw2 w2.length cw2,.int .i64 l2,.int .i64 h2] 26 (0,0)):=by rw [<- HX,show w.heap.size + 1=(w.alloc (.cells #[.int .i64 k1,.string a1,.slice qi1 i1.length ci1,.slice qw1 w1.length cw1,.int .i64 l1,.int .i64 h1] 26)).heap.size by simp];exact jf _ _
 obtain ⟨x0,x1,x2,x3,x4,x5⟩:=kx hX0
 obtain ⟨y0,y1,y2,y3,y4,y5⟩:=kx hX1
 have HX0:=d9 hX0
 have HX1:=d9 hX1
 have HWX:=d9 hwX
 have eq0:(l1 == l2)=false:=by simpa using hne
 clear hwX hX0 hX1
 go_enter Tryz.func18,Tryz.ntmps18
 go_wp2
 go_ret
 exact ⟨rfl,uh HWX⟩
set_option maxRecDepth 100000 in
set_option maxHeartbeats 4000000 in
theorem Xy (k1:Int) (a1:ByteArray) (qi1:Option Addr) (ci1:Nat) (i1:List Int) (qw1:Option Addr) (cw1:Nat) (w1:List ByteArray) (l1 h1:Int) (qi2:Option Addr) (ci2:Nat) (qw2:Option Addr) (cw2:Nat) (h2:Int) (i2:List Int) (w2:List ByteArray) (w:World) (hne:h1 ≠ h2) :
  Calls Tryz.prog 18 #[.agg #[.int .i64 k1,.string a1,.slice qi1 i1.length ci1,.slice qw1 w1.length cw1,.int .i64 l1,.int .i64 h1],.agg #[.int .i64 k1,.string a1,.slice qi2 i2.length ci2,.slice qw2 w2.length cw2,.int .i64 l1,.int .i64 h2]] w fun e w'=>e=.returned (.bool false)/\Below w.heap.size w w':=by
 obtain ⟨X,HX⟩:∃ X,(w.alloc (.cells #[.int .i64 k1,.string a1,.slice qi1 i1.length ci1,.slice qw1 w1.length cw1,.int .i64 l1,.int .i64 h1] 26)).alloc (.cells #[.int .i64 k1,.string a1,.slice qi2 i2.length ci2,.slice qw2 w2.length cw2,.int .i64 l1,.int .i64 h2] 26)=X:=⟨_,rfl⟩
 have hXs:X.heap.size=w.heap.size + 2:=by rw [<- HX];simp
 have hwX:Below w.heap.size w X:=by rw [<- HX];exact ((Below.refl _ _).alloc (Nat.le_refl _) _).alloc (by simp) _
 have hX0:X.heap[w.heap.size]? = some (.cells #[.int .i64 k1,.string a1,.slice qi1 i1.length ci1,.slice qw1 w1.length cw1,.int .i64 l1,.int .i64 h1] 26 (0,0)):=by rw [<- HX,Below.heap_alloc _ _ _ (by simp)];exact jf _ _
 have hX1:X.heap[w.heap.size + 1]? = some (.cells #[.int .i64 k1,.string a1,.slice qi2 i2.length ci2,.slice qw2 w2.length cw2,.int .i64 l1,.int .i64 h2] 26 (0,0)):=by rw [<- HX,show w.heap.size + 1=(w.alloc (.cells #[.int .i64 k1,.string a1,.slice qi1 i1.length ci1,.slice qw1 w1.length cw1,.int .i64 l1,.int .i64 h1] 26)).heap.size by simp];exact jf _ _
 obtain ⟨x0,x1,x2,x3,x4,x5⟩:=kx hX0
 obtain ⟨y0,y1,y2,y3,y4,y5⟩:=kx hX1
 have HX0:=d9 hX0
 have HX1:=d9 hX1
 have HWX:=d9 hwX
 have eq0:(h1 == h2)=false:=by simpa using hne
 clear hwX hX0 hX1
 go_enter Tryz.func18,Tryz.ntmps18
 go_wp2
 go_ret
 exact ⟨rfl,uh HWX⟩
set_option maxRecDepth 100000 in
set_option maxHeartbeats 4000000 in
theorem Zz (k1:Int) (a1:ByteArray) (qi1:Option Addr) (ci1:Nat) (i1:List Int) (qw1:Option Addr) (cw1:Nat) (w1:List ByteArray) (l1 h1:Int) (qi2:Option Addr) (ci2:Nat) (qw2:Option Addr) (cw2:Nat) (i2:List Int) (w2:List ByteArray) (w:World) (s1:SlOf jq 1 w qi1 ci1 i1) (s2:SlOf jq 1 w qi2 ci2 i2) (m1:i1.length<=100000000000000) (hne:i1 ≠ i2) :
  Calls Tryz.prog 18 #[.agg #[.int .i64 k1,.string a1,.slice qi1 i1.length ci1,.slice qw1 w1.length cw1,.int .i64 l1,.int .i64 h1],.agg #[.int .i64 k1,.string a1,.slice qi2 i2.length ci2,.slice qw2 w2.length cw2,.int .i64 l1,.int .i64 h1]] w fun e w'=>e=.returned (.bool false)/\Below w.heap.size w w':=by
 obtain ⟨X,HX⟩:∃ X,(w.alloc (.cells #[.int .i64 k1,.string a1,.slice qi1 i1.length ci1,.slice qw1 w1.length cw1,.int .i64 l1,.int .i64 h1] 26)).alloc (.cells #[.int .i64 k1,.string a1,.slice qi2 i2.length ci2,.slice qw2 w2.length cw2,.int .i64 l1,.int .i64 h1] 26)=X:=⟨_,rfl⟩
 have hXs:X.heap.size=w.heap.size + 2:=by rw [<- HX];simp
 have hwX:Below w.heap.size w X:=by rw [<- HX];exact ((Below.refl _ _).alloc (Nat.le_refl _) _).alloc (by simp) _
 have hX0:X.heap[w.heap.size]? = some (.cells #[.int .i64 k1,.string a1,.slice qi1 i1.length ci1,.slice qw1 w1.length cw1,.int .i64 l1,.int .i64 h1] 26 (0,0)):=by rw [<- HX,Below.heap_alloc _ _ _ (by simp)];exact jf _ _
 have hX1:X.heap[w.heap.size + 1]? = some (.cells #[.int .i64 k1,.string a1,.slice qi2 i2.length ci2,.slice qw2 w2.length cw2,.int .i64 l1,.int .i64 h1] 26 (0,0)):=by rw [<- HX,show w.heap.size + 1=(w.alloc (.cells #[.int .i64 k1,.string a1,.slice qi1 i1.length ci1,.slice qw1 w1.length cw1,.int .i64 l1,.int .i64 h1] 26)).heap.size by simp];exact jf _ _
 obtain ⟨x0,x1,x2,x3,x4,x5⟩:=kx hX0
 obtain ⟨y0,y1,y2,y3,y4,y5⟩:=kx hX1
 have HX0:=d9 hX0
 have HX1:=d9 hX1
 have HWX:=d9 hwX
 have c1:=Gw qi1 ci1 i1 qi2 ci2 i2 X (s1.below hwX) (s2.below hwX) m1
 rw [decide_eq_false hne] at c1
 clear s1 s2
 clear hwX hX0 hX1
 go_enter Tryz.func18,Tryz.ntmps18
 go_wp2_with (first
  | (go_at_call 63;refine c1.mono ?_;rintro e u1 ⟨rfl,b1⟩;obtain ⟨d0,d1,d2,d3,d4,d5⟩:=kx ((b1.block _ (by omega)).trans (uh HX0));obtain ⟨e0,e1,e2,e3,e4,e5⟩:=kx ((b1.block _ (by omega)).trans (uh HX1));have B1:=d9 b1;clear b1))
 go_ret
 exact ⟨rfl,d8 (uh HWX) (uh B1)⟩
set_option maxRecDepth 100000 in
set_option maxHeartbeats 4000000 in
theorem Xn (k1:Int) (a1:ByteArray) (qi1:Option Addr) (ci1:Nat) (i1:List Int) (qw1:Option Addr) (cw1:Nat) (w1:List ByteArray) (l1 h1:Int) (qi2:Option Addr) (ci2:Nat) (qw2:Option Addr) (cw2:Nat) (w2:List ByteArray) (w:World) (s1:SlOf jq 1 w qi1 ci1 i1) (s2:SlOf jq 1 w qi2 ci2 i1) (m1:i1.length<=100000000000000) (t1:SlOf jy 1 w qw1 cw1 w1) (t2:SlOf jy 1 w qw2 cw2 w2) (m2:w1.length<=100000000000000) (hne:w1 ≠ w2) :
  Calls Tryz.prog 18 #[.agg #[.int .i64 k1,.string a1,.slice qi1 i1.length ci1,.slice qw1 w1.length cw1,.int .i64 l1,.int .i64 h1],.agg #[.int .i64 k1,.string a1,.slice qi2 i1.length ci2,.slice qw2 w2.length cw2,.int .i64 l1,.int .i64 h1]] w fun e w'=>e=.returned (.bool false)/\Below w.heap.size w w':=by
 obtain ⟨X,HX⟩:∃ X,(w.alloc (.cells #[.int .i64 k1,.string a1,.slice qi1 i1.length ci1,.slice qw1 w1.length cw1,.int .i64 l1,.int .i64 h1] 26)).alloc (.cells #[.int .i64 k1,.string a1,.slice qi2 i1.length ci2,.slice qw2 w2.length cw2,.int .i64 l1,.int .i64 h1] 26)=X:=⟨_,rfl⟩
 have hXs:X.heap.size=w.heap.size + 2:=by rw [<- HX];simp
 have hwX:Below w.heap.size w X:=by rw [<- HX];exact ((Below.refl _ _).alloc (Nat.le_refl _) _).alloc (by simp) _
 have hX0:X.heap[w.heap.size]? = some (.cells #[.int .i64 k1,.string a1,.slice qi1 i1.length ci1,.slice qw1 w1.length cw1,.int .i64 l1,.int .i64 h1] 26 (0,0)):=by rw [<- HX,Below.heap_alloc _ _ _ (by simp)];exact jf _ _
 have hX1:X.heap[w.heap.size + 1]? = some (.cells #[.int .i64 k1,.string a1,.slice qi2 i1.length ci2,.slice qw2 w2.length cw2,.int .i64 l1,.int .i64 h1] 26 (0,0)):=by rw [<- HX,show w.heap.size + 1=(w.alloc (.cells #[.int .i64 k1,.string a1,.slice qi1 i1.length ci1,.slice qw1 w1.length cw1,.int .i64 l1,.int .i64 h1] 26)).heap.size by simp];exact jf _ _
 obtain ⟨x0,x1,x2,x3,x4,x5⟩:=kx hX0
 obtain ⟨y0,y1,y2,y3,y4,y5⟩:=kx hX1
 have HX0:=d9 hX0
 have HX1:=d9 hX1
 have HWX:=d9 hwX
 have c1:=Gw qi1 ci1 i1 qi2 ci2 i1 X (s1.below hwX) (s2.below hwX) m1
 rw [decide_eq_true rfl] at c1
 clear s1 s2
 have c2:=fun w' (hb:Below w.heap.size w w')=>L0 qw1 cw1 w1 qw2 cw2 w2 w' (t1.below hb) (t2.below hb) m2
 rw [decide_eq_false hne] at c2
 clear t1 t2
 clear hwX hX0 hX1
 go_enter Tryz.func18,Tryz.ntmps18
 go_wp2_with (first
  | (go_at_call 63;refine c1.mono ?_;rintro e u1 ⟨rfl,b1⟩;obtain ⟨d0,d1,d2,d3,d4,d5⟩:=kx ((b1.block _ (by omega)).trans (uh HX0));obtain ⟨e0,e1,e2,e3,e4,e5⟩:=kx ((b1.block _ (by omega)).trans (uh HX1));have B1:=d9 b1;clear b1)
  | (go_at_call 64;refine (c2 _ (by exact d8 (uh HWX) (uh B1))).mono ?_;rintro e u2 ⟨rfl,b2⟩;have B2:=d9 (d8 (uh B1) b2);clear b2))
 go_ret
 exact ⟨rfl,d8 (uh HWX) (uh B2)⟩
def A1 (k1:Int) (a1:ByteArray) (i1:List Int) (w1:List ByteArray) (l1 h1:Int) (k2:Int) (a2:ByteArray) (i2:List Int) (w2:List ByteArray) (l2 h2:Int):Bool:=decide (k1=k2/\a1=a2/\l1=l2/\h1=h2/\i1=i2/\w1=w2)
theorem Dy (k1:Int) (a1:ByteArray) (qi1:Option Addr) (ci1:Nat) (i1:List Int) (qw1:Option Addr) (cw1:Nat) (w1:List ByteArray) (l1 h1:Int) (k2:Int) (a2:ByteArray) (qi2:Option Addr) (ci2:Nat) (i2:List Int) (qw2:Option Addr) (cw2:Nat) (w2:List ByteArray) (l2 h2:Int) (w:World) (s1:SlOf jq 1 w qi1 ci1 i1) (s2:SlOf jq 1 w qi2 ci2 i2) (t1:SlOf jy 1 w qw1 cw1 w1) (t2:SlOf jy 1 w qw2 cw2 w2) (m1:i1.length<=100000000000000) (m2:w1.length<=100000000000000) :
  Calls Tryz.prog 18 #[.agg #[.int .i64 k1,.string a1,.slice qi1 i1.length ci1,.slice qw1 w1.length cw1,.int .i64 l1,.int .i64 h1],.agg #[.int .i64 k2,.string a2,.slice qi2 i2.length ci2,.slice qw2 w2.length cw2,.int .i64 l2,.int .i64 h2]] w fun e w'=>e=.returned (.bool (A1 k1 a1 i1 w1 l1 h1 k2 a2 i2 w2 l2 h2))/\Below w.heap.size w w':=by
 by_cases hk:k1=k2
 case neg=>rw [show A1 k1 a1 i1 w1 l1 h1 k2 a2 i2 w2 l2 h2=false from decide_eq_false (fun h=>hk h.1)];exact Yb k1 a1 qi1 ci1 i1 qw1 cw1 w1 l1 h1 qi2 ci2 qw2 cw2 k2 a2 l2 h2 i2 w2 w hk
 subst hk
 by_cases ha:a1=a2
 case neg=>rw [show A1 k1 a1 i1 w1 l1 h1 k1 a2 i2 w2 l2 h2=false from decide_eq_false (fun h=>ha h.2.1)];exact Yx k1 a1 qi1 ci1 i1 qw1 cw1 w1 l1 h1 qi2 ci2 qw2 cw2 a2 l2 h2 i2 w2 w ha
 subst ha
 by_cases hl:l1=l2
 case neg=>rw [show A1 k1 a1 i1 w1 l1 h1 k1 a1 i2 w2 l2 h2=false from decide_eq_false (fun h=>hl h.2.2.1)];exact Yk k1 a1 qi1 ci1 i1 qw1 cw1 w1 l1 h1 qi2 ci2 qw2 cw2 l2 h2 i2 w2 w hl
 subst hl
 by_cases hh:h1=h2
 case neg=>rw [show A1 k1 a1 i1 w1 l1 h1 k1 a1 i2 w2 l1 h2=false from decide_eq_false (fun h=>hh h.2.2.2.1)];exact Xy k1 a1 qi1 ci1 i1 qw1 cw1 w1 l1 h1 qi2 ci2 qw2 cw2 h2 i2 w2 w hh
 subst hh
 by_cases hi:i1=i2
 case neg=>rw [show A1 k1 a1 i1 w1 l1 h1 k1 a1 i2 w2 l1 h1=false from decide_eq_false (fun h=>hi h.2.2.2.2.1)];exact Zz k1 a1 qi1 ci1 i1 qw1 cw1 w1 l1 h1 qi2 ci2 qw2 cw2 i2 w2 w s1 s2 m1 hi
 subst hi
 by_cases hw:w1=w2
 case neg=>rw [show A1 k1 a1 i1 w1 l1 h1 k1 a1 i1 w2 l1 h1=false from decide_eq_false (fun h=>hw h.2.2.2.2.2)];exact Xn k1 a1 qi1 ci1 i1 qw1 cw1 w1 l1 h1 qi2 ci2 qw2 cw2 w2 w s1 s2 m1 t1 t2 m2 hw
 subst hw
 rw [show A1 k1 a1 i1 w1 l1 h1 k1 a1 i1 w1 l1 h1=true from decide_eq_true ⟨rfl,rfl,rfl,rfl,rfl,rfl⟩]
 exact Aj k1 a1 i1 w1 l1 h1 qi1 ci1 qw1 cw1 qi2 ci2 qw2 cw2 w s1 s2 t1 t2 m1 m2
end Go.Proofs.YtimklglliffpcaaGreat
namespace Go.Proofs.YtimklglliffpcaaGreat
open Go.RowKit Go.Sort Go.Shelf
def Pd.big (p:Pd):Prop:=p.ints.length<=100000000000000/\p.words.length<=100000000000000
theorem Qy (p r:Pd):A1 p.kind p.attr p.ints p.words p.lo p.hi r.kind r.attr r.ints r.words r.lo r.hi=decide (p=r):=by
 unfold A1
 obtain ⟨a,b,c,d,e,f⟩:=p
 obtain ⟨a',b',c',d',e',f'⟩:=r
 simp only [Pd.mk.injEq]
 congr 1
 simp only [eq_iff_iff]
 constructor <;> (rintro ⟨h1,h2,h3,h4,h5,h6⟩;refine ⟨?_, ?_, ?_, ?_, ?_, ?_⟩ <;> first | assumption | (subst h2;rfl) | exact Jl (by simpa [ByteArray.toList_eq] using h2))
/-- trommelmem.SamePred. -/
theorem V7 (u v:Pv) (p r:Pd) (w:World) (hu:PdIn w u p) (hv:PdIn w v r) (hs:p.big):Calls Tryz.prog 18 #[.agg #[.int .i64 u.kind,.string u.attr,.slice u.qi u.ni u.ci,.slice u.qw u.nw u.cw,.int .i64 u.lo,.int .i64 u.hi],.agg #[.int .i64 v.kind,.string v.attr,.slice v.qi v.ni v.ci,.slice v.qw v.nw v.cw,.int .i64 v.lo,.int .i64 v.hi]] w fun e w'=>e=.returned (.bool (decide (p=r)))/\Below w.heap.size w w':=by
 obtain ⟨a1,a2,a3,a4,a5,a6,a7,a8⟩:=hu
 obtain ⟨b1,b2,b3,b4,b5,b6,b7,b8⟩:=hv
 rw [a1,a2,a3,a4,a5,a6,b1,b2,b3,b4,b5,b6,<- Qy]
 exact Dy _ _ _ _ _ _ _ _ _ _ _ _ _ _ _ _ _ _ _ _ w a7 b7 a8 b8 hs.1 hs.2
end Go.Proofs.YtimklglliffpcaaGreat
