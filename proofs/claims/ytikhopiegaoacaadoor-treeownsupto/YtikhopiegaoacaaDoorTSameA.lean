/- What Same returns, of any two trees: the cases o, k, a. -/
import Derived.Test.YtikhopiegaoacaaDoorTSame
import Derived.Test.YtikhopiegaoacaaDoorTCloneTree
namespace Go.Proofs.YtikhopiegaoacaaDoor
open Go.RowKit

set_option maxRecDepth 100000 in
set_option maxHeartbeats 8000000 in
theorem same_o (k1:Int) (a1:ByteArray) (qi1:Option Addr) (ci1:Nat) (i1:List Int) (qw1:Option Addr) (cw1:Nat) (w1:List ByteArray) (l1 h1 o1:Int) (qk1:Option Addr) (ck1:Nat) (ks1:List Nd) (qi2:Option Addr) (ci2:Nat) (qw2:Option Addr) (cw2:Nat) (qk2:Option Addr) (ck2:Nat) (o2:Int) (k2:Int) (a2:ByteArray) (l2:Int) (h2:Int) (i2:List Int) (w2:List ByteArray) (ks2:List Nd) (w:World) (hne:o1 ≠ o2) :
  Calls Tryd.prog 20 #[.agg #[.int .i64 k1,.string a1,.slice qi1 i1.length ci1,.slice qw1 w1.length cw1,.int .i64 l1,.int .i64 h1,.int .i64 o1,.slice qk1 ks1.length ck1],.agg #[.int .i64 k2,.string a2,.slice qi2 i2.length ci2,.slice qw2 w2.length cw2,.int .i64 l2,.int .i64 h2,.int .i64 o2,.slice qk2 ks2.length ck2]] w fun e w'=>e=.returned (.bool (sameT (Nd.mk k1 a1 i1 w1 l1 h1 o1 ks1) (Nd.mk k2 a2 i2 w2 l2 h2 o2 ks2)))∧Below w.heap.size w w':=by
 obtain ⟨X,HX⟩:∃ X,(w.alloc (.cells #[.int .i64 k1,.string a1,.slice qi1 i1.length ci1,.slice qw1 w1.length cw1,.int .i64 l1,.int .i64 h1,.int .i64 o1,.slice qk1 ks1.length ck1] 29)).alloc (.cells #[.int .i64 k2,.string a2,.slice qi2 i2.length ci2,.slice qw2 w2.length cw2,.int .i64 l2,.int .i64 h2,.int .i64 o2,.slice qk2 ks2.length ck2] 29)=X:=⟨_,rfl⟩
 have hXs:X.heap.size=w.heap.size + 2:=by rw [← HX];simp
 have hwX:Below w.heap.size w X:=by rw [← HX];exact ((Below.refl _ _).alloc (Nat.le_refl _) _).alloc (by simp) _
 have hX0:X.heap[w.heap.size]? = some (.cells #[.int .i64 k1,.string a1,.slice qi1 i1.length ci1,.slice qw1 w1.length cw1,.int .i64 l1,.int .i64 h1,.int .i64 o1,.slice qk1 ks1.length ck1] 29 (0,0)):=by rw [← HX,Below.heap_alloc _ _ _ (by simp)];exact box_nw _ _
 have hX1:X.heap[w.heap.size + 1]? = some (.cells #[.int .i64 k2,.string a2,.slice qi2 i2.length ci2,.slice qw2 w2.length cw2,.int .i64 l2,.int .i64 h2,.int .i64 o2,.slice qk2 ks2.length ck2] 29 (0,0)):=by rw [← HX,show w.heap.size + 1=(w.alloc (.cells #[.int .i64 k1,.string a1,.slice qi1 i1.length ci1,.slice qw1 w1.length cw1,.int .i64 l1,.int .i64 h1,.int .i64 o1,.slice qk1 ks1.length ck1] 29)).heap.size by simp];exact box_nw _ _
 obtain ⟨x0,x1,x2,x3,x4,x5,x6,x7⟩:=of8' hX0
 obtain ⟨y0,y1,y2,y3,y4,y5,y6,y7⟩:=of8' hX1
 have HWX:=hide hwX
 have HN:=hide (show Nd.mk k1 a1 i1 w1 l1 h1 o1 ks1 ≠ Nd.mk k2 a2 i2 w2 l2 h2 o2 ks2 from fun e=>hne (by injection e))
 have eq0:(o1 == o2)=false:=by simpa using hne
 clear hwX hX0 hX1
 go_enter Tryd.func20,Tryd.ntmps20
 go_wp2
 go_ret
 exact ⟨ret_bool (sameT_no (uh HN)).symm,uh HWX⟩
set_option maxRecDepth 100000 in
set_option maxHeartbeats 8000000 in
theorem same_k (k1:Int) (a1:ByteArray) (qi1:Option Addr) (ci1:Nat) (i1:List Int) (qw1:Option Addr) (cw1:Nat) (w1:List ByteArray) (l1 h1 o1:Int) (qk1:Option Addr) (ck1:Nat) (ks1:List Nd) (qi2:Option Addr) (ci2:Nat) (qw2:Option Addr) (cw2:Nat) (qk2:Option Addr) (ck2:Nat) (k2:Int) (a2:ByteArray) (l2:Int) (h2:Int) (i2:List Int) (w2:List ByteArray) (ks2:List Nd) (w:World) (hne:k1 ≠ k2) :
  Calls Tryd.prog 20 #[.agg #[.int .i64 k1,.string a1,.slice qi1 i1.length ci1,.slice qw1 w1.length cw1,.int .i64 l1,.int .i64 h1,.int .i64 o1,.slice qk1 ks1.length ck1],.agg #[.int .i64 k2,.string a2,.slice qi2 i2.length ci2,.slice qw2 w2.length cw2,.int .i64 l2,.int .i64 h2,.int .i64 o1,.slice qk2 ks2.length ck2]] w fun e w'=>e=.returned (.bool (sameT (Nd.mk k1 a1 i1 w1 l1 h1 o1 ks1) (Nd.mk k2 a2 i2 w2 l2 h2 o1 ks2)))∧Below w.heap.size w w':=by
 obtain ⟨X,HX⟩:∃ X,(w.alloc (.cells #[.int .i64 k1,.string a1,.slice qi1 i1.length ci1,.slice qw1 w1.length cw1,.int .i64 l1,.int .i64 h1,.int .i64 o1,.slice qk1 ks1.length ck1] 29)).alloc (.cells #[.int .i64 k2,.string a2,.slice qi2 i2.length ci2,.slice qw2 w2.length cw2,.int .i64 l2,.int .i64 h2,.int .i64 o1,.slice qk2 ks2.length ck2] 29)=X:=⟨_,rfl⟩
 have hXs:X.heap.size=w.heap.size + 2:=by rw [← HX];simp
 have hwX:Below w.heap.size w X:=by rw [← HX];exact ((Below.refl _ _).alloc (Nat.le_refl _) _).alloc (by simp) _
 have hX0:X.heap[w.heap.size]? = some (.cells #[.int .i64 k1,.string a1,.slice qi1 i1.length ci1,.slice qw1 w1.length cw1,.int .i64 l1,.int .i64 h1,.int .i64 o1,.slice qk1 ks1.length ck1] 29 (0,0)):=by rw [← HX,Below.heap_alloc _ _ _ (by simp)];exact box_nw _ _
 have hX1:X.heap[w.heap.size + 1]? = some (.cells #[.int .i64 k2,.string a2,.slice qi2 i2.length ci2,.slice qw2 w2.length cw2,.int .i64 l2,.int .i64 h2,.int .i64 o1,.slice qk2 ks2.length ck2] 29 (0,0)):=by rw [← HX,show w.heap.size + 1=(w.alloc (.cells #[.int .i64 k1,.string a1,.slice qi1 i1.length ci1,.slice qw1 w1.length cw1,.int .i64 l1,.int .i64 h1,.int .i64 o1,.slice qk1 ks1.length ck1] 29)).heap.size by simp];exact box_nw _ _
 obtain ⟨x0,x1,x2,x3,x4,x5,x6,x7⟩:=of8' hX0
 obtain ⟨y0,y1,y2,y3,y4,y5,y6,y7⟩:=of8' hX1
 have HWX:=hide hwX
 have HN:=hide (show Nd.mk k1 a1 i1 w1 l1 h1 o1 ks1 ≠ Nd.mk k2 a2 i2 w2 l2 h2 o1 ks2 from fun e=>hne (by injection e))
 have eq0:(k1 == k2)=false:=by simpa using hne
 clear hwX hX0 hX1
 go_enter Tryd.func20,Tryd.ntmps20
 go_wp2
 go_ret
 exact ⟨ret_bool (sameT_no (uh HN)).symm,uh HWX⟩
set_option maxRecDepth 100000 in
set_option maxHeartbeats 8000000 in
theorem same_a (k1:Int) (a1:ByteArray) (qi1:Option Addr) (ci1:Nat) (i1:List Int) (qw1:Option Addr) (cw1:Nat) (w1:List ByteArray) (l1 h1 o1:Int) (qk1:Option Addr) (ck1:Nat) (ks1:List Nd) (qi2:Option Addr) (ci2:Nat) (qw2:Option Addr) (cw2:Nat) (qk2:Option Addr) (ck2:Nat) (a2:ByteArray) (l2:Int) (h2:Int) (i2:List Int) (w2:List ByteArray) (ks2:List Nd) (w:World) (hne:a1 ≠ a2) :
  Calls Tryd.prog 20 #[.agg #[.int .i64 k1,.string a1,.slice qi1 i1.length ci1,.slice qw1 w1.length cw1,.int .i64 l1,.int .i64 h1,.int .i64 o1,.slice qk1 ks1.length ck1],.agg #[.int .i64 k1,.string a2,.slice qi2 i2.length ci2,.slice qw2 w2.length cw2,.int .i64 l2,.int .i64 h2,.int .i64 o1,.slice qk2 ks2.length ck2]] w fun e w'=>e=.returned (.bool (sameT (Nd.mk k1 a1 i1 w1 l1 h1 o1 ks1) (Nd.mk k1 a2 i2 w2 l2 h2 o1 ks2)))∧Below w.heap.size w w':=by
 obtain ⟨X,HX⟩:∃ X,(w.alloc (.cells #[.int .i64 k1,.string a1,.slice qi1 i1.length ci1,.slice qw1 w1.length cw1,.int .i64 l1,.int .i64 h1,.int .i64 o1,.slice qk1 ks1.length ck1] 29)).alloc (.cells #[.int .i64 k1,.string a2,.slice qi2 i2.length ci2,.slice qw2 w2.length cw2,.int .i64 l2,.int .i64 h2,.int .i64 o1,.slice qk2 ks2.length ck2] 29)=X:=⟨_,rfl⟩
 have hXs:X.heap.size=w.heap.size + 2:=by rw [← HX];simp
 have hwX:Below w.heap.size w X:=by rw [← HX];exact ((Below.refl _ _).alloc (Nat.le_refl _) _).alloc (by simp) _
 have hX0:X.heap[w.heap.size]? = some (.cells #[.int .i64 k1,.string a1,.slice qi1 i1.length ci1,.slice qw1 w1.length cw1,.int .i64 l1,.int .i64 h1,.int .i64 o1,.slice qk1 ks1.length ck1] 29 (0,0)):=by rw [← HX,Below.heap_alloc _ _ _ (by simp)];exact box_nw _ _
 have hX1:X.heap[w.heap.size + 1]? = some (.cells #[.int .i64 k1,.string a2,.slice qi2 i2.length ci2,.slice qw2 w2.length cw2,.int .i64 l2,.int .i64 h2,.int .i64 o1,.slice qk2 ks2.length ck2] 29 (0,0)):=by rw [← HX,show w.heap.size + 1=(w.alloc (.cells #[.int .i64 k1,.string a1,.slice qi1 i1.length ci1,.slice qw1 w1.length cw1,.int .i64 l1,.int .i64 h1,.int .i64 o1,.slice qk1 ks1.length ck1] 29)).heap.size by simp];exact box_nw _ _
 obtain ⟨x0,x1,x2,x3,x4,x5,x6,x7⟩:=of8' hX0
 obtain ⟨y0,y1,y2,y3,y4,y5,y6,y7⟩:=of8' hX1
 have HWX:=hide hwX
 have HN:=hide (show Nd.mk k1 a1 i1 w1 l1 h1 o1 ks1 ≠ Nd.mk k1 a2 i2 w2 l2 h2 o1 ks2 from fun e=>hne (by injection e))
 have eq0:(a1.toList == a2.toList)=false:=toList_ne hne
 clear hwX hX0 hX1
 go_enter Tryd.func20,Tryd.ntmps20
 go_wp2
 go_ret
 exact ⟨ret_bool (sameT_no (uh HN)).symm,uh HWX⟩
end Go.Proofs.YtikhopiegaoacaaDoor
