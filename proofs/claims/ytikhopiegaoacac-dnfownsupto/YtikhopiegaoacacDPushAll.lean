/- push.Push, Width and Pushed of any tree. -/
import Derived.Test.YtikhopiegaoacacDPushWidth
import Derived.Test.YtikhopiegaoacacDCheck
namespace Go.Proofs.Ytikhopiegaoacac
open Go.RowKit Go.Sort

def opN:Nd→Int
 | .mk _ _ _ _ _ _ op _=>op
def headPred:List Nd→Bool
 | []=>false
 | x :: _=>decide (opN x=1)
mutual
/-- Do negations stand at predicates alone? -/
def atN:Nd→Bool
 | .mk _ _ _ _ _ _ op ks=>if op=2 then headPred ks else atL ks
def atL:List Nd→Bool
 | []=>true
 | x :: xs=>atN x && atL xs
end
/-- What Push answers. -/
def PushT (x:Nd):Nd:=if chkN x then downN x false else zeroT
set_option maxRecDepth 100000 in
set_option maxHeartbeats 4000000 in
theorem push_any (x:Nd) (v:Nv) (w:World) (hin:NdIn w v x) (hwt:wtN x≤1000000000) :
  Calls Try.prog 22 #[v.val] w fun e w'=>(∃ v',e=.returned (.tuple #[v'.val,.int .i64 (code (chkN x))])∧NdFrom w' w.heap.size v' (PushT x))∧Below w.heap.size w w':=by
 obtain ⟨X,HX⟩:∃ X,(w.alloc (.cells #[.int .i64 v.kind,.string v.attr,.slice v.qi v.ni v.ci,.slice v.qw v.nw v.cw,.int .i64 v.lo,.int .i64 v.hi,.int .i64 v.op,.slice v.qk v.nk v.ck] 28)).alloc (.cells #[.int .i64 0,.string ⟨#[]⟩,.slice none 0 0,.slice none 0 0,.int .i64 0,.int .i64 0,.int .i64 0,.slice none 0 0] 28)=X:=⟨_,rfl⟩
 obtain ⟨hX0,hX1,hwX,hXs⟩:=twoM HX
 obtain ⟨x0,x1,x2,x3,x4,x5,x6,x7⟩:=of8' hX0
 obtain ⟨y0,y1,y2,y3,y4,y5,y6,y7⟩:=of8' hX1
 have yf:∀ o,X.frozen? ⟨w.heap.size + 1,o,none⟩=false:=fun o=>frozen_free hX1
 have hz1:w.heap.size + 1 < X.heap.size:=by omega
 have hz0:w.heap.size < X.heap.size:=by omega
 have hc:=checkT_any x v X (hin.keep hwX) hwt
 have HWX:=hide hwX
 have HX0:=hide hX0
 unfold PushT
 cases hx:chkN x
 ·rw [hx,show code false=1 from rfl] at hc
  simp only [Nv.val] at hc
  simp only [Bool.false_eq_true,if_false]
  simp only [show code false=1 from rfl,Nv.val]
  clear hin hwX hX0 hX1
  go_enter Try.func22,Try.ntmps22
  go_wp2_with (go_at_call 34;refine hc.mono ?_;rintro e w1 ⟨rfl,b1⟩;obtain ⟨r0,r1,r2,r3,r4,r5,r6,r7⟩:w1.cell? ⟨w.heap.size + 1,0,none⟩=some (.int .i64 0)∧w1.cell? ⟨w.heap.size + 1,1,none⟩=some (.string ⟨#[]⟩)∧w1.cell? ⟨w.heap.size + 1,2,none⟩=some (.slice none 0 0)∧w1.cell? ⟨w.heap.size + 1,3,none⟩=some (.slice none 0 0)∧w1.cell? ⟨w.heap.size + 1,4,none⟩=some (.int .i64 0)∧w1.cell? ⟨w.heap.size + 1,5,none⟩=some (.int .i64 0)∧w1.cell? ⟨w.heap.size + 1,6,none⟩=some (.int .i64 0)∧w1.cell? ⟨w.heap.size + 1,7,none⟩=some (.slice none 0 0):=⟨(b1.cell (by exact hz1)).trans y0,(b1.cell (by exact hz1)).trans y1,(b1.cell (by exact hz1)).trans y2,(b1.cell (by exact hz1)).trans y3,(b1.cell (by exact hz1)).trans y4,(b1.cell (by exact hz1)).trans y5,(b1.cell (by exact hz1)).trans y6,(b1.cell (by exact hz1)).trans y7⟩;have rf:∀ o,w1.frozen? ⟨w.heap.size + 1,o,none⟩=false:=(fun o=>(b1.frozen (by exact hz1)).trans (yf o));have rz:w.heap.size + 1 < w1.heap.size:=(by have:=b1.size;omega);have B1:=hide b1;clear b1)
  refine bodyPost_ret (v:=.tuple #[.agg #[.int .i64 0,.string ⟨#[]⟩,.slice none 0 0,.slice none 0 0,.int .i64 0,.int .i64 0,.int .i64 0,.slice none 0 0],.int .i64 1]) (by simp [results,Try.results22,go_sem, *]) rfl ⟨⟨⟨0,⟨#[]⟩,none,0,0,none,0,0,0,0,0,none,0,0⟩,rfl, ?_⟩,set8_below (g:=w.heap.size + 1) (below_sub (uh HWX) (uh B1)) (Nat.le_succ _) _ _ _ _ _ _ _ _⟩
  exact NdFrom.make (ints:=[]) (words:=[]) (kids:=[]) (vs:=[]) (OwnK.nil _ _) (OwnK.nil _ _) (OwnK.nil _ _) rfl (fun j v x h=>by simp at h)
 ·have hD:=fun (W:World) (hW:Below X.heap.size X W)=>down_any x false v W ((hin.keep hwX).keep hW) hx hwt
  rw [hx,show code true=0 from rfl] at hc
  simp only [Nv.val] at hc hD
  simp only [if_true]
  simp only [show code true=0 from rfl,Nv.val]
  clear hin hwX hX0 hX1
  go_enter Try.func22,Try.ntmps22
  go_wp2_with (first
   | (go_at_call 34;refine hc.mono ?_;rintro e w1 ⟨rfl,b1⟩;obtain ⟨s0,s1,s2,s3,s4,s5,s6,s7⟩:=of8' ((b1.block _ hz0).trans (uh HX0));have B1:=hide b1;clear b1)
   | (go_at_call 39;refine (hD _ (uh B1)).mono ?_;rintro e w2 ⟨⟨u,rfl,hu⟩,b2'⟩;simp only [Nv.val];have b2:=below_sub (uh B1) b2';obtain ⟨r0,r1,r2,r3,r4,r5,r6,r7⟩:w2.cell? ⟨w.heap.size + 1,0,none⟩=some (.int .i64 0)∧w2.cell? ⟨w.heap.size + 1,1,none⟩=some (.string ⟨#[]⟩)∧w2.cell? ⟨w.heap.size + 1,2,none⟩=some (.slice none 0 0)∧w2.cell? ⟨w.heap.size + 1,3,none⟩=some (.slice none 0 0)∧w2.cell? ⟨w.heap.size + 1,4,none⟩=some (.int .i64 0)∧w2.cell? ⟨w.heap.size + 1,5,none⟩=some (.int .i64 0)∧w2.cell? ⟨w.heap.size + 1,6,none⟩=some (.int .i64 0)∧w2.cell? ⟨w.heap.size + 1,7,none⟩=some (.slice none 0 0):=⟨(b2.cell (by exact hz1)).trans y0,(b2.cell (by exact hz1)).trans y1,(b2.cell (by exact hz1)).trans y2,(b2.cell (by exact hz1)).trans y3,(b2.cell (by exact hz1)).trans y4,(b2.cell (by exact hz1)).trans y5,(b2.cell (by exact hz1)).trans y6,(b2.cell (by exact hz1)).trans y7⟩;have rf:∀ o,w2.frozen? ⟨w.heap.size + 1,o,none⟩=false:=(fun o=>(b2.frozen (by exact hz1)).trans (yf o));have rz:w.heap.size + 1 < w2.heap.size:=(by have:=b2.size;omega);have HU:=hide hu;have B2:=hide b2;have S1:=hide (uh B1).size;clear hu b2 b2'))
  refine bodyPost_ret (v:=.tuple #[.agg #[.int .i64 u.kind,.string u.attr,.slice u.qi u.ni u.ci,.slice u.qw u.nw u.cw,.int .i64 u.lo,.int .i64 u.hi,.int .i64 u.op,.slice u.qk u.nk u.ck],.int .i64 0]) (by simp [results,Try.results22,go_sem, *]) rfl ⟨⟨u,rfl,((uh HU).up (set8_up (g:=w.heap.size + 1) w2 (by have:=uh S1;omega) _ _ _ _ _ _ _ _)).mono (by have:=uh S1;omega)⟩,set8_below (g:=w.heap.size + 1) (below_sub (uh HWX) (uh B2)) (Nat.le_succ _) _ _ _ _ _ _ _ _⟩
/-- What Width answers: the number and the code. -/
def WidthA (x:Nd) (m:Int):Int:=if chkN x then (if 1≤m∧m≤64 then widN m (downN x false) else 0) else 0
def WidthE (x:Nd) (m:Int):Int:=if chkN x then (if 1≤m∧m≤64 then 0 else 2) else 1
set_option maxRecDepth 100000 in
set_option maxHeartbeats 4000000 in
theorem pushWidth_any (x:Nd) (m:Int) (v:Nv) (w:World) (hin:NdIn w v x) (hwt:wtN x≤1000000000) (hwd:wtN (downN x false)≤1000000000) :
  Calls Try.prog 21 #[v.val,.int .i64 m] w fun e w'=>e=.returned (.tuple #[.int .i64 (WidthA x m),.int .i64 (WidthE x m)])∧Below w.heap.size w w':=by
 obtain ⟨X,HX⟩:∃ X,w.alloc (.cells #[.int .i64 v.kind,.string v.attr,.slice v.qi v.ni v.ci,.slice v.qw v.nw v.cw,.int .i64 v.lo,.int .i64 v.hi,.int .i64 v.op,.slice v.qk v.nk v.ck] 28)=X:=⟨_,rfl⟩
 have hX0:X.heap[w.heap.size]? = some (.cells #[.int .i64 v.kind,.string v.attr,.slice v.qi v.ni v.ci,.slice v.qw v.nw v.cw,.int .i64 v.lo,.int .i64 v.hi,.int .i64 v.op,.slice v.qk v.nk v.ck] 28 (0,0)):=by rw [← HX];exact box_nw _ _
 have hwX:Below w.heap.size w X:=by rw [← HX];exact (Below.refl _ _).alloc (Nat.le_refl _) _
 obtain ⟨x0,x1,x2,x3,x4,x5,x6,x7⟩:=of8' hX0
 have hp:=push_any x v X (hin.keep hwX) hwt
 have HWX:=hide hwX
 clear hin hwX hX0
 unfold WidthA WidthE
 cases hx:chkN x
 ·rw [hx,show code false=1 from rfl] at hp
  simp only [Nv.val] at hp
  simp only [Nv.val,Bool.false_eq_true,if_false]
  go_enter Try.func21,Try.ntmps21
  go_wp2_with (go_at_call 22;refine hp.mono ?_;rintro e w1 ⟨⟨u,rfl,hu⟩,b1⟩;have B1:=hide b1;clear b1 hu)
  refine bodyPost_ret (v:=.tuple #[.int .i64 0,.int .i64 1]) (by simp [results,Try.results21,go_sem]) rfl ⟨rfl,(below_sub (uh HWX) (uh B1)).alloc (below_sub (uh HWX) (uh B1)).size _⟩
 ·rw [hx,show code true=0 from rfl] at hp
  simp only [PushT,hx,if_true] at hp
  have hW:=fun (u:Nv) (W:World) (hW:NdIn W u (downN x false))=>width_any (downN x false) m u W hW hwd
  simp only [Nv.val] at hp hW
  simp only [Nv.val,if_true]
  by_cases hm:1≤m∧m≤64
  ·rw [if_pos hm,if_pos hm]
   obtain ⟨m1,m2⟩:=hm
   have f1:¬ m < 1:=by omega
   have f2:¬ 64 < m:=by omega
   go_enter Try.func21,Try.ntmps21
   go_wp2_with (first
    | (go_at_call 22;refine hp.mono ?_;rintro e w1 ⟨⟨u,rfl,hu⟩,b1⟩;have B1:=hide b1;have HU:=hide (hu.toIn.keep ((Below.refl w1.heap.size w1).alloc (Nat.le_refl _) (.cells #[.int .i64 u.kind,.string u.attr,.slice u.qi u.ni u.ci,.slice u.qw u.nw u.cw,.int .i64 u.lo,.int .i64 u.hi,.int .i64 u.op,.slice u.qk u.nk u.ck] 28)));clear b1 hu)
    | (go_at_call 38;refine (hW _ _ (uh HU)).mono ?_;rintro e w2 ⟨rfl,b2⟩;have B2:=hide b2;clear b2))
   refine bodyPost_ret (v:=.tuple #[.int .i64 (widN m (downN x false)),.int .i64 0]) (by simp [results,Try.results21,go_sem]) rfl ⟨rfl,below_sub ((below_sub (uh HWX) (uh B1)).alloc (below_sub (uh HWX) (uh B1)).size _) (uh B2)⟩
  ·rw [if_neg hm,if_neg hm]
   by_cases f1:m < 1
   ·clear hm
    go_enter Try.func21,Try.ntmps21
    go_wp2_with (go_at_call 22;refine hp.mono ?_;rintro e w1 ⟨⟨u,rfl,hu⟩,b1⟩;have B1:=hide b1;clear b1 hu)
    refine bodyPost_ret (v:=.tuple #[.int .i64 0,.int .i64 2]) (by simp [results,Try.results21,go_sem]) rfl ⟨rfl,(below_sub (uh HWX) (uh B1)).alloc (below_sub (uh HWX) (uh B1)).size _⟩
   ·have f2:64 < m:=by omega
    clear hm
    go_enter Try.func21,Try.ntmps21
    go_wp2_with (go_at_call 22;refine hp.mono ?_;rintro e w1 ⟨⟨u,rfl,hu⟩,b1⟩;have B1:=hide b1;clear b1 hu)
    refine bodyPost_ret (v:=.tuple #[.int .i64 0,.int .i64 2]) (by simp [results,Try.results21,go_sem]) rfl ⟨rfl,(below_sub (uh HWX) (uh B1)).alloc (below_sub (uh HWX) (uh B1)).size _⟩
end Go.Proofs.Ytikhopiegaoacac
