/- push.literal: a predicate in new memory, or its negation. -/
import Derived.Test.YtikhopiegaoacacDGrow
import Derived.Test.YtikhopiegaoacacDEvEval
import Derived.Test.YtikhopiegaoacacDPushSum
import Derived.Deep.RegionHeld3
namespace Go.Proofs.Ytikhopiegaoacac
open Go.RowKit Go.Sort

def litT (kind:Int) (attr:ByteArray) (ints:List Int) (words:List ByteArray) (lo hi:Int) (neg:Bool):Nd :=
 if neg then notT (.mk kind attr ints words lo hi 1 []) else .mk kind attr ints words lo hi 1 []
theorem lit_pos {w1 w2 V:World} {B:Nat} {kind lo hi:Int} {attr:ByteArray} {ints:List Int} {words:List ByteArray} {q1 q2:Option Addr} {k1 k2 B1:Nat} (o1:OwnK encI 3 1 B1 w1 q1 k1 ints) (hB:B≤B1) (o2:OwnK encS 9 1 w1.heap.size w2 q2 k2 words) (b2:Below w1.heap.size w1 w2) (hB2:B≤w1.heap.size) (u:SameUp B w2 V) :
  NdFrom V B ⟨kind,attr,q1,ints.length,k1,q2,words.length,k2,lo,hi,1,none,0,0⟩ (.mk kind attr ints words lo hi 1 []):=by
 have f1:∀ a,q1=some a→B≤a.block:=fun a e=>Nat.le_trans hB (o1.from a e)
 have f2:∀ a,q2=some a→B≤a.block:=fun a e=>Nat.le_trans hB2 (o2.from a e)
 exact NdFrom.make (kids:=[]) (vs:=[]) (o1.upF f1 ((SameUp.of b2).trans u).2) (o2.upF f2 u.2) (OwnK.nil _ _) rfl (fun j v x h=>by simp at h)
theorem box_at (W:World) (o1 o2:Obj) {M:Nat} (h:W.heap.size + 1=M):((W.alloc o1).alloc o2).heap[M]? = some o2:=by
 subst h
 have:=box_nw (W.alloc o1) o2
 rwa [size_al] at this
theorem lit_neg {V:World} {B M:Nat} {v:Nv} {t:Nd} (h:V.heap[M]? = some (.cells #[.int .i64 v.kind,.string v.attr,.slice v.qi v.ni v.ci,.slice v.qw v.nw v.cw,.int .i64 v.lo,.int .i64 v.hi,.int .i64 v.op,.slice v.qk v.nk v.ck] 28 (0,0))) (hB:B≤M) (hp:NdFrom V B v t):NdFrom V B ⟨0,⟨#[]⟩,none,0,0,none,0,0,0,0,2,some ⟨M,0,none⟩,1,1⟩ (notT t) :=
 NdFrom.make (ints:=[]) (words:=[]) (kids:=[t]) (vs:=[v]) (OwnK.nil _ _) (OwnK.nil _ _) (own_one h hB) rfl (fun j u y hj hy=>by
  match j,hj,hy with
  | 0,hj,hy=>cases hj;cases hy;exact hp)
set_option maxRecDepth 100000 in
set_option maxHeartbeats 8000000 in
theorem literal_any (kind:Int) (attr:ByteArray) (qi:Option Addr) (ci:Nat) (ints:List Int) (qw:Option Addr) (cw:Nat) (words:List ByteArray) (lo hi:Int) (neg:Bool) (w:World) (h1:SlOf encI 1 w qi ci ints) (h2:SlOf encS 1 w qw cw words) (l1:ints.length≤1000000000) (l2:words.length≤1000000000) :
  Calls Try.prog 60 #[.agg #[.int .i64 kind,.string attr,.slice qi ints.length ci,.slice qw words.length cw,.int .i64 lo,.int .i64 hi],.bool neg] w fun e w'=>NewT w.heap.size w' (litT kind attr ints words lo hi neg) e∧Below w.heap.size w w':=by
 obtain ⟨X,HX⟩:∃ X,(w.alloc (.cells #[.int .i64 kind,.string attr,.slice qi ints.length ci,.slice qw words.length cw,.int .i64 lo,.int .i64 hi] 25)).alloc (.cells #[.int .i64 0,.string ⟨#[]⟩,.slice none 0 0,.slice none 0 0,.int .i64 0,.int .i64 0,.int .i64 0,.slice none 0 0] 28)=X:=⟨_,rfl⟩
 obtain ⟨hX0,hX1,hwX,hXs⟩:=twoM HX
 obtain ⟨y0,y1,y2,y3,y4,y5,y6,y7⟩:=of8' hX1
 obtain ⟨x0,x1,x2,x3,x4,x5⟩:X.cell? ⟨w.heap.size,0,none⟩=some (.int .i64 kind)∧X.cell? ⟨w.heap.size,1,none⟩=some (.string attr)∧X.cell? ⟨w.heap.size,2,none⟩=some (.slice qi ints.length ci)∧X.cell? ⟨w.heap.size,3,none⟩=some (.slice qw words.length cw)∧X.cell? ⟨w.heap.size,4,none⟩=some (.int .i64 lo)∧X.cell? ⟨w.heap.size,5,none⟩=some (.int .i64 hi):=by
  refine ⟨?_, ?_, ?_, ?_, ?_, ?_⟩ <;> (unfold World.cell?;simp [hX0])
 have xf:∀ o,X.frozen? ⟨w.heap.size,o,none⟩=false:=fun o=>frozen_free hX0
 have yf:∀ o,X.frozen? ⟨w.heap.size + 1,o,none⟩=false:=fun o=>frozen_free hX1
 have hC1:=fun (W:World) (hW:Below X.heap.size X W)=>cloneI qi ci ints W ((h1.below hwX).below hW) (by omega)
 have hC2:=fun (W:World) (hW:Below X.heap.size X W)=>cloneS qw cw words W ((h2.below hwX).below hW) (by omega)
 have HWX:=hide hwX
 have mixed:Try.prog.follows .mixedOrders=true:=by kernel_rfl
 clear h1 h2 hwX hX0 hX1
 cases neg
 ·go_enter Try.func60,Try.ntmps60
  go_wp2
  refine wp_region_held_drew (S:=fun w'=>True) (by kernel_rfl) (trivial) (fun hHeld=>?_)
  refine wpAnyH_take (i:=0) (oi:=⟨some 6,.fieldAddr 25 (.tmp 2) 2,_,_,_,none⟩) (v:=?_) rfl (by kernel_rfl) (by kernel_rfl) (by kernel_rfl) (fun _ _ _ h=>h) (Or.inl ⟨by rfl, ?_⟩) (by assumption) ?_
  rotate_left
  ·intro wq hSw
   go_simp
   with_reducible rfl
  simp only [Act.put,List.setIfInBounds_toArray,List.set_cons_zero,List.set_cons_succ]
  refine wpAnyH_take (i:=3) (oi:=⟨some 9,.fieldAddr 25 (.tmp 2) 3,_,_,_,none⟩) (v:=?_) rfl (by kernel_rfl) (by kernel_rfl) (by kernel_rfl) (fun _ _ _ h=>h) (Or.inl ⟨by rfl, ?_⟩) (by assumption) ?_
  rotate_left
  ·intro wq hSw
   go_simp
   with_reducible rfl
  simp only [Act.put,List.setIfInBounds_toArray,List.set_cons_zero,List.set_cons_succ]
  refine wpAnyH_ready (rs:=[1,4]) (by kernel_rfl) (by simp) ?_
  refine AllReadyH.cons (o:=⟨some 7,.load 22 (.tmp 6),_,_,_,none⟩) rfl (fun K hK=>?_) ?_
  ·go_simp
   refine hK.out _ _ (trivial) (fun hHeld=>?_)
   clear hK K
   refine wpAnyH_ready (rs:=[2,4]) (by kernel_rfl) (by simp) ?_
   refine AllReadyH.cons (o:=⟨some 8,.call { callee:=.value (.func 30),args:=#[.tmp 7],argTypes:=#[22] },_,_,_,none⟩) rfl (fun K hK=>?_) ?_
   ·go_simp
    refine (hC1 _ ((Below.refl _ _).drew)).mono ?_
    rintro e w1 ⟨q1,k1,rfl,o1,b1⟩
    simp only
    have R1:Below X.heap.size X w1:=below_undrewM b1
    have s1:w.heap.size + 2≤w1.heap.size:=(by have:=R1.size;omega)
    have O1:=hide o1
    clear o1 b1
    have f2:=(R1.cell (p:=⟨w.heap.size,2,none⟩) (by simp only;omega)).trans x2
    have f3:=(R1.cell (p:=⟨w.heap.size,3,none⟩) (by simp only;omega)).trans x3
    refine hK.out _ _ (trivial) (fun hHeld=>?_)
    clear hK K
    refine wpAnyH_ready (rs:=[4]) (by kernel_rfl) (by simp) ?_
    refine AllReadyH.cons (o:=⟨some 10,.load 23 (.tmp 9),_,_,_,none⟩) rfl (fun K hK=>?_) ?_
    ·go_simp
     refine hK.out _ _ (trivial) (fun hHeld=>?_)
     clear hK K
     refine wpAnyH_take (i:=6) (oi:=⟨some 12,.fieldAddr 25 (.tmp 2) 2,_,_,_,none⟩) (v:=?_) rfl (by kernel_rfl) (by kernel_rfl) (by kernel_rfl) (fun _ _ _ h=>h) (Or.inl ⟨by rfl, ?_⟩) (by assumption) ?_
     rotate_left
     ·intro wq hSw
      go_simp
      with_reducible rfl
     simp only [Act.put,List.setIfInBounds_toArray,List.set_cons_zero,List.set_cons_succ]
     refine wpAnyH_ready (rs:=[5]) (by kernel_rfl) (by simp) ?_
     refine AllReadyH.cons (o:=⟨some 11,.call { callee:=.value (.func 44),args:=#[.tmp 10],argTypes:=#[23] },_,_,_,none⟩) rfl (fun K hK=>?_) ?_
     ·go_simp
      refine (hC2 _ R1).mono ?_
      rintro e w2 ⟨q2,k2,rfl,o2,b2⟩
      simp only
      have R2:Below X.heap.size X w2:=below_sub R1 b2
      have O2:=hide o2
      have B2:=hide b2
      clear o2 b2
      have g0:=(R2.cell (p:=⟨w.heap.size,0,none⟩) (by simp only;omega)).trans x0
      have g1:=(R2.cell (p:=⟨w.heap.size,1,none⟩) (by simp only;omega)).trans x1
      have g2:=(R2.cell (p:=⟨w.heap.size,2,none⟩) (by simp only;omega)).trans x2
      have g3:=(R2.cell (p:=⟨w.heap.size,3,none⟩) (by simp only;omega)).trans x3
      have g4:=(R2.cell (p:=⟨w.heap.size,4,none⟩) (by simp only;omega)).trans x4
      have g5:=(R2.cell (p:=⟨w.heap.size,5,none⟩) (by simp only;omega)).trans x5
      have gf:∀ o,w2.frozen? ⟨w.heap.size,o,none⟩=false:=fun o=>(R2.frozen (by simp only;omega)).trans (xf o)
      have v0:=(R2.cell (p:=⟨w.heap.size + 1,0,none⟩) (by simp only;omega)).trans y0
      have v1:=(R2.cell (p:=⟨w.heap.size + 1,1,none⟩) (by simp only;omega)).trans y1
      have v2:=(R2.cell (p:=⟨w.heap.size + 1,2,none⟩) (by simp only;omega)).trans y2
      have v3:=(R2.cell (p:=⟨w.heap.size + 1,3,none⟩) (by simp only;omega)).trans y3
      have v4:=(R2.cell (p:=⟨w.heap.size + 1,4,none⟩) (by simp only;omega)).trans y4
      have v5:=(R2.cell (p:=⟨w.heap.size + 1,5,none⟩) (by simp only;omega)).trans y5
      have v6:=(R2.cell (p:=⟨w.heap.size + 1,6,none⟩) (by simp only;omega)).trans y6
      have v7:=(R2.cell (p:=⟨w.heap.size + 1,7,none⟩) (by simp only;omega)).trans y7
      have vf:∀ o,w2.frozen? ⟨w.heap.size + 1,o,none⟩=false:=fun o=>(R2.frozen (by simp only;omega)).trans (yf o)
      have z2:w.heap.size < w2.heap.size:=(by have:=R2.size;omega)
      have z2b:w.heap.size + 1 < w2.heap.size:=(by have:=R2.size;omega)
      refine hK.out _ _ (trivial) (fun hHeld=>?_)
      clear hK K
      refine wpAnyH_ready (rs:=[7]) (by kernel_rfl) (by simp) ?_
      refine AllReadyH.cons (o:=⟨none,.store 22 (.tmp 12) (.tmp 8),_,_,_,none⟩) rfl (fun K hK=>?_) ?_
      ·go_simp
       refine hK.out _ _ (trivial) (fun hHeld=>?_)
       clear hK K
       refine wpAnyH_take (i:=8) (oi:=⟨some 13,.fieldAddr 25 (.tmp 2) 3,_,_,_,none⟩) (v:=?_) rfl (by kernel_rfl) (by kernel_rfl) (by kernel_rfl) (fun _ _ _ h=>h) (Or.inl ⟨by rfl, ?_⟩) (by assumption) ?_
       rotate_left
       ·intro wq hSw
        go_simp
        with_reducible rfl
       simp only [Act.put,List.setIfInBounds_toArray,List.set_cons_zero,List.set_cons_succ]
       refine wpAnyH_ready (rs:=[9]) (by kernel_rfl) (by simp) ?_
       refine AllReadyH.cons (o:=⟨none,.store 23 (.tmp 13) (.tmp 11),_,_,_,none⟩) rfl (fun K hK=>?_) ?_
       ·go_simp
        refine hK.out _ _ (trivial) (fun hHeld=>?_)
        clear hK K
        refine wpAnyH_done (by kernel_rfl) ?_ _
        go_wp2
        have hzz:=R2.size
        have r2:=hide R2
        have UP:=((((SameUp.of (B:=w.heap.size + 2) (Below.refl w2.heap.size w2)).set (p:=⟨w.heap.size,2,none⟩) (by simp only;omega) (.slice q1 ints.length k1)).set (p:=⟨w.heap.size,3,none⟩) (by simp only;omega) (.slice q2 words.length k2)).trans (set8_up (B:=w.heap.size + 2) (g:=w.heap.size + 1) _ (by omega) (.int .i64 kind) (.string attr) (.slice q1 ints.length k1) (.slice q2 words.length k2) (.int .i64 lo) (.int .i64 hi) (.int .i64 1) (.slice none 0 0)))
        have BF:=set8_below (((below_sub (uh HWX) R2).setCell (p:=⟨w.heap.size,2,none⟩) (Nat.le_refl _) (.slice q1 ints.length k1)).setCell (p:=⟨w.heap.size,3,none⟩) (Nat.le_refl _) (.slice q2 words.length k2)) (Nat.le_succ _) (.int .i64 kind) (.string attr) (.slice q1 ints.length k1) (.slice q2 words.length k2) (.int .i64 lo) (.int .i64 hi) (.int .i64 1) (.slice none 0 0)
        have UA:=hide (UP.trans (SameUp.of ((Below.refl _ _).alloc (Nat.le_refl _) (.cells #[.int .i64 kind,.string attr,.slice q1 ints.length k1,.slice q2 words.length k2,.int .i64 lo,.int .i64 hi,.int .i64 1,.slice none 0 0] 28))))
        have BA:=hide (BF.alloc (by simp only [World.size_setCell];omega) (.cells #[.int .i64 kind,.string attr,.slice q1 ints.length k1,.slice q2 words.length k2,.int .i64 lo,.int .i64 hi,.int .i64 1,.slice none 0 0] 28))
        clear UP BF R2
        refine bodyPost_ret (v:=.agg #[.int .i64 kind,.string attr,.slice q1 ints.length k1,.slice q2 words.length k2,.int .i64 lo,.int .i64 hi,.int .i64 1,.slice none 0 0]) (by simp [results,Try.results60,go_sem, *]) rfl ⟨⟨⟨kind,attr,q1,ints.length,k1,q2,words.length,k2,lo,hi,1,none,0,0⟩,rfl,(lit_pos (uh O1) (by simp only [drew_heap];omega) (uh O2) (uh B2) s1 (uh UA)).mono (by omega)⟩,uh BA⟩
       exact AllReadyH.nil
      exact AllReadyH.nil
     exact AllReadyH.nil
    exact AllReadyH.nil
   refine AllReadyH.cons (o:=⟨some 10,.load 23 (.tmp 9),_,_,_,none⟩) rfl (fun K hK=>?_) ?_
   ·go_simp
    refine hK.out _ _ (trivial) (fun hHeld=>?_)
    clear hK K
    refine wpAnyH_ready (rs:=[2]) (by kernel_rfl) (by simp) ?_
    refine AllReadyH.cons (o:=⟨some 8,.call { callee:=.value (.func 30),args:=#[.tmp 7],argTypes:=#[22] },_,_,_,none⟩) rfl (fun K hK=>?_) ?_
    ·go_simp
     refine (hC1 _ ((Below.refl _ _).drew)).mono ?_
     rintro e w1 ⟨q1,k1,rfl,o1,b1⟩
     simp only
     have R1:Below X.heap.size X w1:=below_undrewM b1
     have s1:w.heap.size + 2≤w1.heap.size:=(by have:=R1.size;omega)
     have O1:=hide o1
     clear o1 b1
     have f2:=(R1.cell (p:=⟨w.heap.size,2,none⟩) (by simp only;omega)).trans x2
     have f3:=(R1.cell (p:=⟨w.heap.size,3,none⟩) (by simp only;omega)).trans x3
     refine hK.out _ _ (trivial) (fun hHeld=>?_)
     clear hK K
     refine wpAnyH_take (i:=6) (oi:=⟨some 12,.fieldAddr 25 (.tmp 2) 2,_,_,_,none⟩) (v:=?_) rfl (by kernel_rfl) (by kernel_rfl) (by kernel_rfl) (fun _ _ _ h=>h) (Or.inl ⟨by rfl, ?_⟩) (by assumption) ?_
     rotate_left
     ·intro wq hSw
      go_simp
      with_reducible rfl
     simp only [Act.put,List.setIfInBounds_toArray,List.set_cons_zero,List.set_cons_succ]
     refine wpAnyH_ready (rs:=[5]) (by kernel_rfl) (by simp) ?_
     refine AllReadyH.cons (o:=⟨some 11,.call { callee:=.value (.func 44),args:=#[.tmp 10],argTypes:=#[23] },_,_,_,none⟩) rfl (fun K hK=>?_) ?_
     ·go_simp
      refine (hC2 _ R1).mono ?_
      rintro e w2 ⟨q2,k2,rfl,o2,b2⟩
      simp only
      have R2:Below X.heap.size X w2:=below_sub R1 b2
      have O2:=hide o2
      have B2:=hide b2
      clear o2 b2
      have g0:=(R2.cell (p:=⟨w.heap.size,0,none⟩) (by simp only;omega)).trans x0
      have g1:=(R2.cell (p:=⟨w.heap.size,1,none⟩) (by simp only;omega)).trans x1
      have g2:=(R2.cell (p:=⟨w.heap.size,2,none⟩) (by simp only;omega)).trans x2
      have g3:=(R2.cell (p:=⟨w.heap.size,3,none⟩) (by simp only;omega)).trans x3
      have g4:=(R2.cell (p:=⟨w.heap.size,4,none⟩) (by simp only;omega)).trans x4
      have g5:=(R2.cell (p:=⟨w.heap.size,5,none⟩) (by simp only;omega)).trans x5
      have gf:∀ o,w2.frozen? ⟨w.heap.size,o,none⟩=false:=fun o=>(R2.frozen (by simp only;omega)).trans (xf o)
      have v0:=(R2.cell (p:=⟨w.heap.size + 1,0,none⟩) (by simp only;omega)).trans y0
      have v1:=(R2.cell (p:=⟨w.heap.size + 1,1,none⟩) (by simp only;omega)).trans y1
      have v2:=(R2.cell (p:=⟨w.heap.size + 1,2,none⟩) (by simp only;omega)).trans y2
      have v3:=(R2.cell (p:=⟨w.heap.size + 1,3,none⟩) (by simp only;omega)).trans y3
      have v4:=(R2.cell (p:=⟨w.heap.size + 1,4,none⟩) (by simp only;omega)).trans y4
      have v5:=(R2.cell (p:=⟨w.heap.size + 1,5,none⟩) (by simp only;omega)).trans y5
      have v6:=(R2.cell (p:=⟨w.heap.size + 1,6,none⟩) (by simp only;omega)).trans y6
      have v7:=(R2.cell (p:=⟨w.heap.size + 1,7,none⟩) (by simp only;omega)).trans y7
      have vf:∀ o,w2.frozen? ⟨w.heap.size + 1,o,none⟩=false:=fun o=>(R2.frozen (by simp only;omega)).trans (yf o)
      have z2:w.heap.size < w2.heap.size:=(by have:=R2.size;omega)
      have z2b:w.heap.size + 1 < w2.heap.size:=(by have:=R2.size;omega)
      refine hK.out _ _ (trivial) (fun hHeld=>?_)
      clear hK K
      refine wpAnyH_ready (rs:=[7]) (by kernel_rfl) (by simp) ?_
      refine AllReadyH.cons (o:=⟨none,.store 22 (.tmp 12) (.tmp 8),_,_,_,none⟩) rfl (fun K hK=>?_) ?_
      ·go_simp
       refine hK.out _ _ (trivial) (fun hHeld=>?_)
       clear hK K
       refine wpAnyH_take (i:=8) (oi:=⟨some 13,.fieldAddr 25 (.tmp 2) 3,_,_,_,none⟩) (v:=?_) rfl (by kernel_rfl) (by kernel_rfl) (by kernel_rfl) (fun _ _ _ h=>h) (Or.inl ⟨by rfl, ?_⟩) (by assumption) ?_
       rotate_left
       ·intro wq hSw
        go_simp
        with_reducible rfl
       simp only [Act.put,List.setIfInBounds_toArray,List.set_cons_zero,List.set_cons_succ]
       refine wpAnyH_ready (rs:=[9]) (by kernel_rfl) (by simp) ?_
       refine AllReadyH.cons (o:=⟨none,.store 23 (.tmp 13) (.tmp 11),_,_,_,none⟩) rfl (fun K hK=>?_) ?_
       ·go_simp
        refine hK.out _ _ (trivial) (fun hHeld=>?_)
        clear hK K
        refine wpAnyH_done (by kernel_rfl) ?_ _
        go_wp2
        have hzz:=R2.size
        have r2:=hide R2
        have UP:=((((SameUp.of (B:=w.heap.size + 2) (Below.refl w2.heap.size w2)).set (p:=⟨w.heap.size,2,none⟩) (by simp only;omega) (.slice q1 ints.length k1)).set (p:=⟨w.heap.size,3,none⟩) (by simp only;omega) (.slice q2 words.length k2)).trans (set8_up (B:=w.heap.size + 2) (g:=w.heap.size + 1) _ (by omega) (.int .i64 kind) (.string attr) (.slice q1 ints.length k1) (.slice q2 words.length k2) (.int .i64 lo) (.int .i64 hi) (.int .i64 1) (.slice none 0 0)))
        have BF:=set8_below (((below_sub (uh HWX) R2).setCell (p:=⟨w.heap.size,2,none⟩) (Nat.le_refl _) (.slice q1 ints.length k1)).setCell (p:=⟨w.heap.size,3,none⟩) (Nat.le_refl _) (.slice q2 words.length k2)) (Nat.le_succ _) (.int .i64 kind) (.string attr) (.slice q1 ints.length k1) (.slice q2 words.length k2) (.int .i64 lo) (.int .i64 hi) (.int .i64 1) (.slice none 0 0)
        have UA:=hide (UP.trans (SameUp.of ((Below.refl _ _).alloc (Nat.le_refl _) (.cells #[.int .i64 kind,.string attr,.slice q1 ints.length k1,.slice q2 words.length k2,.int .i64 lo,.int .i64 hi,.int .i64 1,.slice none 0 0] 28))))
        have BA:=hide (BF.alloc (by simp only [World.size_setCell];omega) (.cells #[.int .i64 kind,.string attr,.slice q1 ints.length k1,.slice q2 words.length k2,.int .i64 lo,.int .i64 hi,.int .i64 1,.slice none 0 0] 28))
        clear UP BF R2
        refine bodyPost_ret (v:=.agg #[.int .i64 kind,.string attr,.slice q1 ints.length k1,.slice q2 words.length k2,.int .i64 lo,.int .i64 hi,.int .i64 1,.slice none 0 0]) (by simp [results,Try.results60,go_sem, *]) rfl ⟨⟨⟨kind,attr,q1,ints.length,k1,q2,words.length,k2,lo,hi,1,none,0,0⟩,rfl,(lit_pos (uh O1) (by simp only [drew_heap];omega) (uh O2) (uh B2) s1 (uh UA)).mono (by omega)⟩,uh BA⟩
       exact AllReadyH.nil
      exact AllReadyH.nil
     exact AllReadyH.nil
    exact AllReadyH.nil
   exact AllReadyH.nil
  refine AllReadyH.cons (o:=⟨some 10,.load 23 (.tmp 9),_,_,_,none⟩) rfl (fun K hK=>?_) ?_
  ·go_simp
   refine hK.out _ _ (trivial) (fun hHeld=>?_)
   clear hK K
   refine wpAnyH_ready (rs:=[1]) (by kernel_rfl) (by simp) ?_
   refine AllReadyH.cons (o:=⟨some 7,.load 22 (.tmp 6),_,_,_,none⟩) rfl (fun K hK=>?_) ?_
   ·go_simp
    refine hK.out _ _ (trivial) (fun hHeld=>?_)
    clear hK K
    refine wpAnyH_ready (rs:=[2]) (by kernel_rfl) (by simp) ?_
    refine AllReadyH.cons (o:=⟨some 8,.call { callee:=.value (.func 30),args:=#[.tmp 7],argTypes:=#[22] },_,_,_,none⟩) rfl (fun K hK=>?_) ?_
    ·go_simp
     refine (hC1 _ ((Below.refl _ _).drew)).mono ?_
     rintro e w1 ⟨q1,k1,rfl,o1,b1⟩
     simp only
     have R1:Below X.heap.size X w1:=below_undrewM b1
     have s1:w.heap.size + 2≤w1.heap.size:=(by have:=R1.size;omega)
     have O1:=hide o1
     clear o1 b1
     have f2:=(R1.cell (p:=⟨w.heap.size,2,none⟩) (by simp only;omega)).trans x2
     have f3:=(R1.cell (p:=⟨w.heap.size,3,none⟩) (by simp only;omega)).trans x3
     refine hK.out _ _ (trivial) (fun hHeld=>?_)
     clear hK K
     refine wpAnyH_take (i:=6) (oi:=⟨some 12,.fieldAddr 25 (.tmp 2) 2,_,_,_,none⟩) (v:=?_) rfl (by kernel_rfl) (by kernel_rfl) (by kernel_rfl) (fun _ _ _ h=>h) (Or.inl ⟨by rfl, ?_⟩) (by assumption) ?_
     rotate_left
     ·intro wq hSw
      go_simp
      with_reducible rfl
     simp only [Act.put,List.setIfInBounds_toArray,List.set_cons_zero,List.set_cons_succ]
     refine wpAnyH_ready (rs:=[5]) (by kernel_rfl) (by simp) ?_
     refine AllReadyH.cons (o:=⟨some 11,.call { callee:=.value (.func 44),args:=#[.tmp 10],argTypes:=#[23] },_,_,_,none⟩) rfl (fun K hK=>?_) ?_
     ·go_simp
      refine (hC2 _ R1).mono ?_
      rintro e w2 ⟨q2,k2,rfl,o2,b2⟩
      simp only
      have R2:Below X.heap.size X w2:=below_sub R1 b2
      have O2:=hide o2
      have B2:=hide b2
      clear o2 b2
      have g0:=(R2.cell (p:=⟨w.heap.size,0,none⟩) (by simp only;omega)).trans x0
      have g1:=(R2.cell (p:=⟨w.heap.size,1,none⟩) (by simp only;omega)).trans x1
      have g2:=(R2.cell (p:=⟨w.heap.size,2,none⟩) (by simp only;omega)).trans x2
      have g3:=(R2.cell (p:=⟨w.heap.size,3,none⟩) (by simp only;omega)).trans x3
      have g4:=(R2.cell (p:=⟨w.heap.size,4,none⟩) (by simp only;omega)).trans x4
      have g5:=(R2.cell (p:=⟨w.heap.size,5,none⟩) (by simp only;omega)).trans x5
      have gf:∀ o,w2.frozen? ⟨w.heap.size,o,none⟩=false:=fun o=>(R2.frozen (by simp only;omega)).trans (xf o)
      have v0:=(R2.cell (p:=⟨w.heap.size + 1,0,none⟩) (by simp only;omega)).trans y0
      have v1:=(R2.cell (p:=⟨w.heap.size + 1,1,none⟩) (by simp only;omega)).trans y1
      have v2:=(R2.cell (p:=⟨w.heap.size + 1,2,none⟩) (by simp only;omega)).trans y2
      have v3:=(R2.cell (p:=⟨w.heap.size + 1,3,none⟩) (by simp only;omega)).trans y3
      have v4:=(R2.cell (p:=⟨w.heap.size + 1,4,none⟩) (by simp only;omega)).trans y4
      have v5:=(R2.cell (p:=⟨w.heap.size + 1,5,none⟩) (by simp only;omega)).trans y5
      have v6:=(R2.cell (p:=⟨w.heap.size + 1,6,none⟩) (by simp only;omega)).trans y6
      have v7:=(R2.cell (p:=⟨w.heap.size + 1,7,none⟩) (by simp only;omega)).trans y7
      have vf:∀ o,w2.frozen? ⟨w.heap.size + 1,o,none⟩=false:=fun o=>(R2.frozen (by simp only;omega)).trans (yf o)
      have z2:w.heap.size < w2.heap.size:=(by have:=R2.size;omega)
      have z2b:w.heap.size + 1 < w2.heap.size:=(by have:=R2.size;omega)
      refine hK.out _ _ (trivial) (fun hHeld=>?_)
      clear hK K
      refine wpAnyH_ready (rs:=[7]) (by kernel_rfl) (by simp) ?_
      refine AllReadyH.cons (o:=⟨none,.store 22 (.tmp 12) (.tmp 8),_,_,_,none⟩) rfl (fun K hK=>?_) ?_
      ·go_simp
       refine hK.out _ _ (trivial) (fun hHeld=>?_)
       clear hK K
       refine wpAnyH_take (i:=8) (oi:=⟨some 13,.fieldAddr 25 (.tmp 2) 3,_,_,_,none⟩) (v:=?_) rfl (by kernel_rfl) (by kernel_rfl) (by kernel_rfl) (fun _ _ _ h=>h) (Or.inl ⟨by rfl, ?_⟩) (by assumption) ?_
       rotate_left
       ·intro wq hSw
        go_simp
        with_reducible rfl
       simp only [Act.put,List.setIfInBounds_toArray,List.set_cons_zero,List.set_cons_succ]
       refine wpAnyH_ready (rs:=[9]) (by kernel_rfl) (by simp) ?_
       refine AllReadyH.cons (o:=⟨none,.store 23 (.tmp 13) (.tmp 11),_,_,_,none⟩) rfl (fun K hK=>?_) ?_
       ·go_simp
        refine hK.out _ _ (trivial) (fun hHeld=>?_)
        clear hK K
        refine wpAnyH_done (by kernel_rfl) ?_ _
        go_wp2
        have hzz:=R2.size
        have r2:=hide R2
        have UP:=((((SameUp.of (B:=w.heap.size + 2) (Below.refl w2.heap.size w2)).set (p:=⟨w.heap.size,2,none⟩) (by simp only;omega) (.slice q1 ints.length k1)).set (p:=⟨w.heap.size,3,none⟩) (by simp only;omega) (.slice q2 words.length k2)).trans (set8_up (B:=w.heap.size + 2) (g:=w.heap.size + 1) _ (by omega) (.int .i64 kind) (.string attr) (.slice q1 ints.length k1) (.slice q2 words.length k2) (.int .i64 lo) (.int .i64 hi) (.int .i64 1) (.slice none 0 0)))
        have BF:=set8_below (((below_sub (uh HWX) R2).setCell (p:=⟨w.heap.size,2,none⟩) (Nat.le_refl _) (.slice q1 ints.length k1)).setCell (p:=⟨w.heap.size,3,none⟩) (Nat.le_refl _) (.slice q2 words.length k2)) (Nat.le_succ _) (.int .i64 kind) (.string attr) (.slice q1 ints.length k1) (.slice q2 words.length k2) (.int .i64 lo) (.int .i64 hi) (.int .i64 1) (.slice none 0 0)
        have UA:=hide (UP.trans (SameUp.of ((Below.refl _ _).alloc (Nat.le_refl _) (.cells #[.int .i64 kind,.string attr,.slice q1 ints.length k1,.slice q2 words.length k2,.int .i64 lo,.int .i64 hi,.int .i64 1,.slice none 0 0] 28))))
        have BA:=hide (BF.alloc (by simp only [World.size_setCell];omega) (.cells #[.int .i64 kind,.string attr,.slice q1 ints.length k1,.slice q2 words.length k2,.int .i64 lo,.int .i64 hi,.int .i64 1,.slice none 0 0] 28))
        clear UP BF R2
        refine bodyPost_ret (v:=.agg #[.int .i64 kind,.string attr,.slice q1 ints.length k1,.slice q2 words.length k2,.int .i64 lo,.int .i64 hi,.int .i64 1,.slice none 0 0]) (by simp [results,Try.results60,go_sem, *]) rfl ⟨⟨⟨kind,attr,q1,ints.length,k1,q2,words.length,k2,lo,hi,1,none,0,0⟩,rfl,(lit_pos (uh O1) (by simp only [drew_heap];omega) (uh O2) (uh B2) s1 (uh UA)).mono (by omega)⟩,uh BA⟩
       exact AllReadyH.nil
      exact AllReadyH.nil
     exact AllReadyH.nil
    exact AllReadyH.nil
   exact AllReadyH.nil
  exact AllReadyH.nil
 ·go_enter Try.func60,Try.ntmps60
  go_wp2
  refine wp_region_held_drew (S:=fun w'=>True) (by kernel_rfl) (trivial) (fun hHeld=>?_)
  refine wpAnyH_take (i:=0) (oi:=⟨some 6,.fieldAddr 25 (.tmp 2) 2,_,_,_,none⟩) (v:=?_) rfl (by kernel_rfl) (by kernel_rfl) (by kernel_rfl) (fun _ _ _ h=>h) (Or.inl ⟨by rfl, ?_⟩) (by assumption) ?_
  rotate_left
  ·intro wq hSw
   go_simp
   with_reducible rfl
  simp only [Act.put,List.setIfInBounds_toArray,List.set_cons_zero,List.set_cons_succ]
  refine wpAnyH_take (i:=3) (oi:=⟨some 9,.fieldAddr 25 (.tmp 2) 3,_,_,_,none⟩) (v:=?_) rfl (by kernel_rfl) (by kernel_rfl) (by kernel_rfl) (fun _ _ _ h=>h) (Or.inl ⟨by rfl, ?_⟩) (by assumption) ?_
  rotate_left
  ·intro wq hSw
   go_simp
   with_reducible rfl
  simp only [Act.put,List.setIfInBounds_toArray,List.set_cons_zero,List.set_cons_succ]
  refine wpAnyH_ready (rs:=[1,4]) (by kernel_rfl) (by simp) ?_
  refine AllReadyH.cons (o:=⟨some 7,.load 22 (.tmp 6),_,_,_,none⟩) rfl (fun K hK=>?_) ?_
  ·go_simp
   refine hK.out _ _ (trivial) (fun hHeld=>?_)
   clear hK K
   refine wpAnyH_ready (rs:=[2,4]) (by kernel_rfl) (by simp) ?_
   refine AllReadyH.cons (o:=⟨some 8,.call { callee:=.value (.func 30),args:=#[.tmp 7],argTypes:=#[22] },_,_,_,none⟩) rfl (fun K hK=>?_) ?_
   ·go_simp
    refine (hC1 _ ((Below.refl _ _).drew)).mono ?_
    rintro e w1 ⟨q1,k1,rfl,o1,b1⟩
    simp only
    have R1:Below X.heap.size X w1:=below_undrewM b1
    have s1:w.heap.size + 2≤w1.heap.size:=(by have:=R1.size;omega)
    have O1:=hide o1
    clear o1 b1
    have f2:=(R1.cell (p:=⟨w.heap.size,2,none⟩) (by simp only;omega)).trans x2
    have f3:=(R1.cell (p:=⟨w.heap.size,3,none⟩) (by simp only;omega)).trans x3
    refine hK.out _ _ (trivial) (fun hHeld=>?_)
    clear hK K
    refine wpAnyH_ready (rs:=[4]) (by kernel_rfl) (by simp) ?_
    refine AllReadyH.cons (o:=⟨some 10,.load 23 (.tmp 9),_,_,_,none⟩) rfl (fun K hK=>?_) ?_
    ·go_simp
     refine hK.out _ _ (trivial) (fun hHeld=>?_)
     clear hK K
     refine wpAnyH_take (i:=6) (oi:=⟨some 12,.fieldAddr 25 (.tmp 2) 2,_,_,_,none⟩) (v:=?_) rfl (by kernel_rfl) (by kernel_rfl) (by kernel_rfl) (fun _ _ _ h=>h) (Or.inl ⟨by rfl, ?_⟩) (by assumption) ?_
     rotate_left
     ·intro wq hSw
      go_simp
      with_reducible rfl
     simp only [Act.put,List.setIfInBounds_toArray,List.set_cons_zero,List.set_cons_succ]
     refine wpAnyH_ready (rs:=[5]) (by kernel_rfl) (by simp) ?_
     refine AllReadyH.cons (o:=⟨some 11,.call { callee:=.value (.func 44),args:=#[.tmp 10],argTypes:=#[23] },_,_,_,none⟩) rfl (fun K hK=>?_) ?_
     ·go_simp
      refine (hC2 _ R1).mono ?_
      rintro e w2 ⟨q2,k2,rfl,o2,b2⟩
      simp only
      have R2:Below X.heap.size X w2:=below_sub R1 b2
      have O2:=hide o2
      have B2:=hide b2
      clear o2 b2
      have g0:=(R2.cell (p:=⟨w.heap.size,0,none⟩) (by simp only;omega)).trans x0
      have g1:=(R2.cell (p:=⟨w.heap.size,1,none⟩) (by simp only;omega)).trans x1
      have g2:=(R2.cell (p:=⟨w.heap.size,2,none⟩) (by simp only;omega)).trans x2
      have g3:=(R2.cell (p:=⟨w.heap.size,3,none⟩) (by simp only;omega)).trans x3
      have g4:=(R2.cell (p:=⟨w.heap.size,4,none⟩) (by simp only;omega)).trans x4
      have g5:=(R2.cell (p:=⟨w.heap.size,5,none⟩) (by simp only;omega)).trans x5
      have gf:∀ o,w2.frozen? ⟨w.heap.size,o,none⟩=false:=fun o=>(R2.frozen (by simp only;omega)).trans (xf o)
      have v0:=(R2.cell (p:=⟨w.heap.size + 1,0,none⟩) (by simp only;omega)).trans y0
      have v1:=(R2.cell (p:=⟨w.heap.size + 1,1,none⟩) (by simp only;omega)).trans y1
      have v2:=(R2.cell (p:=⟨w.heap.size + 1,2,none⟩) (by simp only;omega)).trans y2
      have v3:=(R2.cell (p:=⟨w.heap.size + 1,3,none⟩) (by simp only;omega)).trans y3
      have v4:=(R2.cell (p:=⟨w.heap.size + 1,4,none⟩) (by simp only;omega)).trans y4
      have v5:=(R2.cell (p:=⟨w.heap.size + 1,5,none⟩) (by simp only;omega)).trans y5
      have v6:=(R2.cell (p:=⟨w.heap.size + 1,6,none⟩) (by simp only;omega)).trans y6
      have v7:=(R2.cell (p:=⟨w.heap.size + 1,7,none⟩) (by simp only;omega)).trans y7
      have vf:∀ o,w2.frozen? ⟨w.heap.size + 1,o,none⟩=false:=fun o=>(R2.frozen (by simp only;omega)).trans (yf o)
      have z2:w.heap.size < w2.heap.size:=(by have:=R2.size;omega)
      have z2b:w.heap.size + 1 < w2.heap.size:=(by have:=R2.size;omega)
      refine hK.out _ _ (trivial) (fun hHeld=>?_)
      clear hK K
      refine wpAnyH_ready (rs:=[7]) (by kernel_rfl) (by simp) ?_
      refine AllReadyH.cons (o:=⟨none,.store 22 (.tmp 12) (.tmp 8),_,_,_,none⟩) rfl (fun K hK=>?_) ?_
      ·go_simp
       refine hK.out _ _ (trivial) (fun hHeld=>?_)
       clear hK K
       refine wpAnyH_take (i:=8) (oi:=⟨some 13,.fieldAddr 25 (.tmp 2) 3,_,_,_,none⟩) (v:=?_) rfl (by kernel_rfl) (by kernel_rfl) (by kernel_rfl) (fun _ _ _ h=>h) (Or.inl ⟨by rfl, ?_⟩) (by assumption) ?_
       rotate_left
       ·intro wq hSw
        go_simp
        with_reducible rfl
       simp only [Act.put,List.setIfInBounds_toArray,List.set_cons_zero,List.set_cons_succ]
       refine wpAnyH_ready (rs:=[9]) (by kernel_rfl) (by simp) ?_
       refine AllReadyH.cons (o:=⟨none,.store 23 (.tmp 13) (.tmp 11),_,_,_,none⟩) rfl (fun K hK=>?_) ?_
       ·go_simp
        refine hK.out _ _ (trivial) (fun hHeld=>?_)
        clear hK K
        refine wpAnyH_done (by kernel_rfl) ?_ _
        go_wp2
        have hzz:=R2.size
        have r2:=hide R2
        have UP:=((((SameUp.of (B:=w.heap.size + 2) (Below.refl w2.heap.size w2)).set (p:=⟨w.heap.size,2,none⟩) (by simp only;omega) (.slice q1 ints.length k1)).set (p:=⟨w.heap.size,3,none⟩) (by simp only;omega) (.slice q2 words.length k2)).trans (set8_up (B:=w.heap.size + 2) (g:=w.heap.size + 1) _ (by omega) (.int .i64 0) (.string ⟨#[]⟩) (.slice none 0 0) (.slice none 0 0) (.int .i64 0) (.int .i64 0) (.int .i64 2) (.slice (some ⟨w2.heap.size + 1,0,none⟩) 1 1)))
        have BF:=set8_below (((below_sub (uh HWX) R2).setCell (p:=⟨w.heap.size,2,none⟩) (Nat.le_refl _) (.slice q1 ints.length k1)).setCell (p:=⟨w.heap.size,3,none⟩) (Nat.le_refl _) (.slice q2 words.length k2)) (Nat.le_succ _) (.int .i64 0) (.string ⟨#[]⟩) (.slice none 0 0) (.slice none 0 0) (.int .i64 0) (.int .i64 0) (.int .i64 2) (.slice (some ⟨w2.heap.size + 1,0,none⟩) 1 1)
        have UA:=hide ((UP.trans (SameUp.of ((Below.refl _ _).alloc (Nat.le_refl _) (.cells #[.int .i64 kind,.string attr,.slice q1 ints.length k1,.slice q2 words.length k2,.int .i64 lo,.int .i64 hi,.int .i64 1,.slice none 0 0] 28)))).trans (SameUp.of ((Below.refl _ _).alloc (Nat.le_refl _) (.cells #[.int .i64 kind,.string attr,.slice q1 ints.length k1,.slice q2 words.length k2,.int .i64 lo,.int .i64 hi,.int .i64 1,.slice none 0 0] 28))))
        have BA:=hide ((BF.alloc (by simp only [World.size_setCell];omega) (.cells #[.int .i64 kind,.string attr,.slice q1 ints.length k1,.slice q2 words.length k2,.int .i64 lo,.int .i64 hi,.int .i64 1,.slice none 0 0] 28)).alloc (by simp only [World.size_setCell,size_al];omega) (.cells #[.int .i64 kind,.string attr,.slice q1 ints.length k1,.slice q2 words.length k2,.int .i64 lo,.int .i64 hi,.int .i64 1,.slice none 0 0] 28))
        clear UP BF R2
        refine bodyPost_ret (v:=.agg #[.int .i64 0,.string ⟨#[]⟩,.slice none 0 0,.slice none 0 0,.int .i64 0,.int .i64 0,.int .i64 2,.slice (some ⟨w2.heap.size + 1,0,none⟩) 1 1]) (by simp [results,Try.results60,go_sem, *]) rfl ⟨⟨⟨0,⟨#[]⟩,none,0,0,none,0,0,0,0,2,some ⟨w2.heap.size + 1,0,none⟩,1,1⟩,rfl, ?_⟩,uh BA⟩
        exact (lit_neg (v:=⟨kind,attr,q1,ints.length,k1,q2,words.length,k2,lo,hi,1,none,0,0⟩) (box_at _ _ _ (by simp)) (by omega) (lit_pos (uh O1) (by simp only [drew_heap];omega) (uh O2) (uh B2) s1 (uh UA))).mono (by omega)
       exact AllReadyH.nil
      exact AllReadyH.nil
     exact AllReadyH.nil
    exact AllReadyH.nil
   refine AllReadyH.cons (o:=⟨some 10,.load 23 (.tmp 9),_,_,_,none⟩) rfl (fun K hK=>?_) ?_
   ·go_simp
    refine hK.out _ _ (trivial) (fun hHeld=>?_)
    clear hK K
    refine wpAnyH_ready (rs:=[2]) (by kernel_rfl) (by simp) ?_
    refine AllReadyH.cons (o:=⟨some 8,.call { callee:=.value (.func 30),args:=#[.tmp 7],argTypes:=#[22] },_,_,_,none⟩) rfl (fun K hK=>?_) ?_
    ·go_simp
     refine (hC1 _ ((Below.refl _ _).drew)).mono ?_
     rintro e w1 ⟨q1,k1,rfl,o1,b1⟩
     simp only
     have R1:Below X.heap.size X w1:=below_undrewM b1
     have s1:w.heap.size + 2≤w1.heap.size:=(by have:=R1.size;omega)
     have O1:=hide o1
     clear o1 b1
     have f2:=(R1.cell (p:=⟨w.heap.size,2,none⟩) (by simp only;omega)).trans x2
     have f3:=(R1.cell (p:=⟨w.heap.size,3,none⟩) (by simp only;omega)).trans x3
     refine hK.out _ _ (trivial) (fun hHeld=>?_)
     clear hK K
     refine wpAnyH_take (i:=6) (oi:=⟨some 12,.fieldAddr 25 (.tmp 2) 2,_,_,_,none⟩) (v:=?_) rfl (by kernel_rfl) (by kernel_rfl) (by kernel_rfl) (fun _ _ _ h=>h) (Or.inl ⟨by rfl, ?_⟩) (by assumption) ?_
     rotate_left
     ·intro wq hSw
      go_simp
      with_reducible rfl
     simp only [Act.put,List.setIfInBounds_toArray,List.set_cons_zero,List.set_cons_succ]
     refine wpAnyH_ready (rs:=[5]) (by kernel_rfl) (by simp) ?_
     refine AllReadyH.cons (o:=⟨some 11,.call { callee:=.value (.func 44),args:=#[.tmp 10],argTypes:=#[23] },_,_,_,none⟩) rfl (fun K hK=>?_) ?_
     ·go_simp
      refine (hC2 _ R1).mono ?_
      rintro e w2 ⟨q2,k2,rfl,o2,b2⟩
      simp only
      have R2:Below X.heap.size X w2:=below_sub R1 b2
      have O2:=hide o2
      have B2:=hide b2
      clear o2 b2
      have g0:=(R2.cell (p:=⟨w.heap.size,0,none⟩) (by simp only;omega)).trans x0
      have g1:=(R2.cell (p:=⟨w.heap.size,1,none⟩) (by simp only;omega)).trans x1
      have g2:=(R2.cell (p:=⟨w.heap.size,2,none⟩) (by simp only;omega)).trans x2
      have g3:=(R2.cell (p:=⟨w.heap.size,3,none⟩) (by simp only;omega)).trans x3
      have g4:=(R2.cell (p:=⟨w.heap.size,4,none⟩) (by simp only;omega)).trans x4
      have g5:=(R2.cell (p:=⟨w.heap.size,5,none⟩) (by simp only;omega)).trans x5
      have gf:∀ o,w2.frozen? ⟨w.heap.size,o,none⟩=false:=fun o=>(R2.frozen (by simp only;omega)).trans (xf o)
      have v0:=(R2.cell (p:=⟨w.heap.size + 1,0,none⟩) (by simp only;omega)).trans y0
      have v1:=(R2.cell (p:=⟨w.heap.size + 1,1,none⟩) (by simp only;omega)).trans y1
      have v2:=(R2.cell (p:=⟨w.heap.size + 1,2,none⟩) (by simp only;omega)).trans y2
      have v3:=(R2.cell (p:=⟨w.heap.size + 1,3,none⟩) (by simp only;omega)).trans y3
      have v4:=(R2.cell (p:=⟨w.heap.size + 1,4,none⟩) (by simp only;omega)).trans y4
      have v5:=(R2.cell (p:=⟨w.heap.size + 1,5,none⟩) (by simp only;omega)).trans y5
      have v6:=(R2.cell (p:=⟨w.heap.size + 1,6,none⟩) (by simp only;omega)).trans y6
      have v7:=(R2.cell (p:=⟨w.heap.size + 1,7,none⟩) (by simp only;omega)).trans y7
      have vf:∀ o,w2.frozen? ⟨w.heap.size + 1,o,none⟩=false:=fun o=>(R2.frozen (by simp only;omega)).trans (yf o)
      have z2:w.heap.size < w2.heap.size:=(by have:=R2.size;omega)
      have z2b:w.heap.size + 1 < w2.heap.size:=(by have:=R2.size;omega)
      refine hK.out _ _ (trivial) (fun hHeld=>?_)
      clear hK K
      refine wpAnyH_ready (rs:=[7]) (by kernel_rfl) (by simp) ?_
      refine AllReadyH.cons (o:=⟨none,.store 22 (.tmp 12) (.tmp 8),_,_,_,none⟩) rfl (fun K hK=>?_) ?_
      ·go_simp
       refine hK.out _ _ (trivial) (fun hHeld=>?_)
       clear hK K
       refine wpAnyH_take (i:=8) (oi:=⟨some 13,.fieldAddr 25 (.tmp 2) 3,_,_,_,none⟩) (v:=?_) rfl (by kernel_rfl) (by kernel_rfl) (by kernel_rfl) (fun _ _ _ h=>h) (Or.inl ⟨by rfl, ?_⟩) (by assumption) ?_
       rotate_left
       ·intro wq hSw
        go_simp
        with_reducible rfl
       simp only [Act.put,List.setIfInBounds_toArray,List.set_cons_zero,List.set_cons_succ]
       refine wpAnyH_ready (rs:=[9]) (by kernel_rfl) (by simp) ?_
       refine AllReadyH.cons (o:=⟨none,.store 23 (.tmp 13) (.tmp 11),_,_,_,none⟩) rfl (fun K hK=>?_) ?_
       ·go_simp
        refine hK.out _ _ (trivial) (fun hHeld=>?_)
        clear hK K
        refine wpAnyH_done (by kernel_rfl) ?_ _
        go_wp2
        have hzz:=R2.size
        have r2:=hide R2
        have UP:=((((SameUp.of (B:=w.heap.size + 2) (Below.refl w2.heap.size w2)).set (p:=⟨w.heap.size,2,none⟩) (by simp only;omega) (.slice q1 ints.length k1)).set (p:=⟨w.heap.size,3,none⟩) (by simp only;omega) (.slice q2 words.length k2)).trans (set8_up (B:=w.heap.size + 2) (g:=w.heap.size + 1) _ (by omega) (.int .i64 0) (.string ⟨#[]⟩) (.slice none 0 0) (.slice none 0 0) (.int .i64 0) (.int .i64 0) (.int .i64 2) (.slice (some ⟨w2.heap.size + 1,0,none⟩) 1 1)))
        have BF:=set8_below (((below_sub (uh HWX) R2).setCell (p:=⟨w.heap.size,2,none⟩) (Nat.le_refl _) (.slice q1 ints.length k1)).setCell (p:=⟨w.heap.size,3,none⟩) (Nat.le_refl _) (.slice q2 words.length k2)) (Nat.le_succ _) (.int .i64 0) (.string ⟨#[]⟩) (.slice none 0 0) (.slice none 0 0) (.int .i64 0) (.int .i64 0) (.int .i64 2) (.slice (some ⟨w2.heap.size + 1,0,none⟩) 1 1)
        have UA:=hide ((UP.trans (SameUp.of ((Below.refl _ _).alloc (Nat.le_refl _) (.cells #[.int .i64 kind,.string attr,.slice q1 ints.length k1,.slice q2 words.length k2,.int .i64 lo,.int .i64 hi,.int .i64 1,.slice none 0 0] 28)))).trans (SameUp.of ((Below.refl _ _).alloc (Nat.le_refl _) (.cells #[.int .i64 kind,.string attr,.slice q1 ints.length k1,.slice q2 words.length k2,.int .i64 lo,.int .i64 hi,.int .i64 1,.slice none 0 0] 28))))
        have BA:=hide ((BF.alloc (by simp only [World.size_setCell];omega) (.cells #[.int .i64 kind,.string attr,.slice q1 ints.length k1,.slice q2 words.length k2,.int .i64 lo,.int .i64 hi,.int .i64 1,.slice none 0 0] 28)).alloc (by simp only [World.size_setCell,size_al];omega) (.cells #[.int .i64 kind,.string attr,.slice q1 ints.length k1,.slice q2 words.length k2,.int .i64 lo,.int .i64 hi,.int .i64 1,.slice none 0 0] 28))
        clear UP BF R2
        refine bodyPost_ret (v:=.agg #[.int .i64 0,.string ⟨#[]⟩,.slice none 0 0,.slice none 0 0,.int .i64 0,.int .i64 0,.int .i64 2,.slice (some ⟨w2.heap.size + 1,0,none⟩) 1 1]) (by simp [results,Try.results60,go_sem, *]) rfl ⟨⟨⟨0,⟨#[]⟩,none,0,0,none,0,0,0,0,2,some ⟨w2.heap.size + 1,0,none⟩,1,1⟩,rfl, ?_⟩,uh BA⟩
        exact (lit_neg (v:=⟨kind,attr,q1,ints.length,k1,q2,words.length,k2,lo,hi,1,none,0,0⟩) (box_at _ _ _ (by simp)) (by omega) (lit_pos (uh O1) (by simp only [drew_heap];omega) (uh O2) (uh B2) s1 (uh UA))).mono (by omega)
       exact AllReadyH.nil
      exact AllReadyH.nil
     exact AllReadyH.nil
    exact AllReadyH.nil
   exact AllReadyH.nil
  refine AllReadyH.cons (o:=⟨some 10,.load 23 (.tmp 9),_,_,_,none⟩) rfl (fun K hK=>?_) ?_
  ·go_simp
   refine hK.out _ _ (trivial) (fun hHeld=>?_)
   clear hK K
   refine wpAnyH_ready (rs:=[1]) (by kernel_rfl) (by simp) ?_
   refine AllReadyH.cons (o:=⟨some 7,.load 22 (.tmp 6),_,_,_,none⟩) rfl (fun K hK=>?_) ?_
   ·go_simp
    refine hK.out _ _ (trivial) (fun hHeld=>?_)
    clear hK K
    refine wpAnyH_ready (rs:=[2]) (by kernel_rfl) (by simp) ?_
    refine AllReadyH.cons (o:=⟨some 8,.call { callee:=.value (.func 30),args:=#[.tmp 7],argTypes:=#[22] },_,_,_,none⟩) rfl (fun K hK=>?_) ?_
    ·go_simp
     refine (hC1 _ ((Below.refl _ _).drew)).mono ?_
     rintro e w1 ⟨q1,k1,rfl,o1,b1⟩
     simp only
     have R1:Below X.heap.size X w1:=below_undrewM b1
     have s1:w.heap.size + 2≤w1.heap.size:=(by have:=R1.size;omega)
     have O1:=hide o1
     clear o1 b1
     have f2:=(R1.cell (p:=⟨w.heap.size,2,none⟩) (by simp only;omega)).trans x2
     have f3:=(R1.cell (p:=⟨w.heap.size,3,none⟩) (by simp only;omega)).trans x3
     refine hK.out _ _ (trivial) (fun hHeld=>?_)
     clear hK K
     refine wpAnyH_take (i:=6) (oi:=⟨some 12,.fieldAddr 25 (.tmp 2) 2,_,_,_,none⟩) (v:=?_) rfl (by kernel_rfl) (by kernel_rfl) (by kernel_rfl) (fun _ _ _ h=>h) (Or.inl ⟨by rfl, ?_⟩) (by assumption) ?_
     rotate_left
     ·intro wq hSw
      go_simp
      with_reducible rfl
     simp only [Act.put,List.setIfInBounds_toArray,List.set_cons_zero,List.set_cons_succ]
     refine wpAnyH_ready (rs:=[5]) (by kernel_rfl) (by simp) ?_
     refine AllReadyH.cons (o:=⟨some 11,.call { callee:=.value (.func 44),args:=#[.tmp 10],argTypes:=#[23] },_,_,_,none⟩) rfl (fun K hK=>?_) ?_
     ·go_simp
      refine (hC2 _ R1).mono ?_
      rintro e w2 ⟨q2,k2,rfl,o2,b2⟩
      simp only
      have R2:Below X.heap.size X w2:=below_sub R1 b2
      have O2:=hide o2
      have B2:=hide b2
      clear o2 b2
      have g0:=(R2.cell (p:=⟨w.heap.size,0,none⟩) (by simp only;omega)).trans x0
      have g1:=(R2.cell (p:=⟨w.heap.size,1,none⟩) (by simp only;omega)).trans x1
      have g2:=(R2.cell (p:=⟨w.heap.size,2,none⟩) (by simp only;omega)).trans x2
      have g3:=(R2.cell (p:=⟨w.heap.size,3,none⟩) (by simp only;omega)).trans x3
      have g4:=(R2.cell (p:=⟨w.heap.size,4,none⟩) (by simp only;omega)).trans x4
      have g5:=(R2.cell (p:=⟨w.heap.size,5,none⟩) (by simp only;omega)).trans x5
      have gf:∀ o,w2.frozen? ⟨w.heap.size,o,none⟩=false:=fun o=>(R2.frozen (by simp only;omega)).trans (xf o)
      have v0:=(R2.cell (p:=⟨w.heap.size + 1,0,none⟩) (by simp only;omega)).trans y0
      have v1:=(R2.cell (p:=⟨w.heap.size + 1,1,none⟩) (by simp only;omega)).trans y1
      have v2:=(R2.cell (p:=⟨w.heap.size + 1,2,none⟩) (by simp only;omega)).trans y2
      have v3:=(R2.cell (p:=⟨w.heap.size + 1,3,none⟩) (by simp only;omega)).trans y3
      have v4:=(R2.cell (p:=⟨w.heap.size + 1,4,none⟩) (by simp only;omega)).trans y4
      have v5:=(R2.cell (p:=⟨w.heap.size + 1,5,none⟩) (by simp only;omega)).trans y5
      have v6:=(R2.cell (p:=⟨w.heap.size + 1,6,none⟩) (by simp only;omega)).trans y6
      have v7:=(R2.cell (p:=⟨w.heap.size + 1,7,none⟩) (by simp only;omega)).trans y7
      have vf:∀ o,w2.frozen? ⟨w.heap.size + 1,o,none⟩=false:=fun o=>(R2.frozen (by simp only;omega)).trans (yf o)
      have z2:w.heap.size < w2.heap.size:=(by have:=R2.size;omega)
      have z2b:w.heap.size + 1 < w2.heap.size:=(by have:=R2.size;omega)
      refine hK.out _ _ (trivial) (fun hHeld=>?_)
      clear hK K
      refine wpAnyH_ready (rs:=[7]) (by kernel_rfl) (by simp) ?_
      refine AllReadyH.cons (o:=⟨none,.store 22 (.tmp 12) (.tmp 8),_,_,_,none⟩) rfl (fun K hK=>?_) ?_
      ·go_simp
       refine hK.out _ _ (trivial) (fun hHeld=>?_)
       clear hK K
       refine wpAnyH_take (i:=8) (oi:=⟨some 13,.fieldAddr 25 (.tmp 2) 3,_,_,_,none⟩) (v:=?_) rfl (by kernel_rfl) (by kernel_rfl) (by kernel_rfl) (fun _ _ _ h=>h) (Or.inl ⟨by rfl, ?_⟩) (by assumption) ?_
       rotate_left
       ·intro wq hSw
        go_simp
        with_reducible rfl
       simp only [Act.put,List.setIfInBounds_toArray,List.set_cons_zero,List.set_cons_succ]
       refine wpAnyH_ready (rs:=[9]) (by kernel_rfl) (by simp) ?_
       refine AllReadyH.cons (o:=⟨none,.store 23 (.tmp 13) (.tmp 11),_,_,_,none⟩) rfl (fun K hK=>?_) ?_
       ·go_simp
        refine hK.out _ _ (trivial) (fun hHeld=>?_)
        clear hK K
        refine wpAnyH_done (by kernel_rfl) ?_ _
        go_wp2
        have hzz:=R2.size
        have r2:=hide R2
        have UP:=((((SameUp.of (B:=w.heap.size + 2) (Below.refl w2.heap.size w2)).set (p:=⟨w.heap.size,2,none⟩) (by simp only;omega) (.slice q1 ints.length k1)).set (p:=⟨w.heap.size,3,none⟩) (by simp only;omega) (.slice q2 words.length k2)).trans (set8_up (B:=w.heap.size + 2) (g:=w.heap.size + 1) _ (by omega) (.int .i64 0) (.string ⟨#[]⟩) (.slice none 0 0) (.slice none 0 0) (.int .i64 0) (.int .i64 0) (.int .i64 2) (.slice (some ⟨w2.heap.size + 1,0,none⟩) 1 1)))
        have BF:=set8_below (((below_sub (uh HWX) R2).setCell (p:=⟨w.heap.size,2,none⟩) (Nat.le_refl _) (.slice q1 ints.length k1)).setCell (p:=⟨w.heap.size,3,none⟩) (Nat.le_refl _) (.slice q2 words.length k2)) (Nat.le_succ _) (.int .i64 0) (.string ⟨#[]⟩) (.slice none 0 0) (.slice none 0 0) (.int .i64 0) (.int .i64 0) (.int .i64 2) (.slice (some ⟨w2.heap.size + 1,0,none⟩) 1 1)
        have UA:=hide ((UP.trans (SameUp.of ((Below.refl _ _).alloc (Nat.le_refl _) (.cells #[.int .i64 kind,.string attr,.slice q1 ints.length k1,.slice q2 words.length k2,.int .i64 lo,.int .i64 hi,.int .i64 1,.slice none 0 0] 28)))).trans (SameUp.of ((Below.refl _ _).alloc (Nat.le_refl _) (.cells #[.int .i64 kind,.string attr,.slice q1 ints.length k1,.slice q2 words.length k2,.int .i64 lo,.int .i64 hi,.int .i64 1,.slice none 0 0] 28))))
        have BA:=hide ((BF.alloc (by simp only [World.size_setCell];omega) (.cells #[.int .i64 kind,.string attr,.slice q1 ints.length k1,.slice q2 words.length k2,.int .i64 lo,.int .i64 hi,.int .i64 1,.slice none 0 0] 28)).alloc (by simp only [World.size_setCell,size_al];omega) (.cells #[.int .i64 kind,.string attr,.slice q1 ints.length k1,.slice q2 words.length k2,.int .i64 lo,.int .i64 hi,.int .i64 1,.slice none 0 0] 28))
        clear UP BF R2
        refine bodyPost_ret (v:=.agg #[.int .i64 0,.string ⟨#[]⟩,.slice none 0 0,.slice none 0 0,.int .i64 0,.int .i64 0,.int .i64 2,.slice (some ⟨w2.heap.size + 1,0,none⟩) 1 1]) (by simp [results,Try.results60,go_sem, *]) rfl ⟨⟨⟨0,⟨#[]⟩,none,0,0,none,0,0,0,0,2,some ⟨w2.heap.size + 1,0,none⟩,1,1⟩,rfl, ?_⟩,uh BA⟩
        exact (lit_neg (v:=⟨kind,attr,q1,ints.length,k1,q2,words.length,k2,lo,hi,1,none,0,0⟩) (box_at _ _ _ (by simp)) (by omega) (lit_pos (uh O1) (by simp only [drew_heap];omega) (uh O2) (uh B2) s1 (uh UA))).mono (by omega)
       exact AllReadyH.nil
      exact AllReadyH.nil
     exact AllReadyH.nil
    exact AllReadyH.nil
   exact AllReadyH.nil
  exact AllReadyH.nil
end Go.Proofs.Ytikhopiegaoacac
