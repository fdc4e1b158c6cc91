/- Trees in rows of their own, as OverNode wants them; the reference's Push and what its answer hangs on. -/
import Derived.Test.YtikhopiegaoacabOOvT
import Derived.Test.YtikhopiegaoacabOPushPlays
namespace Go.Proofs.Ytikhopiegaoacab
open Go.RowKit Go.Sort

set_option maxRecDepth 100000 in
set_option maxHeartbeats 4000000 in
theorem refPush_foot (x:Nd) (v:Nv) (w0 w:World) (hin0:NdIn w0 v x) (h0w:Below w0.heap.size w0 w) (hwt:wtN x≤1000000000) :
  Calls Try.prog 7 #[.agg #[.int .i64 v.kind,.string v.attr,.slice v.qi v.ni v.ci,.slice v.qw v.nw v.cw,.int .i64 v.lo,.int .i64 v.hi,.int .i64 v.op,.slice v.qk v.nk v.ck]] w fun e w'=>(∃ v',e=.returned (.tuple #[v'.val,.int .i64 (code (chkN x))])∧Foot w0.heap.size w.heap.size w' v' (PushT x))∧Below w.heap.size w w':=by
 have hin:=hin0.keep h0w
 have h0z:w0.heap.size≤w.heap.size:=h0w.size
 obtain ⟨X,HX⟩:∃ X,(w.alloc (.cells #[.int .i64 v.kind,.string v.attr,.slice v.qi v.ni v.ci,.slice v.qw v.nw v.cw,.int .i64 v.lo,.int .i64 v.hi,.int .i64 v.op,.slice v.qk v.nk v.ck] 28)).alloc (.cells #[.int .i64 0,.string ⟨#[]⟩,.slice none 0 0,.slice none 0 0,.int .i64 0,.int .i64 0,.int .i64 0,.slice none 0 0] 28)=X:=⟨_,rfl⟩
 obtain ⟨hX0,hX1,hwX,hXs⟩:=twoM HX
 obtain ⟨x0,x1,x2,x3,x4,x5,x6,x7⟩:=of8' hX0
 obtain ⟨y0,y1,y2,y3,y4,y5,y6,y7⟩:=of8' hX1
 have yf:∀ o,X.frozen? ⟨w.heap.size + 1,o,none⟩=false:=fun o=>frozen_free hX1
 have hz1:w.heap.size + 1 < X.heap.size:=by omega
 have hz0:w.heap.size < X.heap.size:=by omega
 have hc:=rchk_any x v X (hin.keep hwX) hwt
 have HWX:=hide hwX
 have HX0:=hide hX0
 simp only [Nv.val] at hc
 unfold PushT
 cases hx:chkN x
 ·rw [hx] at hc
  simp only [Bool.false_eq_true,if_false]
  simp only [show code false=1 from rfl]
  clear hin hin0 h0w hwX hX0 hX1
  go_enter Try.func7,Try.ntmps7
  go_wp2_with (go_at_call 23;refine hc.mono ?_;rintro e w1 ⟨rfl,b1⟩;obtain ⟨r0,r1,r2,r3,r4,r5,r6,r7⟩:w1.cell? ⟨w.heap.size + 1,0,none⟩=some (.int .i64 0)∧w1.cell? ⟨w.heap.size + 1,1,none⟩=some (.string ⟨#[]⟩)∧w1.cell? ⟨w.heap.size + 1,2,none⟩=some (.slice none 0 0)∧w1.cell? ⟨w.heap.size + 1,3,none⟩=some (.slice none 0 0)∧w1.cell? ⟨w.heap.size + 1,4,none⟩=some (.int .i64 0)∧w1.cell? ⟨w.heap.size + 1,5,none⟩=some (.int .i64 0)∧w1.cell? ⟨w.heap.size + 1,6,none⟩=some (.int .i64 0)∧w1.cell? ⟨w.heap.size + 1,7,none⟩=some (.slice none 0 0):=⟨(b1.cell (by exact hz1)).trans y0,(b1.cell (by exact hz1)).trans y1,(b1.cell (by exact hz1)).trans y2,(b1.cell (by exact hz1)).trans y3,(b1.cell (by exact hz1)).trans y4,(b1.cell (by exact hz1)).trans y5,(b1.cell (by exact hz1)).trans y6,(b1.cell (by exact hz1)).trans y7⟩;have rf:∀ o,w1.frozen? ⟨w.heap.size + 1,o,none⟩=false:=(fun o=>(b1.frozen (by exact hz1)).trans (yf o));have rz:w.heap.size + 1 < w1.heap.size:=(by have:=b1.size;omega);have B1:=hide b1;clear b1)
  refine bodyPost_ret (v:=.tuple #[.agg #[.int .i64 0,.string ⟨#[]⟩,.slice none 0 0,.slice none 0 0,.int .i64 0,.int .i64 0,.int .i64 0,.slice none 0 0],.int .i64 1]) (by simp [results,Try.results7,go_sem, *]) rfl ⟨⟨⟨0,⟨#[]⟩,none,0,0,none,0,0,0,0,0,none,0,0⟩,rfl,fun w' _ _=>zero_in w'⟩,set8_below (g:=w.heap.size + 1) (below_sub (uh HWX) (uh B1)) (Nat.le_succ _) _ _ _ _ _ _ _ _⟩
 ·have hD:=fun (W:World) (hW:Below X.heap.size X W)=>rdown_any x false v w0 W hin0 (below_sub h0w (below_sub hwX hW)) hx hwt
  rw [hx] at hc
  simp only [Nv.val] at hD
  simp only [if_true]
  simp only [show code true=0 from rfl]
  clear hin hin0 h0w hwX hX0 hX1
  go_enter Try.func7,Try.ntmps7
  go_wp2_with (first
   | (go_at_call 23;refine hc.mono ?_;rintro e w1 ⟨rfl,b1⟩;obtain ⟨s0,s1,s2,s3,s4,s5,s6,s7⟩:=of8' ((b1.block _ hz0).trans (uh HX0));have B1:=hide b1;clear b1)
   | (go_at_call 24;refine (hD _ (uh B1)).mono ?_;rintro e w2 ⟨⟨u,rfl,hu⟩,b2'⟩;simp only;have b2:=below_sub (uh B1) b2';obtain ⟨r0,r1,r2,r3,r4,r5,r6,r7⟩:w2.cell? ⟨w.heap.size + 1,0,none⟩=some (.int .i64 0)∧w2.cell? ⟨w.heap.size + 1,1,none⟩=some (.string ⟨#[]⟩)∧w2.cell? ⟨w.heap.size + 1,2,none⟩=some (.slice none 0 0)∧w2.cell? ⟨w.heap.size + 1,3,none⟩=some (.slice none 0 0)∧w2.cell? ⟨w.heap.size + 1,4,none⟩=some (.int .i64 0)∧w2.cell? ⟨w.heap.size + 1,5,none⟩=some (.int .i64 0)∧w2.cell? ⟨w.heap.size + 1,6,none⟩=some (.int .i64 0)∧w2.cell? ⟨w.heap.size + 1,7,none⟩=some (.slice none 0 0):=⟨(b2.cell (by exact hz1)).trans y0,(b2.cell (by exact hz1)).trans y1,(b2.cell (by exact hz1)).trans y2,(b2.cell (by exact hz1)).trans y3,(b2.cell (by exact hz1)).trans y4,(b2.cell (by exact hz1)).trans y5,(b2.cell (by exact hz1)).trans y6,(b2.cell (by exact hz1)).trans y7⟩;have rf:∀ o,w2.frozen? ⟨w.heap.size + 1,o,none⟩=false:=(fun o=>(b2.frozen (by exact hz1)).trans (yf o));have rz:w.heap.size + 1 < w2.heap.size:=(by have:=b2.size;omega);have HU:=hide hu;have B2:=hide b2;have S1:=hide (uh B1).size;clear hu b2 b2'))
  refine bodyPost_ret (v:=.tuple #[.agg #[.int .i64 u.kind,.string u.attr,.slice u.qi u.ni u.ci,.slice u.qw u.nw u.cw,.int .i64 u.lo,.int .i64 u.hi,.int .i64 u.op,.slice u.qk u.nk u.ck],.int .i64 0]) (by simp [results,Try.results7,go_sem, *]) rfl ⟨⟨u,rfl,(foot_set8 (gg:=w.heap.size + 1) (uh HU) (by omega) (by have:=uh S1;omega) _ _ _ _ _ _ _ _).mono (by have:=uh S1;omega)⟩,set8_below (g:=w.heap.size + 1) (below_sub (uh HWX) (uh B2)) (Nat.le_succ _) _ _ _ _ _ _ _ _⟩
theorem RT.up {B B':Nat} {w:World}:∀ (n:Nat) (v:Nv),RT B B' w n v→RT B B' w (n + 1) v:=by
 intro n
 induction n with
 | zero=>intro v h;cases h
 | succ n ih =>
  intro v h
  cases h with
  | mk us a b c d e f=>exact .mk us a b c d e fun i hi=>ih _ (f i hi)
theorem RT.le {B B':Nat} {w:World} {n m:Nat} {v:Nv} (h:RT B B' w n v) (hm:n≤m):RT B B' w m v:=by
 obtain ⟨k,rfl⟩:∃ k,m=n + k:=⟨m - n,by omega⟩
 clear hm
 induction k with
 | zero=>exact h
 | succ k ih=>exact RT.up _ _ ih
theorem rt_all {B B':Nat} {w:World}:∀ (vs:List Nv),(∀ u ∈ vs,∃ n,RT B B' w n u)→∃ n,∀ u ∈ vs,RT B B' w n u
 | [],_=>⟨0,fun u h=>by simp at h⟩
 | v :: vs,h=>by
  obtain ⟨n,hn⟩:=h v (by simp)
  obtain ⟨m,hm⟩:=rt_all vs fun u hu=>h u (by simp [hu])
  refine ⟨n + m,fun u hu=>?_⟩
  rcases List.mem_cons.1 hu with rfl | hu
  ·exact hn.le (Nat.le_add_right _ _)
  ·exact (hm u hu).le (Nat.le_add_left _ _)
theorem rt_mk {B B':Nat} {w:World} {v:Nv} {vs:List Nv} (h1:Raw 3 1 B B' w v.qi v.ni v.ci) (h2:Raw 9 1 B B' w v.qw v.nw v.cw) (h3:Raw 28 8 B B' w v.qk v.nk v.ck) (hb:v.ni≤1000000000∧v.nw≤1000000000∧v.nk≤1000000000) (hl:vs.length=v.nk) (hc:∀ g,v.qk=some ⟨g,0,none⟩→∀ (j c:Nat) (u:Nv),vs[j]? = some u→c < 8→w.cell? ⟨g,j * 8 + c,none⟩=some ((encV u)[c]!)) (hr:∀ u ∈ vs,∃ n,RT B B' w n u):∃ n,RT B B' w n v:=by
 obtain ⟨n,hn⟩:=rt_all vs hr
 have hg:∀ i,i < v.nk→vs[i]? = some (vs.getD i v):=fun i hi=>by
  have hi':i < vs.length:=by omega
  rw [List.getD_eq_getElem?_getD,List.getElem?_eq_getElem hi']
  rfl
 exact ⟨n + 1,.mk (fun i=>vs.getD i v) h1 h2 h3 hb (fun g hq i c hi hcc=>hc g hq i c _ (hg i hi) hcc) fun i hi=>hn _ (List.mem_of_getElem? (hg i hi))⟩
theorem own_rt {α:Type} [Inhabited α] {enc:α→List Value} {e:TypeId} {k B:Nat} {w:World} {q:Option Addr} {c:Nat} {l:List α} (h:OwnK enc e k B w q c l):Raw e k B w.heap.size w q l.length c:=h.raw (Nat.le_refl _) (Wr.refl [] 0 0 w)
theorem NdFrom.rt:∀ (t:Nd) (w:World) (B:Nat) (v:Nv),NdFrom w B v t→wtN t≤1000000000→∃ n,RT B w.heap.size w n v:=by
 intro t
 induction t using Nd.ind with
 | h kind attr ints words lo hi op kids ih =>
  intro w B v h hwt
  simp only [wtN] at hwt
  have z1:=words_len words
  have z2:=len_size kids
  have z3:=sizeL_wt kids
  cases h with
  | mk a b c hl hr =>
   refine rt_mk (own_rt a) (own_rt b) (hl ▸ own_rt c) ⟨by simp only;omega,by simp only;omega,by simp only;omega⟩ hl (fun g hq j d u hj hd=>?_) fun u hu=>?_
   ·obtain ⟨b',off,hq2,_,hA⟩:=(c.ls.2.2.2).at hj
    simp only at hq
    rw [hq] at hq2
    injection hq2 with hq2
    injection hq2 with e1 e2
    subst e1 e2
    have:=hA d hd
    rwa [Nat.zero_add] at this
   ·obtain ⟨j,hj,rfl⟩:=List.mem_iff_getElem.1 hu
    have hx:kids[j]? = some (kids[j]'(by omega)):=List.getElem?_eq_getElem _
    have hm:=List.mem_of_getElem? hx
    exact ih _ hm w B _ (hr j _ _ (List.getElem?_eq_getElem hj) hx) (by have:=wtL_mem hm;omega)
theorem lsb_rt {α:Type} [Inhabited α] {enc:α→List Value} {e:TypeId} {k B g c n:Nat} {w:World} {l:List α} (h:LsB enc e k w g c l) (hB:B≤g) (h1:n≤c) (h2:c≤maxLen):Raw e k B w.heap.size w (some ⟨g,0,none⟩) n c:=by
 obtain ⟨_,cur,h3,h4⟩:=h
 exact Or.inr ⟨g,cur,rfl,hB,blk_lt h3,h3,h1,h2,h4⟩
theorem SpIn.rt:∀ (t:Nd) (w:World) (B:Nat) (v:Nv),SpIn w B v t→wtN t≤1000000000→∃ n,RT B w.heap.size w n v:=by
 intro t
 induction t using Nd.ind with
 | h kind attr ints words lo hi op kids ih =>
  intro w B v h hwt
  simp only [wtN] at hwt
  have z1:=words_len words
  have z2:=len_size kids
  have z3:=sizeL_wt kids
  cases h with
  | @mk _ _ _ _ _ _ _ _ _ _ _ _ _ _ vs a1 a2 a3 b1 b2 b3 c1 c2 c3 hl hr d1 d2 d3 =>
   refine rt_mk (vs:=vs) (lsb_rt a1 d1 (Nat.le_trans (Nat.le_add_right _ 2) a2) a3) (lsb_rt b1 d2 (Nat.le_trans (Nat.le_add_right _ 2) b2) b3) (lsb_rt c1 d3 (Nat.le_trans (Nat.le_add_right _ 1) c2) c3) ⟨by simp only;omega,by simp only;omega,by simp only;omega⟩ hl (fun g hq j d u hj hd=>?_) fun u hu=>?_
   ·have hj2:(vs ++ [spV])[j]? = some u:=by rw [List.getElem?_append_left (List.getElem?_eq_some_iff.1 hj).1];exact hj
    obtain ⟨b',off,hq2,_,hA⟩:=c1.1.at hj2
    simp only at hq
    rw [hq] at hq2
    injection hq2 with hq2
    injection hq2 with e1 e2
    subst e1 e2
    have:=hA d hd
    rwa [Nat.zero_add] at this
   ·obtain ⟨j,hj,rfl⟩:=List.mem_iff_getElem.1 hu
    have hx:kids[j]? = some (kids[j]'(by omega)):=List.getElem?_eq_getElem _
    have hm:=List.mem_of_getElem? hx
    exact ih _ hm w B _ (hr j _ _ (List.getElem?_eq_getElem hj) hx) (by have:=wtL_mem hm;omega)
/-- A tree that is written over stays one that may be. -/
theorem RT.keep {B B' n:Nat} {w w':World} {v:Nv} (h:RT B B' w n v) (hb:Below w.heap.size w w'):RT B B' w' n v:=Pse.wr (Wr.of_below [] 0 0 hb) (by simp) _ _ _ _ h
/-- What lies in later blocks stays. -/
theorem NdFrom.past {S:List TypeId} {B B' C:Nat} {w w':World} {v:Nv} {t:Nd} (h:NdFrom w C v t) (hw:Wr S B B' w w') (hC:B'≤C):NdFrom w' C v t:=h.up ⟨hw.size,fun b h1 h2=>hw.past b h2 (Or.inr (Nat.le_trans hC h1))⟩
theorem Foot.past {S:List TypeId} {B B' B0 B1:Nat} {w w':World} {v:Nv} {t:Nd} (h:Foot B0 B1 w v t) (hw:Wr S B B' w w') (h0:B0≤B) (h1:B'≤B1):Foot B0 B1 w' v t:=h.step hw.size fun b hb hlt=>hw.past b hlt (hb.imp (fun h=>by omega) (fun h=>by omega))
theorem Foot.keep {B0 B1:Nat} {w w':World} {v:Nv} {t:Nd} (h:Foot B0 B1 w v t) (hb:Below w.heap.size w w'):Foot B0 B1 w' v t:=h.step hb.size fun b _ hlt=>hb.block b hlt
end Go.Proofs.Ytikhopiegaoacab
