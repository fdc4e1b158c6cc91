/- The reference's down: predicates and negations. -/
import Derived.Test.YtikhopiegaoacabORefDown
namespace Go.Proofs.Ytikhopiegaoacab
open Go.RowKit Go.Sort

set_option maxRecDepth 100000 in
set_option maxHeartbeats 4000000 in
theorem rdown_not (kind:Int) (attr:ByteArray) (qi:Option Addr) (ci:Nat) (ints:List Int) (qw:Option Addr) (cw:Nat) (words:List ByteArray) (lo hi:Int) (qk:Option Addr) (ck:Nat) (x:Nd) (neg:Bool) (w0 w:World) (hk:NdsOf w0 qk ck [x]) (hb0:Below w0.heap.size w0 w) (ih:RDownP x) (hc:chkN x=true) (l3:wtN x≤1000000000) :
  Calls Try.prog 24 #[.agg #[.int .i64 kind,.string attr,.slice qi ints.length ci,.slice qw words.length cw,.int .i64 lo,.int .i64 hi,.int .i64 2,.slice qk 1 ck],.bool neg] w fun e w'=>(∃ u,e=.returned u.val∧Foot w0.heap.size w.heap.size w' u (downN x (!neg)))∧Below w.heap.size w w':=by
 obtain ⟨X,HX⟩:∃ X,(w.alloc (.cells #[.int .i64 kind,.string attr,.slice qi ints.length ci,.slice qw words.length cw,.int .i64 lo,.int .i64 hi,.int .i64 2,.slice qk 1 ck] 28)).alloc (.cells #[.int .i64 0,.string ⟨#[]⟩,.slice none 0 0,.slice none 0 0,.int .i64 0,.int .i64 0,.int .i64 0,.slice none 0 0] 28)=X:=⟨_,rfl⟩
 obtain ⟨hX0,hX1,hwX,hXs⟩:=twoM HX
 obtain ⟨x0,x1,x2,x3,x4,x5,x6,x7⟩:=of8' hX0
 obtain ⟨y0,y1,y2,y3,y4,y5,y6,y7⟩:=of8' hX1
 have yf:∀ o,X.frozen? ⟨w.heap.size + 1,o,none⟩=false:=fun o=>frozen_free hX1
 have hz1:w.heap.size + 1 < X.heap.size:=by omega
 have HWX:=hide hwX
 obtain ⟨b,off,v,hq,hbb,hin,g0,g1,g2,g3,g4,g5,g6,g7⟩:=hk.at (j:=0) (x:=x) rfl
 subst hq
 simp only [Nat.zero_mul,Nat.add_zero] at g0 g1 g2 g3 g4 g5 g6 g7
 have b0X:=below_sub hb0 hwX
 have k0:=(b0X.cell (p:=⟨b,off,none⟩) hbb).trans g0
 have k1:=(b0X.cell (p:=⟨b,off + 1,none⟩) hbb).trans g1
 have k2:=(b0X.cell (p:=⟨b,off + 2,none⟩) hbb).trans g2
 have k3:=(b0X.cell (p:=⟨b,off + 3,none⟩) hbb).trans g3
 have k4:=(b0X.cell (p:=⟨b,off + 4,none⟩) hbb).trans g4
 have k5:=(b0X.cell (p:=⟨b,off + 5,none⟩) hbb).trans g5
 have k6:=(b0X.cell (p:=⟨b,off + 6,none⟩) hbb).trans g6
 have k7:=(b0X.cell (p:=⟨b,off + 7,none⟩) hbb).trans g7
 have hL:=ih (!neg) v w0 X hin b0X hc l3
 simp only [Nv.val] at hL
 have h00:=hb0.size
 clear hk ih hwX hX0 hX1 hin g0 g1 g2 g3 g4 g5 g6 g7 b0X hb0
 go_enter Try.func24,Try.ntmps24
 go_wp2_with (go_at_call 24;refine hL.mono ?_;rintro e w1 ⟨⟨u,rfl,hu⟩,b1⟩;simp only;obtain ⟨r0,r1,r2,r3,r4,r5,r6,r7⟩:w1.cell? ⟨w.heap.size + 1,0,none⟩=some (.int .i64 0)∧w1.cell? ⟨w.heap.size + 1,1,none⟩=some (.string ⟨#[]⟩)∧w1.cell? ⟨w.heap.size + 1,2,none⟩=some (.slice none 0 0)∧w1.cell? ⟨w.heap.size + 1,3,none⟩=some (.slice none 0 0)∧w1.cell? ⟨w.heap.size + 1,4,none⟩=some (.int .i64 0)∧w1.cell? ⟨w.heap.size + 1,5,none⟩=some (.int .i64 0)∧w1.cell? ⟨w.heap.size + 1,6,none⟩=some (.int .i64 0)∧w1.cell? ⟨w.heap.size + 1,7,none⟩=some (.slice none 0 0):=⟨(b1.cell (by exact hz1)).trans y0,(b1.cell (by exact hz1)).trans y1,(b1.cell (by exact hz1)).trans y2,(b1.cell (by exact hz1)).trans y3,(b1.cell (by exact hz1)).trans y4,(b1.cell (by exact hz1)).trans y5,(b1.cell (by exact hz1)).trans y6,(b1.cell (by exact hz1)).trans y7⟩;have rf:∀ o,w1.frozen? ⟨w.heap.size + 1,o,none⟩=false:=(fun o=>(b1.frozen (by exact hz1)).trans (yf o));have rz:w.heap.size + 1 < w1.heap.size:=(by have:=b1.size;omega);have HU:=hide hu;have B1:=hide b1;clear hu b1)
 refine bodyPost_ret (v:=.agg #[.int .i64 u.kind,.string u.attr,.slice u.qi u.ni u.ci,.slice u.qw u.nw u.cw,.int .i64 u.lo,.int .i64 u.hi,.int .i64 u.op,.slice u.qk u.nk u.ck]) (by simp [results,Try.results24,go_sem, *]) rfl ⟨⟨u,rfl,(foot_set8 (gg:=w.heap.size + 1) (uh HU) (by omega) (by omega) _ _ _ _ _ _ _ _).mono (by omega)⟩,set8_below (g:=w.heap.size + 1) (below_sub (uh HWX) (uh B1)) (Nat.le_succ _) _ _ _ _ _ _ _ _⟩
set_option maxRecDepth 100000 in
set_option maxHeartbeats 4000000 in
theorem rdown_pos (kind:Int) (attr:ByteArray) (qi:Option Addr) (ci:Nat) (ints:List Int) (qw:Option Addr) (cw:Nat) (words:List ByteArray) (lo hi:Int) (qk:Option Addr) (ck:Nat) (w0 w:World) (hin:NdIn w0 ⟨kind,attr,qi,ints.length,ci,qw,words.length,cw,lo,hi,1,qk,0,ck⟩ (.mk kind attr ints words lo hi 1 [])) (hb0:Below w0.heap.size w0 w) :
  Calls Try.prog 24 #[.agg #[.int .i64 kind,.string attr,.slice qi ints.length ci,.slice qw words.length cw,.int .i64 lo,.int .i64 hi,.int .i64 1,.slice qk 0 ck],.bool false] w fun e w'=>(∃ u,e=.returned u.val∧Foot w0.heap.size w.heap.size w' u (.mk kind attr ints words lo hi 1 []))∧Below w.heap.size w w':=by
 obtain ⟨X,HX⟩:∃ X,(w.alloc (.cells #[.int .i64 kind,.string attr,.slice qi ints.length ci,.slice qw words.length cw,.int .i64 lo,.int .i64 hi,.int .i64 1,.slice qk 0 ck] 28)).alloc (.cells #[.int .i64 0,.string ⟨#[]⟩,.slice none 0 0,.slice none 0 0,.int .i64 0,.int .i64 0,.int .i64 0,.slice none 0 0] 28)=X:=⟨_,rfl⟩
 obtain ⟨hX0,hX1,hwX,hXs⟩:=twoM HX
 obtain ⟨x0,x1,x2,x3,x4,x5,x6,x7⟩:=of8' hX0
 obtain ⟨y0,y1,y2,y3,y4,y5,y6,y7⟩:=of8' hX1
 have yf:∀ o,X.frozen? ⟨w.heap.size + 1,o,none⟩=false:=fun o=>frozen_free hX1
 have hz1:w.heap.size + 1 < X.heap.size:=by omega
 have HWX:=hide hwX
 have BF:=hide (set8_below (g:=w.heap.size + 1) hwX (Nat.le_succ _) (.int .i64 kind) (.string attr) (.slice qi ints.length ci) (.slice qw words.length cw) (.int .i64 lo) (.int .i64 hi) (.int .i64 1) (.slice qk 0 ck))
 have FF:=hide (Foot.of (B1:=w.heap.size) hin (below_sub hb0 (uh BF)))
 clear hin hb0 hwX hX0 hX1
 go_enter Try.func24,Try.ntmps24
 go_wp2
 refine bodyPost_ret (v:=.agg #[.int .i64 kind,.string attr,.slice qi ints.length ci,.slice qw words.length cw,.int .i64 lo,.int .i64 hi,.int .i64 1,.slice qk 0 ck]) (by simp [results,Try.results24,go_sem, *]) rfl ⟨⟨_,rfl,uh FF⟩,uh BF⟩
set_option maxRecDepth 100000 in
set_option maxHeartbeats 4000000 in
theorem rdown_neg (kind:Int) (attr:ByteArray) (qi:Option Addr) (ci:Nat) (ints:List Int) (qw:Option Addr) (cw:Nat) (words:List ByteArray) (lo hi:Int) (qk:Option Addr) (ck:Nat) (w0 w:World) (hin:NdIn w0 ⟨kind,attr,qi,ints.length,ci,qw,words.length,cw,lo,hi,1,qk,0,ck⟩ (.mk kind attr ints words lo hi 1 [])) (hb0:Below w0.heap.size w0 w) :
  Calls Try.prog 24 #[.agg #[.int .i64 kind,.string attr,.slice qi ints.length ci,.slice qw words.length cw,.int .i64 lo,.int .i64 hi,.int .i64 1,.slice qk 0 ck],.bool true] w fun e w'=>(∃ u,e=.returned u.val∧Foot w0.heap.size w.heap.size w' u (notT (.mk kind attr ints words lo hi 1 [])))∧Below w.heap.size w w':=by
 obtain ⟨X,HX⟩:∃ X,(w.alloc (.cells #[.int .i64 kind,.string attr,.slice qi ints.length ci,.slice qw words.length cw,.int .i64 lo,.int .i64 hi,.int .i64 1,.slice qk 0 ck] 28)).alloc (.cells #[.int .i64 0,.string ⟨#[]⟩,.slice none 0 0,.slice none 0 0,.int .i64 0,.int .i64 0,.int .i64 0,.slice none 0 0] 28)=X:=⟨_,rfl⟩
 obtain ⟨hX0,hX1,hwX,hXs⟩:=twoM HX
 obtain ⟨x0,x1,x2,x3,x4,x5,x6,x7⟩:=of8' hX0
 obtain ⟨y0,y1,y2,y3,y4,y5,y6,y7⟩:=of8' hX1
 have yf:∀ o,X.frozen? ⟨w.heap.size + 1,o,none⟩=false:=fun o=>frozen_free hX1
 have hz1:w.heap.size + 1 < X.heap.size:=by omega
 have HWX:=hide hwX
 have BF:=hide ((set8_below (g:=w.heap.size + 1) hwX (Nat.le_succ _) (.int .i64 0) (.string ⟨#[]⟩) (.slice none 0 0) (.slice none 0 0) (.int .i64 0) (.int .i64 0) (.int .i64 2) (.slice (some ⟨w.heap.size + 2,0,none⟩) 1 1)).alloc (by simp only [World.size_setCell];omega) (.cells #[.int .i64 kind,.string attr,.slice qi ints.length ci,.slice qw words.length cw,.int .i64 lo,.int .i64 hi,.int .i64 1,.slice qk 0 ck] 28))
 have FF:=hide (Foot.of (B1:=w.heap.size) hin (below_sub hb0 (uh BF)))
 have hsz:((((((((X.setCell ⟨w.heap.size + 1,0,none⟩ (.int .i64 0)).setCell ⟨w.heap.size + 1,1,none⟩ (.string ⟨#[]⟩)).setCell ⟨w.heap.size + 1,2,none⟩ (.slice none 0 0)).setCell ⟨w.heap.size + 1,3,none⟩ (.slice none 0 0)).setCell ⟨w.heap.size + 1,4,none⟩ (.int .i64 0)).setCell ⟨w.heap.size + 1,5,none⟩ (.int .i64 0)).setCell ⟨w.heap.size + 1,6,none⟩ (.int .i64 2)).setCell ⟨w.heap.size + 1,7,none⟩ (.slice (some ⟨w.heap.size + 2,0,none⟩) 1 1)).heap.size=w.heap.size + 2:=by simp only [World.size_setCell];exact hXs
 have NB:=box_nw ((((((((X.setCell ⟨w.heap.size + 1,0,none⟩ (.int .i64 0)).setCell ⟨w.heap.size + 1,1,none⟩ (.string ⟨#[]⟩)).setCell ⟨w.heap.size + 1,2,none⟩ (.slice none 0 0)).setCell ⟨w.heap.size + 1,3,none⟩ (.slice none 0 0)).setCell ⟨w.heap.size + 1,4,none⟩ (.int .i64 0)).setCell ⟨w.heap.size + 1,5,none⟩ (.int .i64 0)).setCell ⟨w.heap.size + 1,6,none⟩ (.int .i64 2)).setCell ⟨w.heap.size + 1,7,none⟩ (.slice (some ⟨w.heap.size + 2,0,none⟩) 1 1)) (.cells #[.int .i64 kind,.string attr,.slice qi ints.length ci,.slice qw words.length cw,.int .i64 lo,.int .i64 hi,.int .i64 1,.slice qk 0 ck] 28)
 rw [hsz] at NB
 have NF:=hide (foot_not (M:=w.heap.size + 2) (B1:=w.heap.size) (v:=⟨kind,attr,qi,ints.length,ci,qw,words.length,cw,lo,hi,1,qk,0,ck⟩) NB (by omega) (uh FF))
 clear hin hb0 hwX hX0 hX1 hsz NB
 go_enter Try.func24,Try.ntmps24
 go_wp2
 refine bodyPost_ret (v:=.agg #[.int .i64 0,.string ⟨#[]⟩,.slice none 0 0,.slice none 0 0,.int .i64 0,.int .i64 0,.int .i64 2,.slice (some ⟨w.heap.size + 2,0,none⟩) 1 1]) (by simp [results,Try.results24,go_sem, *]) rfl ⟨⟨_,rfl,uh NF⟩,uh BF⟩
theorem rdown_any:∀ x,RDownP x:=by
 intro t
 induction t using Nd.ind with
 | h kind attr ints words lo hi op kids ih =>
  intro neg v w0 w hin hb hc hwt
  obtain ⟨qi,ci,qw,cw,qk,ck,rfl,h1,h2,hk⟩:=hin.parts
  simp only [wtN] at hwt
  rcases chk_parts hc with ⟨rfl,rfl,_⟩ | ⟨rfl,⟨x,rfl,hx⟩,_⟩ | ⟨ho,_,hl,_⟩
  ·cases neg
   ·have:=rdown_pos kind attr qi ci ints qw cw words lo hi qk ck w0 w hin hb
    simpa [downN,litT,Nv.val] using this
   ·have:=rdown_neg kind attr qi ci ints qw cw words lo hi qk ck w0 w hin hb
    simpa [downN,litT,Nv.val] using this
  ·have:=rdown_not kind attr qi ci ints qw cw words lo hi qk ck x neg w0 w hk hb (ih x (by simp)) hx (by simp only [wtL] at hwt;omega)
   simpa [downN,downH,Nv.val] using this
  ·have:=rdown_many kind attr qi ci ints qw cw words lo hi op _ qk ck kids neg w0 w hk hb ih (chkL_all hl) (by omega) ho rfl
   rw [down_34 ho]
   have e:(if neg=true then otherI op else op)=(if neg=true then 7 - op else op):=by rcases ho with rfl | rfl <;> cases neg <;> rfl
   rw [e]
   simpa only [Nv.val] using this
end Go.Proofs.Ytikhopiegaoacab
