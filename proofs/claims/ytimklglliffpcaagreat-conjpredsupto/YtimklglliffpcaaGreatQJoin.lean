/- What And, Or and Not answer, of any kids. -/
import Derived.Test.YtimklglliffpcaaGreatQZab
namespace Go.Proofs.YtimklglliffpcaaGreat
open Go.RowKit Go.Sort
set_option maxHeartbeats 2000000 in
theorem Rx (op:Int) (q:Option Addr) (c:Nat) (kids:List Nd) (w:World) (hk:NdsOf w q c kids) (hwt:wtL kids<=1000000000) :
  Calls Tryz.prog 98 #[.int .i64 op,.slice q kids.length c] w fun e w'=>NewT w.heap.size w' (At op kids) e/\Below w.heap.size w w':=by
 have B0:=d9 ((Below.refl w.heap.size w).alloc (Nat.le_refl _) (.cells #[.int .i64 0,.string ⟨#[]⟩,.slice none 0 0,.slice none 0 0,.int .i64 0,.int .i64 0,.int .i64 0,.slice none 0 0] 56))
 have hln:=pl kids
 have hln2:=po kids
 by_cases h0:kids.length=0
 ·obtain rfl:kids=[]:=List.length_eq_zero_iff.1 h0
  simp only [List.length_nil]
  clear hk h0 hln hln2
  go_enter Tryz.func98,Tryz.ntmps98
  go_wp2
  refine bodyPost_ret (v:=.agg #[.int .i64 0,.string ⟨#[]⟩,.slice none 0 0,.slice none 0 0,.int .i64 0,.int .i64 0,.int .i64 0,.slice none 0 0]) (by simp [results,Tryz.results98,go_sem, *]) rfl ?_
  exact ⟨⟨⟨0,⟨#[]⟩,none,0,0,none,0,0,0,0,0,none,0,0⟩,rfl,NdFrom.make (ints:=[]) (words:=[]) (kids:=[]) (vs:=[]) (SlOf.none _) li (SlOf.none _) li (SlOf.none _) li rfl (fun j v x h=>by simp at h)⟩,uh B0⟩
 ·have e0:((kids.length:Int) == 0)=false:=by simpa using h0
  by_cases h1:kids.length=1
  ·obtain ⟨x,rfl⟩:=List.length_eq_one_iff.1 h1
   obtain ⟨b,off,v,hq,hin,g0,g1,g2,g3,g4,g5,g6,g7⟩:=hk.on (j:=0) (x:=x) rfl (uh B0)
   subst hq
   have hcx:=Ew x v _ hin (by simp only [wtL] at hwt;omega)
   simp only [Nv.val] at hcx
   simp only [Nat.zero_mul,Nat.add_zero] at g0 g1 g2 g3 g4 g5 g6 g7
   simp only [List.length_cons,List.length_nil,Nat.zero_add,At]
   clear hk e0 h0 h1 hln hln2
   go_enter Tryz.func98,Tryz.ntmps98
   go_wp2_with (go_at_call 148;refine hcx.mono ?_;rintro e w1 ⟨v',rfl,f1,b1⟩;obtain ⟨z1,⟨r0,r1,r2,r3,r4,r5,r6,r7⟩,rf⟩:=Z6 b1;have F1:=d9 f1;have B1:=d9 b1;clear f1 b1)
   refine bodyPost_ret (v:=.agg #[.int .i64 v'.kind,.string v'.attr,.slice v'.qi v'.ni v'.ci,.slice v'.qw v'.nw v'.cw,.int .i64 v'.lo,.int .i64 v'.hi,.int .i64 v'.op,.slice v'.qk v'.nk v'.ck]) (by simp [results,Tryz.results98,go_sem, *]) rfl ?_
   refine ⟨⟨v',rfl, ?_⟩,j4 (d8 (uh B0) (uh B1)) (Nat.le_refl _) _ _ _ _ _ _ _ _⟩
   have f2:=uh F1
   simp only [World.size_alloc] at f2
   exact (f2.up (mo (B:=w.heap.size + 1) (g:=w.heap.size) _ (Nat.lt_succ_self _) _ _ _ _ _ _ _ _)).mono (Nat.le_succ _)
  ·have e1:((kids.length:Int) == 1)=false:=by simp;omega
   have hca:=yb q c kids _ (hk.below (uh B0)) (fun x _=>Ew x) hwt
   rw [Km op (by omega)]
   clear hk
   go_enter Tryz.func98,Tryz.ntmps98
   go_wp2_with (go_at_call 149;refine hca.mono ?_;rintro e w1 ⟨⟨q1,k1,vs1,rfl,o1,l1,f1⟩,b1⟩;obtain ⟨z1,⟨r0,r1,r2,r3,r4,r5,r6,r7⟩,rf⟩:=Z6 b1;have F1:=d9 f1;have B1:=d9 b1;have O1:=d9 o1;have L1:=d9 l1;clear f1 b1 o1 l1)
   refine bodyPost_ret (v:=.agg #[.int .i64 0,.string ⟨#[]⟩,.slice none 0 0,.slice none 0 0,.int .i64 0,.int .i64 0,.int .i64 op,.slice q1 kids.length k1]) (by simp [results,Tryz.results98,go_sem, *]) rfl ?_
   refine ⟨⟨⟨0,⟨#[]⟩,none,0,0,none,0,0,0,0,op,q1,kids.length,k1⟩,rfl, ?_⟩,j4 (d8 (uh B0) (uh B1)) (Nat.le_refl _) _ _ _ _ _ _ _ _⟩
   have f2:=uh F1
   simp only [World.size_alloc] at f2
   have g1:∀ a,q1=some a->w.heap.size + 1<=a.block:=fun a e=>by have:=(uh O1).from a e;simp at this;omega
   have u1:=fun a0 a1 a2 a3 a4 a5 a6 a7=>mo (B:=w.heap.size + 1) (g:=w.heap.size) w1 (Nat.lt_succ_self _) a0 a1 a2 a3 a4 a5 a6 a7
   exact (NdFrom.make (ints:=[]) (words:=[]) (kids:=kids) (vs:=vs1) (SlOf.none _) li (SlOf.none _) li ((uh O1).ls.up g1 (u1 _ _ _ _ _ _ _ _)) g1 (uh L1) (fun j v x hj hx=>(f2 j v x hj hx).up (u1 _ _ _ _ _ _ _ _))).mono (Nat.le_succ _)
set_option maxHeartbeats 1000000 in
theorem Z9 (q:Option Addr) (c:Nat) (kids:List Nd) (w:World) (hk:NdsOf w q c kids) (hwt:wtL kids<=1000000000) :
  Calls Tryz.prog 47 #[.slice q kids.length c] w fun e w'=>NewT w.heap.size w' (At 4 kids) e/\Below w.heap.size w w':=by
 have B0:=d9 ((Below.refl w.heap.size w).alloc (Nat.le_refl _) (.cells #[.int .i64 0,.string ⟨#[]⟩,.slice none 0 0,.slice none 0 0,.int .i64 0,.int .i64 0,.int .i64 0,.slice none 0 0] 56))
 have hj:=Rx 4 q c kids _ (hk.below (uh B0)) hwt
 clear hk
 go_enter Tryz.func47,Tryz.ntmps47
 go_wp2_with (go_at_call 98;refine hj.mono ?_;rintro e w1 ⟨⟨v',rfl,f1⟩,b1⟩;simp only [Nv.val];obtain ⟨z1,⟨r0,r1,r2,r3,r4,r5,r6,r7⟩,rf⟩:=Z6 b1;have F1:=d9 f1;have B1:=d9 b1;clear f1 b1)
 refine bodyPost_ret (v:=.agg #[.int .i64 v'.kind,.string v'.attr,.slice v'.qi v'.ni v'.ci,.slice v'.qw v'.nw v'.cw,.int .i64 v'.lo,.int .i64 v'.hi,.int .i64 v'.op,.slice v'.qk v'.nk v'.ck]) (by simp [results,Tryz.results47,go_sem, *]) rfl ?_
 refine ⟨⟨v',rfl, ?_⟩,j4 (d8 (uh B0) (uh B1)) (Nat.le_refl _) _ _ _ _ _ _ _ _⟩
 have f2:=uh F1
 simp only [World.size_alloc] at f2
 exact (f2.up (mo (B:=w.heap.size + 1) (g:=w.heap.size) _ (Nat.lt_succ_self _) _ _ _ _ _ _ _ _)).mono (Nat.le_succ _)
def Z3 (x:Nd):Nd:=.mk 0 ⟨#[]⟩ [] [] 0 0 2 [x]
end Go.Proofs.YtimklglliffpcaaGreat
