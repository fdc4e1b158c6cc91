/- What And, Or and Not answer, of any kids. -/
import Derived.Test.YtikhopiegaoacacDZad
namespace Go.Proofs.Ytikhopiegaoacac
open Go.RowKit Go.Sort

set_option maxHeartbeats 2000000 in
theorem join_any (op:Int) (q:Option Addr) (c:Nat) (kids:List Nd) (w:World) (hk:NdsOf w q c kids) (hwt:wtL kids≤1000000000) :
    Calls Try.prog 31 #[.int .i64 op,.slice q kids.length c] w fun e w'=>NewT w.heap.size w' (joinT op kids) e∧Below w.heap.size w w':=by
  have B0:=hide ((Below.refl w.heap.size w).alloc (Nat.le_refl _) (.cells #[.int .i64 0,.string ⟨#[]⟩,.slice none 0 0,.slice none 0 0,.int .i64 0,.int .i64 0,.int .i64 0,.slice none 0 0] 28))
  have hln:=len_size kids
  have hln2:=sizeL_wt kids
  by_cases h0:kids.length=0
  · obtain rfl:kids=[]:=List.length_eq_zero_iff.1 h0
    simp only [List.length_nil]
    clear hk h0 hln hln2
    go_enter Try.func31,Try.ntmps31
    go_wp2
    refine bodyPost_ret (v:=.agg #[.int .i64 0,.string ⟨#[]⟩,.slice none 0 0,.slice none 0 0,.int .i64 0,.int .i64 0,.int .i64 0,.slice none 0 0]) (by simp [results,Try.results31,go_sem, *]) rfl ?_
    exact ⟨⟨⟨0,⟨#[]⟩,none,0,0,none,0,0,0,0,0,none,0,0⟩,rfl,NdFrom.make (ints:=[]) (words:=[]) (kids:=[]) (vs:=[]) (OwnK.nil _ _) (OwnK.nil _ _) (OwnK.nil _ _) rfl (fun j v x h=>by simp at h)⟩,uh B0⟩
  · have e0:((kids.length:Int) == 0)=false:=by simpa using h0
    by_cases h1:kids.length=1
    · obtain ⟨x,rfl⟩:=List.length_eq_one_iff.1 h1
      obtain ⟨b,off,v,hq,hin,g0,g1,g2,g3,g4,g5,g6,g7⟩:=hk.on (j:=0) (x:=x) rfl (uh B0)
      subst hq
      have hcx:=clone_any x v _ hin (by simp only [wtL] at hwt;omega)
      simp only [Nv.val] at hcx
      simp only [Nat.zero_mul,Nat.add_zero] at g0 g1 g2 g3 g4 g5 g6 g7
      simp only [List.length_cons,List.length_nil,Nat.zero_add,joinT]
      clear hk e0 h0 h1 hln hln2
      go_enter Try.func31,Try.ntmps31
      go_wp2_with (go_at_call 32;refine hcx.mono ?_;rintro e w1 ⟨v',rfl,f1,b1⟩;obtain ⟨z1,⟨r0,r1,r2,r3,r4,r5,r6,r7⟩,rf⟩:=boxR b1;have F1:=hide f1;have B1:=hide b1;clear f1 b1)
      refine bodyPost_ret (v:=.agg #[.int .i64 v'.kind,.string v'.attr,.slice v'.qi v'.ni v'.ci,.slice v'.qw v'.nw v'.cw,.int .i64 v'.lo,.int .i64 v'.hi,.int .i64 v'.op,.slice v'.qk v'.nk v'.ck]) (by simp [results,Try.results31,go_sem, *]) rfl ?_
      refine ⟨⟨v',rfl, ?_⟩,set8_below (below_sub (uh B0) (uh B1)) (Nat.le_refl _) _ _ _ _ _ _ _ _⟩
      have f2:=uh F1
      simp only [World.size_alloc] at f2
      exact (f2.up (set8_up (B:=w.heap.size + 1) (g:=w.heap.size) _ (Nat.lt_succ_self _) _ _ _ _ _ _ _ _)).mono (Nat.le_succ _)
    · have e1:((kids.length:Int) == 1)=false:=by simp;omega
      have hca:=cloneAll_any q c kids _ (hk.below (uh B0)) (fun x _=>clone_any x) hwt
      rw [joinT_many op (by omega)]
      clear hk
      go_enter Try.func31,Try.ntmps31
      go_wp2_with (go_at_call 51;refine hca.mono ?_;rintro e w1 ⟨⟨q1,k1,vs1,rfl,o1,l1,f1⟩,b1⟩;obtain ⟨z1,⟨r0,r1,r2,r3,r4,r5,r6,r7⟩,rf⟩:=boxR b1;have F1:=hide f1;have B1:=hide b1;have O1:=hide o1;have L1:=hide l1;clear f1 b1 o1 l1)
      refine bodyPost_ret (v:=.agg #[.int .i64 0,.string ⟨#[]⟩,.slice none 0 0,.slice none 0 0,.int .i64 0,.int .i64 0,.int .i64 op,.slice q1 kids.length k1]) (by simp [results,Try.results31,go_sem, *]) rfl ?_
      refine ⟨⟨⟨0,⟨#[]⟩,none,0,0,none,0,0,0,0,op,q1,kids.length,k1⟩,rfl, ?_⟩,set8_below (below_sub (uh B0) (uh B1)) (Nat.le_refl _) _ _ _ _ _ _ _ _⟩
      have f2:=uh F1
      simp only [World.size_alloc] at f2
      have g1:∀ a,q1=some a→w.heap.size + 1≤a.block:=fun a e=>by have:=(uh O1).from a e;simp at this;omega
      have u1:=fun a0 a1 a2 a3 a4 a5 a6 a7=>set8_up (B:=w.heap.size + 1) (g:=w.heap.size) w1 (Nat.lt_succ_self _) a0 a1 a2 a3 a4 a5 a6 a7
      exact (NdFrom.make (ints:=[]) (words:=[]) (kids:=kids) (vs:=vs1) (OwnK.nil _ _) (OwnK.nil _ _) ((uh O1).upF g1 (u1 _ _ _ _ _ _ _ _).2) (uh L1) (fun j v x hj hx=>(f2 j v x hj hx).up (u1 _ _ _ _ _ _ _ _))).mono (Nat.le_succ _)
set_option maxHeartbeats 1000000 in
theorem and_any (q:Option Addr) (c:Nat) (kids:List Nd) (w:World) (hk:NdsOf w q c kids) (hwt:wtL kids≤1000000000) :
    Calls Try.prog 14 #[.slice q kids.length c] w fun e w'=>NewT w.heap.size w' (joinT 3 kids) e∧Below w.heap.size w w':=by
  have B0:=hide ((Below.refl w.heap.size w).alloc (Nat.le_refl _) (.cells #[.int .i64 0,.string ⟨#[]⟩,.slice none 0 0,.slice none 0 0,.int .i64 0,.int .i64 0,.int .i64 0,.slice none 0 0] 28))
  have hj:=join_any 3 q c kids _ (hk.below (uh B0)) hwt
  clear hk
  go_enter Try.func14,Try.ntmps14
  go_wp2_with (go_at_call 31;refine hj.mono ?_;rintro e w1 ⟨⟨v',rfl,f1⟩,b1⟩;simp only [Nv.val];obtain ⟨z1,⟨r0,r1,r2,r3,r4,r5,r6,r7⟩,rf⟩:=boxR b1;have F1:=hide f1;have B1:=hide b1;clear f1 b1)
  refine bodyPost_ret (v:=.agg #[.int .i64 v'.kind,.string v'.attr,.slice v'.qi v'.ni v'.ci,.slice v'.qw v'.nw v'.cw,.int .i64 v'.lo,.int .i64 v'.hi,.int .i64 v'.op,.slice v'.qk v'.nk v'.ck]) (by simp [results,Try.results14,go_sem, *]) rfl ?_
  refine ⟨⟨v',rfl, ?_⟩,set8_below (below_sub (uh B0) (uh B1)) (Nat.le_refl _) _ _ _ _ _ _ _ _⟩
  have f2:=uh F1
  simp only [World.size_alloc] at f2
  exact (f2.up (set8_up (B:=w.heap.size + 1) (g:=w.heap.size) _ (Nat.lt_succ_self _) _ _ _ _ _ _ _ _)).mono (Nat.le_succ _)
set_option maxHeartbeats 1000000 in
theorem or_any (q:Option Addr) (c:Nat) (kids:List Nd) (w:World) (hk:NdsOf w q c kids) (hwt:wtL kids≤1000000000) :
    Calls Try.prog 15 #[.slice q kids.length c] w fun e w'=>NewT w.heap.size w' (joinT 4 kids) e∧Below w.heap.size w w':=by
  have B0:=hide ((Below.refl w.heap.size w).alloc (Nat.le_refl _) (.cells #[.int .i64 0,.string ⟨#[]⟩,.slice none 0 0,.slice none 0 0,.int .i64 0,.int .i64 0,.int .i64 0,.slice none 0 0] 28))
  have hj:=join_any 4 q c kids _ (hk.below (uh B0)) hwt
  clear hk
  go_enter Try.func15,Try.ntmps15
  go_wp2_with (go_at_call 31;refine hj.mono ?_;rintro e w1 ⟨⟨v',rfl,f1⟩,b1⟩;simp only [Nv.val];obtain ⟨z1,⟨r0,r1,r2,r3,r4,r5,r6,r7⟩,rf⟩:=boxR b1;have F1:=hide f1;have B1:=hide b1;clear f1 b1)
  refine bodyPost_ret (v:=.agg #[.int .i64 v'.kind,.string v'.attr,.slice v'.qi v'.ni v'.ci,.slice v'.qw v'.nw v'.cw,.int .i64 v'.lo,.int .i64 v'.hi,.int .i64 v'.op,.slice v'.qk v'.nk v'.ck]) (by simp [results,Try.results15,go_sem, *]) rfl ?_
  refine ⟨⟨v',rfl, ?_⟩,set8_below (below_sub (uh B0) (uh B1)) (Nat.le_refl _) _ _ _ _ _ _ _ _⟩
  have f2:=uh F1
  simp only [World.size_alloc] at f2
  exact (f2.up (set8_up (B:=w.heap.size + 1) (g:=w.heap.size) _ (Nat.lt_succ_self _) _ _ _ _ _ _ _ _)).mono (Nat.le_succ _)
def notT (x:Nd):Nd:=.mk 0 ⟨#[]⟩ [] [] 0 0 2 [x]
set_option maxHeartbeats 4000000 in
theorem not_any (x:Nd) (v:Nv) (w:World) (hin:NdIn w v x) (hwt:wtN x≤1000000000) :
    Calls Try.prog 16 #[v.val] w fun e w'=>NewT w.heap.size w' (notT x) e∧Below w.heap.size w w':=by
  obtain ⟨X,HX⟩:∃ X,(w.alloc (.cells #[.int .i64 v.kind,.string v.attr,.slice v.qi v.ni v.ci,.slice v.qw v.nw v.cw,.int .i64 v.lo,.int .i64 v.hi,.int .i64 v.op,.slice v.qk v.nk v.ck] 28)).alloc (.cells #[.int .i64 0,.string ⟨#[]⟩,.slice none 0 0,.slice none 0 0,.int .i64 0,.int .i64 0,.int .i64 0,.slice none 0 0] 28)=X:=⟨_,rfl⟩
  have hXs:X.heap.size=w.heap.size + 2:=by rw [← HX];simp
  have hwX:Below w.heap.size w X:=by rw [← HX];exact ((Below.refl _ _).alloc (Nat.le_refl _) _).alloc (by simp) _
  have hX0:X.heap[w.heap.size]? = some (.cells #[.int .i64 v.kind,.string v.attr,.slice v.qi v.ni v.ci,.slice v.qw v.nw v.cw,.int .i64 v.lo,.int .i64 v.hi,.int .i64 v.op,.slice v.qk v.nk v.ck] 28 (0,0)):=by rw [← HX,Below.heap_alloc _ _ _ (by simp)];exact box_nw _ _
  have hX1:X.heap[w.heap.size + 1]? = some (.cells #[.int .i64 0,.string ⟨#[]⟩,.slice none 0 0,.slice none 0 0,.int .i64 0,.int .i64 0,.int .i64 0,.slice none 0 0] 28 (0,0)):=by rw [← HX,show w.heap.size + 1=(w.alloc (.cells #[.int .i64 v.kind,.string v.attr,.slice v.qi v.ni v.ci,.slice v.qw v.nw v.cw,.int .i64 v.lo,.int .i64 v.hi,.int .i64 v.op,.slice v.qk v.nk v.ck] 28)).heap.size by simp];exact box_nw _ _
  obtain ⟨x0,x1,x2,x3,x4,x5,x6,x7⟩:=of8' hX0
  have hcx:=clone_any x v X (hin.keep hwX) hwt
  simp only [Nv.val] at hcx ⊢
  have HX1:=hide hX1
  have HWX:=hide hwX
  clear hin hwX hX0 hX1
  go_enter Try.func16,Try.ntmps16
  go_wp2_with (go_at_call 32;refine hcx.mono ?_;rintro e w1 ⟨v',rfl,f1,b1⟩;have hh1:=(b1.block _ (by omega)).trans (uh HX1);obtain ⟨r0,r1,r2,r3,r4,r5,r6,r7⟩:=of8' hh1;have rf:=fun o=>frozen_free (o:=o) hh1;have hz1:w.heap.size + 1 < w1.heap.size:=(by have:=b1.size;omega);have hz2:¬ w.heap.size + 1=w1.heap.size:=(by omega);have F1:=hide f1;have B1:=hide b1;clear f1 b1 hh1)
  refine bodyPost_ret (v:=.agg #[.int .i64 0,.string ⟨#[]⟩,.slice none 0 0,.slice none 0 0,.int .i64 0,.int .i64 0,.int .i64 2,.slice (some ⟨w1.heap.size,0,none⟩) 1 1]) (by simp [results,Try.results16,go_sem, *]) rfl ?_
  obtain ⟨W1,HW1⟩:∃ W1,(((((((w1.setCell ⟨w.heap.size + 1,0,none⟩ (.int .i64 0)).setCell ⟨w.heap.size + 1,1,none⟩ (.string ⟨#[]⟩)).setCell ⟨w.heap.size + 1,2,none⟩ (.slice none 0 0)).setCell ⟨w.heap.size + 1,3,none⟩ (.slice none 0 0)).setCell ⟨w.heap.size + 1,4,none⟩ (.int .i64 0)).setCell ⟨w.heap.size + 1,5,none⟩ (.int .i64 0)).setCell ⟨w.heap.size + 1,6,none⟩ (.int .i64 2)).setCell ⟨w.heap.size + 1,7,none⟩ (.slice (some ⟨w1.heap.size,0,none⟩) 1 1)=W1:=⟨_,rfl⟩
  have hW1s:W1.heap.size=w1.heap.size:=by rw [← HW1];simp
  have hW1u:SameUp (w.heap.size + 2) w1 W1:=by rw [← HW1];exact set8_up (B:=w.heap.size + 2) (g:=w.heap.size + 1) w1 (Nat.lt_succ_self _) _ _ _ _ _ _ _ _
  have hW1b:Below w.heap.size w W1:=by rw [← HW1];exact set8_below (below_sub (uh HWX) (uh B1)) (Nat.le_succ _) _ _ _ _ _ _ _ _
  rw [HW1]
  clear HW1
  obtain ⟨M,HM⟩:∃ M,W1.alloc (.cells #[.int .i64 v'.kind,.string v'.attr,.slice v'.qi v'.ni v'.ci,.slice v'.qw v'.nw v'.cw,.int .i64 v'.lo,.int .i64 v'.hi,.int .i64 v'.op,.slice v'.qk v'.nk v'.ck] 28)=M:=⟨_,rfl⟩
  have hM:M.heap[w1.heap.size]? = some (.cells #[.int .i64 v'.kind,.string v'.attr,.slice v'.qi v'.ni v'.ci,.slice v'.qw v'.nw v'.cw,.int .i64 v'.lo,.int .i64 v'.hi,.int .i64 v'.op,.slice v'.qk v'.nk v'.ck] 28 (0,0)):=by rw [← HM,← hW1s];exact box_nw _ _
  have hwM:Below W1.heap.size W1 M:=by rw [← HM];exact (Below.refl _ _).alloc (Nat.le_refl _) _
  have hf:=(((uh F1).mono (show w.heap.size + 2≤X.heap.size by omega)).up hW1u).keep hwM
  rw [HM]
  refine ⟨⟨⟨0,⟨#[]⟩,none,0,0,none,0,0,0,0,2,some ⟨w1.heap.size,0,none⟩,1,1⟩,rfl, ?_⟩,below_sub hW1b hwM⟩
  exact (NdFrom.make (ints:=[]) (words:=[]) (kids:=[x]) (vs:=[v']) (OwnK.nil _ _) (OwnK.nil _ _) (own_one hM (show w.heap.size + 2≤w1.heap.size by omega)) rfl (fun j y z hj hx=>by
    cases j with
    | zero=>cases hj;cases hx;exact hf
    | succ j=>simp at hj)).mono (by omega)
end Go.Proofs.Ytikhopiegaoacac
