/- The law's helper fixed (layer 7) returns true. -/
import Derived.Test.YtikhopiegaoacabOPushAll
import Derived.Test.YtikhopiegaoacabOZae
import Derived.Test.YtikhopiegaoacabOJoin
import Derived.Deep.Cut
import Derived.Deep.RegionHeld3
namespace Go.Proofs.Ytikhopiegaoacab
open Go.RowKit Go.Sort
def TP:Nd:=.mk 1 ⟨#[97]⟩ [1] [] 0 0 1 []
def TQ:Nd:=.mk 1 ⟨#[98]⟩ [2] [] 0 0 1 []
def TA:Nd:=joinT 3 [TP,notT TQ]
def TM:Nd:=joinT 4 [notT TP,TQ]
def TW:Nd:=joinT 3 [joinT 4 [TP,TQ],joinT 4 [TQ,TP]]
theorem push_TA:chkN (notT TA)=true∧downN (notT TA) false=TM:=⟨by decide +kernel,by kernel_rfl⟩
theorem wid_TW:WidthA TW 3=4∧WidthE TW 3=0:=⟨by decide +kernel,by decide +kernel⟩
theorem at_TM:(chkN TM && atN TM)=true:=by decide +kernel
theorem sum_F:sumB 10 [4,7]=11:=by decide +kernel
theorem prod_F:prodB 10 [4,2]=8:=by decide +kernel
theorem set1_blk {W:World} {b i:Nat} {cs:Array Value} {T:TypeId} {v:Value} (h:W.heap[b]? = some (.cells cs T (0,0))):(W.setCell ⟨b,i,none⟩ v).heap[b]? = some (.cells (cs.setIfInBounds i v) T (0,0)):=by
  have hb:=heap_lt h
  have h':W.heap[b]=.cells cs T (0,0):=by rw [Array.getElem?_eq_getElem hb] at h;exact Option.some.inj h
  simp [World.setCell,hb,Array.getElem_modify,h']
theorem set8_blk {W:World} {b:Nat} {T:TypeId} {a0 a1 a2 a3 a4 a5 a6 a7 v0 v1 v2 v3 v4 v5 v6 v7:Value} (h:W.heap[b]? = some (.cells #[a0,a1,a2,a3,a4,a5,a6,a7] T (0,0))) :
    ((((((((W.setCell ⟨b,0,none⟩ v0).setCell ⟨b,1,none⟩ v1).setCell ⟨b,2,none⟩ v2).setCell ⟨b,3,none⟩ v3).setCell ⟨b,4,none⟩ v4).setCell ⟨b,5,none⟩ v5).setCell ⟨b,6,none⟩ v6).setCell ⟨b,7,none⟩ v7).heap[b]? = some (.cells #[v0,v1,v2,v3,v4,v5,v6,v7] T (0,0)):=by
  have:=set1_blk (v:=v7) (i:=7) (set1_blk (v:=v6) (i:=6) (set1_blk (v:=v5) (i:=5) (set1_blk (v:=v4) (i:=4) (set1_blk (v:=v3) (i:=3) (set1_blk (v:=v2) (i:=2) (set1_blk (v:=v1) (i:=1) (set1_blk (v:=v0) (i:=0) h)))))))
  simpa using this
theorem nds_two {w:World} {M:Nat} {v1 v2:Nv} {x1 x2:Nd} (h:w.heap[M]? = some (.cells #[.int .i64 v1.kind,.string v1.attr,.slice v1.qi v1.ni v1.ci,.slice v1.qw v1.nw v1.cw,.int .i64 v1.lo,.int .i64 v1.hi,.int .i64 v1.op,.slice v1.qk v1.nk v1.ck,.int .i64 v2.kind,.string v2.attr,.slice v2.qi v2.ni v2.ci,.slice v2.qw v2.nw v2.cw,.int .i64 v2.lo,.int .i64 v2.hi,.int .i64 v2.op,.slice v2.qk v2.nk v2.ck] 28 (0,0))) (h1:NdIn w v1 x1) (h2:NdIn w v2 x2):NdsOf w (some ⟨M,0,none⟩) 2 [x1,x2] :=
  ⟨[v1,v2],of_block (vs:=[v1,v2]) h (by rw [flat_2];rfl) (by simp),rfl,fun j u y hj hy=>by
    match j,hj,hy with
    | 0,hj,hy=>cases hj;cases hy;exact h1
    | 1,hj,hy=>cases hj;cases hy;exact h2⟩
theorem cNot (x:Nd) (v:Nv) (w:World) (h:NdIn w v x) (hw:wtN x≤1000):Calls Try.prog 12 #[.agg #[.int .i64 v.kind,.string v.attr,.slice v.qi v.ni v.ci,.slice v.qw v.nw v.cw,.int .i64 v.lo,.int .i64 v.hi,.int .i64 v.op,.slice v.qk v.nk v.ck]] w fun e w'=>NewT w.heap.size w' (notT x) e∧Below w.heap.size w w':=not_any x v w h (by omega)
theorem cAnd (x y:Nd) (v u:Nv) (M:Nat) (w:World) (hM:w.heap[M]? = some (.cells #[.int .i64 v.kind,.string v.attr,.slice v.qi v.ni v.ci,.slice v.qw v.nw v.cw,.int .i64 v.lo,.int .i64 v.hi,.int .i64 v.op,.slice v.qk v.nk v.ck,.int .i64 u.kind,.string u.attr,.slice u.qi u.ni u.ci,.slice u.qw u.nw u.cw,.int .i64 u.lo,.int .i64 u.hi,.int .i64 u.op,.slice u.qk u.nk u.ck] 28 (0,0))) (h1:NdIn w v x) (h2:NdIn w u y) (hw:wtL [x,y]≤1000):Calls Try.prog 13 #[.slice (some ⟨M,0,none⟩) 2 2] w fun e w'=>NewT w.heap.size w' (joinT 3 [x,y]) e∧Below w.heap.size w w':=and_any (some ⟨M,0,none⟩) 2 [x,y] w (nds_two hM h1 h2) (by omega)
theorem cOr (x y:Nd) (v u:Nv) (M:Nat) (w:World) (hM:w.heap[M]? = some (.cells #[.int .i64 v.kind,.string v.attr,.slice v.qi v.ni v.ci,.slice v.qw v.nw v.cw,.int .i64 v.lo,.int .i64 v.hi,.int .i64 v.op,.slice v.qk v.nk v.ck,.int .i64 u.kind,.string u.attr,.slice u.qi u.ni u.ci,.slice u.qw u.nw u.cw,.int .i64 u.lo,.int .i64 u.hi,.int .i64 u.op,.slice u.qk u.nk u.ck] 28 (0,0))) (h1:NdIn w v x) (h2:NdIn w u y) (hw:wtL [x,y]≤1000):Calls Try.prog 15 #[.slice (some ⟨M,0,none⟩) 2 2] w fun e w'=>NewT w.heap.size w' (joinT 4 [x,y]) e∧Below w.heap.size w w':=or_any (some ⟨M,0,none⟩) 2 [x,y] w (nds_two hM h1 h2) (by omega)
theorem cPush (v:Nv) (w:World) (h:NdIn w v (notT TA)):Calls Try.prog 6 #[.agg #[.int .i64 v.kind,.string v.attr,.slice v.qi v.ni v.ci,.slice v.qw v.nw v.cw,.int .i64 v.lo,.int .i64 v.hi,.int .i64 v.op,.slice v.qk v.nk v.ck]] w fun e w'=>(∃ v',e=.returned (.tuple #[v'.val,.int .i64 0])∧NdFrom w' w.heap.size v' TM)∧Below w.heap.size w w':=by
  have:=push_any (notT TA) v w h (Nat.le_trans (show wtN (notT TA)≤1000 by decide +kernel) (by omega))
  simp only [PushT,push_TA.1,push_TA.2,if_true] at this
  exact this
theorem cWid (v:Nv) (w:World) (h:NdIn w v TW):Calls Try.prog 14 #[.agg #[.int .i64 v.kind,.string v.attr,.slice v.qi v.ni v.ci,.slice v.qw v.nw v.cw,.int .i64 v.lo,.int .i64 v.hi,.int .i64 v.op,.slice v.qk v.nk v.ck],.int .i64 3] w fun e w'=>e=.returned (.tuple #[.int .i64 4,.int .i64 0])∧Below w.heap.size w w':=by
  have:=pushWidth_any TW 3 v w h (Nat.le_trans (show wtN TW≤1000 by decide +kernel) (by omega)) (Nat.le_trans (show wtN (downN TW false)≤1000 by decide +kernel) (by omega))
  rw [wid_TW.1,wid_TW.2] at this
  exact this
theorem cSame (v u:Nv) (w:World) (h1:NdIn w v TM) (h2:NdIn w u TM):Calls Try.prog 16 #[.agg #[.int .i64 v.kind,.string v.attr,.slice v.qi v.ni v.ci,.slice v.qw v.nw v.cw,.int .i64 v.lo,.int .i64 v.hi,.int .i64 v.op,.slice v.qk v.nk v.ck],.agg #[.int .i64 u.kind,.string u.attr,.slice u.qi u.ni u.ci,.slice u.qw u.nw u.cw,.int .i64 u.lo,.int .i64 u.hi,.int .i64 u.op,.slice u.qk u.nk u.ck]] w fun e w'=>e=.returned (.bool true)∧Below w.heap.size w w':=by
  have:=same_all TM TM v u w h1 h2 (Nat.le_trans (show wtN TM≤1000 by decide +kernel) (by omega))
  rwa [sameT_yes rfl] at this
theorem cPushed (v:Nv) (w:World) (h:NdIn w v TM):Calls Try.prog 17 #[.agg #[.int .i64 v.kind,.string v.attr,.slice v.qi v.ni v.ci,.slice v.qw v.nw v.cw,.int .i64 v.lo,.int .i64 v.hi,.int .i64 v.op,.slice v.qk v.nk v.ck]] w fun e w'=>e=.returned (.bool true)∧Below w.heap.size w w':=by
  have:=pushed_any TM v w h (Nat.le_trans (show wtN TM≤1000 by decide +kernel) (by omega))
  rwa [at_TM] at this
theorem cSum (M:Nat) (w:World) (h:w.heap[M]? = some (.cells #[.int .i64 4,.int .i64 7] 3 (0,0))):Calls Try.prog 18 #[.int .i64 10,.slice (some ⟨M,0,none⟩) 2 2] w fun e w'=>e=.returned (.int .i64 11)∧Below w.heap.size w w':=by
  have:=sum_any 10 (some ⟨M,0,none⟩) 2 [4,7] w (block_of (l:=([4,7]:List Int)) h (by kernel_rfl) (by decide)) (by decide)
  rwa [sum_F] at this
theorem cProd (M:Nat) (w:World) (h:w.heap[M]? = some (.cells #[.int .i64 4,.int .i64 2] 3 (0,0))):Calls Try.prog 19 #[.int .i64 10,.slice (some ⟨M,0,none⟩) 2 2] w fun e w'=>e=.returned (.int .i64 8)∧Below w.heap.size w w':=by
  have:=prod_any 10 (some ⟨M,0,none⟩) 2 [4,2] w (block_of (l:=([4,2]:List Int)) h (by kernel_rfl) (by decide)) (by decide)
  rwa [prod_F] at this
theorem nk_TM {w:World} {v:Nv} (h:NdIn w v TM):v.nk=2:=by
  have h':NdIn w v (.mk 0 ⟨#[]⟩ [] [] 0 0 4 [notT TP,TQ]):=h
  obtain ⟨_,_,_,_,_,_,rfl,_⟩:=h'.parts
  rfl
set_option maxRecDepth 100000 in
set_option maxHeartbeats 16000000 in
theorem fixed7_any (w:World):Calls Try.prog 4 #[] w fun e w'=>e=.returned (.bool true)∧Below w.heap.size w w':=by
  have mixed:Try.prog.follows .mixedOrders=true:=by kernel_rfl
  have fl1:(flatK encI 1 ([1]:List Int).toArray).toList=[.int .i64 1]:=by kernel_rfl
  have fl2:(flatK encI 1 ([2]:List Int).toArray).toList=[.int .i64 2]:=by kernel_rfl
  have c1:=fun (W:World) (M:Nat) (h:W.heap[M]? = some (.cells #[.int .i64 1] 3 (0,0)))=>ints_any ⟨#[97]⟩ (some ⟨M,0,none⟩) 1 [1] W (block_of (l:=([1]:List Int)) h fl1 (by decide)) (by decide)
  have c2:=fun (W:World) (M:Nat) (h:W.heap[M]? = some (.cells #[.int .i64 2] 3 (0,0)))=>ints_any ⟨#[98]⟩ (some ⟨M,0,none⟩) 1 [2] W (block_of (l:=([2]:List Int)) h fl2 (by decide)) (by decide)
  simp only [List.length_cons,List.length_nil,Nat.zero_add] at c1 c2
  have HF:=hide (And.intro fl1 fl2)
  clear fl1 fl2
  go_enter Try.func4,Try.ntmps4
  go_wp2_with (first
    | (go_at_call 11;have tst:=uh B1;clear tst;refine (c2 _ _ (by exact box_nw _ _)).mono ?_;rintro e w2 ⟨⟨vq,rfl,nq⟩,b2⟩;simp only [Nv.val];have NQ:=hide nq.toIn;have NP2:=hide (((uh NP).keep ((Below.refl _ _).alloc (Nat.le_refl _) _)).keep b2);have B2:=hide (below_sub ((uh B1).alloc (uh B1).size (.cells #[.int .i64 2] 3)) b2);clear nq b2)
    | (go_at_call 11;refine (c1 _ _ (by exact box_nw _ _)).mono ?_;rintro e w1 ⟨⟨vp,rfl,np⟩,b1⟩;simp only [Nv.val];have NP:=hide np.toIn;have B1:=hide (below_sub ((Below.refl w.heap.size w).alloc (Nat.le_refl _) (.cells #[.int .i64 1] 3)) b1);clear np b1))
  obtain ⟨U,HU⟩:∃ U,(w2.alloc (.cells #[.int .i64 vp.kind,.string vp.attr,.slice vp.qi vp.ni vp.ci,.slice vp.qw vp.nw vp.cw,.int .i64 vp.lo,.int .i64 vp.hi,.int .i64 vp.op,.slice vp.qk vp.nk vp.ck] 28)).alloc (.cells #[.int .i64 vq.kind,.string vq.attr,.slice vq.qi vq.ni vq.ci,.slice vq.qw vq.nw vq.cw,.int .i64 vq.lo,.int .i64 vq.hi,.int .i64 vq.op,.slice vq.qk vq.nk vq.ck] 28)=U:=⟨_,rfl⟩
  rw [HU]
  obtain ⟨hU1,hU2,hbU,hsU⟩:=twoM HU
  obtain ⟨N1,hN1⟩:∃ N1,w2.heap.size=N1:=⟨_,rfl⟩
  obtain ⟨N2,hN2⟩:∃ N2,N1 + 1=N2:=⟨_,rfl⟩
  rw [hN1] at hU1 hU2
  rw [hN2] at hU2
  have HP:=hide ((uh NP2).keep hbU)
  have HQ:=hide ((uh NQ).keep hbU)
  have BU:=hide (below_sub (uh B2) hbU)
  simp only [hN1,hN2]
  clear hbU HU NP NP2 NQ B1 B2 c1 c2
  have KS:∀ W:World,Below U.heap.size U W→(fun w'=>w'.cell? ⟨N1,0,none⟩=some (.int .i64 vp.kind)∧w'.cell? ⟨N1,1,none⟩=some (.string vp.attr)∧w'.cell? ⟨N1,2,none⟩=some (.slice vp.qi vp.ni vp.ci)∧w'.cell? ⟨N1,3,none⟩=some (.slice vp.qw vp.nw vp.cw)∧w'.cell? ⟨N1,4,none⟩=some (.int .i64 vp.lo)∧w'.cell? ⟨N1,5,none⟩=some (.int .i64 vp.hi)∧w'.cell? ⟨N1,6,none⟩=some (.int .i64 vp.op)∧w'.cell? ⟨N1,7,none⟩=some (.slice vp.qk vp.nk vp.ck)∧w'.cell? ⟨N2,0,none⟩=some (.int .i64 vq.kind)∧w'.cell? ⟨N2,1,none⟩=some (.string vq.attr)∧w'.cell? ⟨N2,2,none⟩=some (.slice vq.qi vq.ni vq.ci)∧w'.cell? ⟨N2,3,none⟩=some (.slice vq.qw vq.nw vq.cw)∧w'.cell? ⟨N2,4,none⟩=some (.int .i64 vq.lo)∧w'.cell? ⟨N2,5,none⟩=some (.int .i64 vq.hi)∧w'.cell? ⟨N2,6,none⟩=some (.int .i64 vq.op)∧w'.cell? ⟨N2,7,none⟩=some (.slice vq.qk vq.nk vq.ck)) W:=fun W hb=>by
    obtain ⟨a0,a1,a2,a3,a4,a5,a6,a7⟩:=of8' ((hb.block _ (heap_lt hU1)).trans hU1)
    obtain ⟨b0,b1,b2,b3,b4,b5,b6,b7⟩:=of8' ((hb.block _ (heap_lt hU2)).trans hU2)
    exact ⟨a0,a1,a2,a3,a4,a5,a6,a7,b0,b1,b2,b3,b4,b5,b6,b7⟩
  have HU1:=hide hU1
  clear hsU hN1 hN2
  have HU2:=hide hU2
  clear hU1 hU2
  go_cut [3,4] from 7 (fun s3 s4 V=>∃ (N3:Nat) (vm:Nv),s3=.pointer (some ⟨N3,0,none⟩)∧s4=.int .i64 0∧V.heap[N3]? = some (.cells #[.int .i64 vm.kind,.string vm.attr,.slice vm.qi vm.ni vm.ci,.slice vm.qw vm.nw vm.cw,.int .i64 vm.lo,.int .i64 vm.hi,.int .i64 vm.op,.slice vm.qk vm.nk vm.ck] 28 (0,0))∧Below U.heap.size U V∧NdIn V vm TM)
  case first =>
    have R0:Below U.heap.size U U.drew:=(Below.refl _ _).drew
    have HP0:=hide ((uh HP).keep R0)
    have HQ0:=hide ((uh HQ).keep R0)
    refine wp_region_held_drew (S:=fun w'=>w'.cell? ⟨N1,0,none⟩=some (.int .i64 vp.kind)∧w'.cell? ⟨N1,1,none⟩=some (.string vp.attr)∧w'.cell? ⟨N1,2,none⟩=some (.slice vp.qi vp.ni vp.ci)∧w'.cell? ⟨N1,3,none⟩=some (.slice vp.qw vp.nw vp.cw)∧w'.cell? ⟨N1,4,none⟩=some (.int .i64 vp.lo)∧w'.cell? ⟨N1,5,none⟩=some (.int .i64 vp.hi)∧w'.cell? ⟨N1,6,none⟩=some (.int .i64 vp.op)∧w'.cell? ⟨N1,7,none⟩=some (.slice vp.qk vp.nk vp.ck)∧w'.cell? ⟨N2,0,none⟩=some (.int .i64 vq.kind)∧w'.cell? ⟨N2,1,none⟩=some (.string vq.attr)∧w'.cell? ⟨N2,2,none⟩=some (.slice vq.qi vq.ni vq.ci)∧w'.cell? ⟨N2,3,none⟩=some (.slice vq.qw vq.nw vq.cw)∧w'.cell? ⟨N2,4,none⟩=some (.int .i64 vq.lo)∧w'.cell? ⟨N2,5,none⟩=some (.int .i64 vq.hi)∧w'.cell? ⟨N2,6,none⟩=some (.int .i64 vq.op)∧w'.cell? ⟨N2,7,none⟩=some (.slice vq.qk vq.nk vq.ck)) (by kernel_rfl) (KS _ R0) (fun hHeld=>?_)
    refine wpAnyH_take (i:=0) (oi:=⟨some 12,.load 28 (.tmp 1),_,_,_,none⟩) (v:=?_) rfl (by kernel_rfl) (by kernel_rfl) (by kernel_rfl) (fun _ _ _ h=>h) (Or.inl ⟨by rfl, ?_⟩) (by assumption) ?_
    rotate_left
    · intro wq hSw
      go_simp
      with_reducible rfl
    simp only [Act.put,List.setIfInBounds_toArray,List.set_cons_zero,List.set_cons_succ]
    refine wpAnyH_take (i:=1) (oi:=⟨some 13,.load 28 (.tmp 2),_,_,_,none⟩) (v:=?_) rfl (by kernel_rfl) (by kernel_rfl) (by kernel_rfl) (fun _ _ _ h=>h) (Or.inl ⟨by rfl, ?_⟩) (by assumption) ?_
    rotate_left
    · intro wq hSw
      go_simp
      with_reducible rfl
    simp only [Act.put,List.setIfInBounds_toArray,List.set_cons_zero,List.set_cons_succ]
    refine wpAnyH_ready (rs:=[2,10]) (by kernel_rfl) (by simp) ?_
    refine AllReadyH.cons (o:=⟨some 14,.call { callee:=.value (.func 12),args:=#[.tmp 13],argTypes:=#[28] },_,_,_,none⟩) rfl (fun K hK=>?_) ?_
    · go_simp
      refine (cNot TQ vq _ (uh HQ0) (by decide +kernel)).mono ?_
      rintro e w1 ⟨⟨v4,rfl,b2n⟩,b2⟩
      simp only [Nv.val]
      have R3:Below U.heap.size U w1:=below_sub R0 b2
      have f5:=hide ((uh HP0).keep b2)
      clear HP0
      have f6:=hide ((uh HQ0).keep b2)
      clear HQ0
      have f7:=hide b2n
      clear b2 b2n
      refine hK.out _ _ (KS _ R3) (fun hHeld=>?_)
      clear hK K
      refine wpAnyH_ready (rs:=[3,10]) (by kernel_rfl) (by simp) ?_
      refine AllReadyH.cons (o:=⟨some 15,.buildSlice 26 2 #[(0,.tmp 12),(1,.tmp 14)],_,_,_,none⟩) rfl (fun K hK=>?_) ?_
      · go_simp
        refine hK.out _ _ (KS _ ((R3).alloc (R3).size _)) (fun hHeld=>?_)
        clear hK K
        obtain ⟨V8,h11⟩:∃ V8,World.alloc w1 (.cells #[.int .i64 vp.kind,.string vp.attr,.slice vp.qi vp.ni vp.ci,.slice vp.qw vp.nw vp.cw,.int .i64 vp.lo,.int .i64 vp.hi,.int .i64 vp.op,.slice vp.qk vp.nk vp.ck,.int .i64 v4.kind,.string v4.attr,.slice v4.qi v4.ni v4.ci,.slice v4.qw v4.nw v4.cw,.int .i64 v4.lo,.int .i64 v4.hi,.int .i64 v4.op,.slice v4.qk v4.nk v4.ck] 28)=V8:=⟨_,rfl⟩
        rw [h11]
        have R9:Below U.heap.size U V8:=by rw [← h11];exact (show Below U.heap.size U (World.alloc w1 (.cells #[.int .i64 vp.kind,.string vp.attr,.slice vp.qi vp.ni vp.ci,.slice vp.qw vp.nw vp.cw,.int .i64 vp.lo,.int .i64 vp.hi,.int .i64 vp.op,.slice vp.qk vp.nk vp.ck,.int .i64 v4.kind,.string v4.attr,.slice v4.qi v4.ni v4.ci,.slice v4.qw v4.nw v4.cw,.int .i64 v4.lo,.int .i64 v4.hi,.int .i64 v4.op,.slice v4.qk v4.nk v4.ck] 28)) from (R3).alloc (R3).size _)
        have f10b:Below w1.heap.size w1 V8:=by rw [← h11];exact (show Below w1.heap.size w1 (World.alloc w1 (.cells #[.int .i64 vp.kind,.string vp.attr,.slice vp.qi vp.ni vp.ci,.slice vp.qw vp.nw vp.cw,.int .i64 vp.lo,.int .i64 vp.hi,.int .i64 vp.op,.slice vp.qk vp.nk vp.ck,.int .i64 v4.kind,.string v4.attr,.slice v4.qi v4.ni v4.ci,.slice v4.qw v4.nw v4.cw,.int .i64 v4.lo,.int .i64 v4.hi,.int .i64 v4.op,.slice v4.qk v4.nk v4.ck] 28)) from (Below.refl _ _).alloc (Nat.le_refl _) _)
        have f10:=hide (show V8.heap[w1.heap.size]? = some (.cells #[.int .i64 vp.kind,.string vp.attr,.slice vp.qi vp.ni vp.ci,.slice vp.qw vp.nw vp.cw,.int .i64 vp.lo,.int .i64 vp.hi,.int .i64 vp.op,.slice vp.qk vp.nk vp.ck,.int .i64 v4.kind,.string v4.attr,.slice v4.qi v4.ni v4.ci,.slice v4.qw v4.nw v4.cw,.int .i64 v4.lo,.int .i64 v4.hi,.int .i64 v4.op,.slice v4.qk v4.nk v4.ck] 28 (0,0)) by rw [← h11];exact box_nw _ _)
        have f12:=hide ((uh f5).keep f10b)
        clear f5
        have f13:=hide ((uh f6).keep f10b)
        clear f6
        have f14:=hide ((uh f7).keep f10b)
        clear f7
        clear h11 f10b
        refine wpAnyH_ready (rs:=[4,10]) (by kernel_rfl) (by simp) ?_
        refine AllReadyH.cons (o:=⟨some 16,.call { callee:=.value (.func 13),args:=#[.tmp 15],argTypes:=#[26] },_,_,_,none⟩) rfl (fun K hK=>?_) ?_
        · go_simp
          refine (cAnd TP (notT TQ) vp v4 _ _ (uh f10) (uh f12) (uh f14).toIn (by decide +kernel)).mono ?_
          rintro e w15 ⟨⟨v18,rfl,b16n⟩,b16⟩
          simp only [Nv.val]
          have R17:Below U.heap.size U w15:=below_sub R9 b16
          have f19:=hide ((uh f12).keep b16)
          clear f12
          have f20:=hide ((uh f13).keep b16)
          clear f13
          have f21:=hide ((uh f14).keep b16)
          clear f14
          have f22:=hide (((b16).block _ (heap_lt (uh f10))).trans (uh f10))
          clear f10
          have f23:=hide b16n
          clear b16 b16n
          refine hK.out _ _ (KS _ R17) (fun hHeld=>?_)
          clear hK K
          refine wpAnyH_ready (rs:=[5,10]) (by kernel_rfl) (by simp) ?_
          refine AllReadyH.cons (o:=⟨some 17,.call { callee:=.value (.func 12),args:=#[.tmp 16],argTypes:=#[28] },_,_,_,none⟩) rfl (fun K hK=>?_) ?_
          · go_simp
            refine (cNot TA v18 _ (uh f23).toIn (by decide +kernel)).mono ?_
            rintro e w24 ⟨⟨v27,rfl,b25n⟩,b25⟩
            simp only [Nv.val]
            have R26:Below U.heap.size U w24:=below_sub R17 b25
            have f28:=hide ((uh f19).keep b25)
            clear f19
            have f29:=hide ((uh f20).keep b25)
            clear f20
            have f30:=hide ((uh f21).keep b25)
            clear f21
            have f31:=hide (((b25).block _ (heap_lt (uh f22))).trans (uh f22))
            clear f22
            have f32:=hide ((uh f23).keep b25)
            clear f23
            have f33:=hide b25n
            clear b25 b25n
            refine hK.out _ _ (KS _ R26) (fun hHeld=>?_)
            clear hK K
            refine wpAnyH_ready (rs:=[6,10]) (by kernel_rfl) (by simp) ?_
            refine AllReadyH.cons (o:=⟨some 18,.call { callee:=.value (.func 6),args:=#[.tmp 17],argTypes:=#[28] },_,_,_,none⟩) rfl (fun K hK=>?_) ?_
            · go_simp
              refine (cPush v27 _ (uh f33).toIn).mono ?_
              rintro e w34 ⟨⟨v37,rfl,b35n⟩,b35⟩
              simp only [Nv.val]
              have R36:Below U.heap.size U w34:=below_sub R26 b35
              have f38:=hide ((uh f28).keep b35)
              clear f28
              have f39:=hide ((uh f29).keep b35)
              clear f29
              have f40:=hide ((uh f30).keep b35)
              clear f30
              have f41:=hide (((b35).block _ (heap_lt (uh f31))).trans (uh f31))
              clear f31
              have f42:=hide ((uh f32).keep b35)
              clear f32
              have f43:=hide ((uh f33).keep b35)
              clear f33
              have f44:=hide b35n
              clear b35 b35n
              refine hK.out _ _ (KS _ R36) (fun hHeld=>?_)
              clear hK K
              refine wpAnyH_take (i:=7) (oi:=⟨some 11,.move (.tmp 18),_,_,_,none⟩) (v:=?_) rfl (by kernel_rfl) (by kernel_rfl) (by kernel_rfl) (fun _ _ _ h=>h) (Or.inl ⟨by rfl, ?_⟩) (by assumption) ?_
              rotate_left
              · intro wq hSw
                go_simp
                with_reducible rfl
              simp only [Act.put,List.setIfInBounds_toArray,List.set_cons_zero,List.set_cons_succ]
              refine wpAnyH_take (i:=8) (oi:=⟨some 19,.extract (.tmp 11) 0,_,_,_,none⟩) (v:=?_) rfl (by kernel_rfl) (by kernel_rfl) (by kernel_rfl) (fun _ _ _ h=>h) (Or.inl ⟨by rfl, ?_⟩) (by assumption) ?_
              rotate_left
              · intro wq hSw
                go_simp
                with_reducible rfl
              simp only [Act.put,List.setIfInBounds_toArray,List.set_cons_zero,List.set_cons_succ]
              refine wpAnyH_take (i:=9) (oi:=⟨some 20,.extract (.tmp 11) 1,_,_,_,none⟩) (v:=?_) rfl (by kernel_rfl) (by kernel_rfl) (by kernel_rfl) (fun _ _ _ h=>h) (Or.inl ⟨by rfl, ?_⟩) (by assumption) ?_
              rotate_left
              · intro wq hSw
                go_simp
                with_reducible rfl
              simp only [Act.put,List.setIfInBounds_toArray,List.set_cons_zero,List.set_cons_succ]
              refine wpAnyH_ready (rs:=[10]) (by kernel_rfl) (by simp) ?_
              refine AllReadyH.cons (o:=⟨some 3,.alloc 28,_,_,_,none⟩) rfl (fun K hK=>?_) ?_
              · go_simp
                refine hK.out _ _ (KS _ ((R36).alloc (R36).size _)) (fun hHeld=>?_)
                clear hK K
                obtain ⟨V45,h48⟩:∃ V45,World.alloc w34 (.cells #[.int .i64 0,.string ⟨#[]⟩,.slice none 0 0,.slice none 0 0,.int .i64 0,.int .i64 0,.int .i64 0,.slice none 0 0] 28)=V45:=⟨_,rfl⟩
                rw [h48]
                have R46:Below U.heap.size U V45:=by rw [← h48];exact (show Below U.heap.size U (World.alloc w34 (.cells #[.int .i64 0,.string ⟨#[]⟩,.slice none 0 0,.slice none 0 0,.int .i64 0,.int .i64 0,.int .i64 0,.slice none 0 0] 28)) from (R36).alloc (R36).size _)
                have f47b:Below w34.heap.size w34 V45:=by rw [← h48];exact (show Below w34.heap.size w34 (World.alloc w34 (.cells #[.int .i64 0,.string ⟨#[]⟩,.slice none 0 0,.slice none 0 0,.int .i64 0,.int .i64 0,.int .i64 0,.slice none 0 0] 28)) from (Below.refl _ _).alloc (Nat.le_refl _) _)
                have f47:=hide (show V45.heap[w34.heap.size]? = some (.cells #[.int .i64 0,.string ⟨#[]⟩,.slice none 0 0,.slice none 0 0,.int .i64 0,.int .i64 0,.int .i64 0,.slice none 0 0] 28 (0,0)) by rw [← h48];exact box_nw _ _)
                have zm:=f44
                have zb:=hide f47b
                have f49:=hide ((uh f38).keep f47b)
                clear f38
                have f50:=hide ((uh f39).keep f47b)
                clear f39
                have f51:=hide ((uh f40).keep f47b)
                clear f40
                have f52:=hide (((f47b).block _ (heap_lt (uh f41))).trans (uh f41))
                clear f41
                have f53:=hide ((uh f42).keep f47b)
                clear f42
                have f54:=hide ((uh f43).keep f47b)
                clear f43
                have f55:=hide ((uh f44).keep f47b)
                clear h48 f47b
                refine wpAnyH_ready (rs:=[11]) (by kernel_rfl) (by simp) ?_
                refine AllReadyH.cons (o:=⟨none,.store 28 (.tmp 3) (.tmp 19),_,_,_,none⟩) rfl (fun K hK=>?_) ?_
                · have z56g:U.heap.size≤w34.heap.size:=(R36).size
                  obtain ⟨z56_0,z56_1,z56_2,z56_3,z56_4,z56_5,z56_6,z56_7⟩:=of8' (uh f47)
                  have z56f:∀ o,World.frozen? V45 ⟨w34.heap.size,o,none⟩=false:=fun o=>frozen_free (uh f47)
                  have z56l:=heap_lt (uh f47)
                  go_simp
                  refine hK.out _ _ (KS _ (set8_below (g:=w34.heap.size) R46 z56g (.int .i64 v37.kind) (.string v37.attr) (.slice v37.qi v37.ni v37.ci) (.slice v37.qw v37.nw v37.cw) (.int .i64 v37.lo) (.int .i64 v37.hi) (.int .i64 v37.op) (.slice v37.qk v37.nk v37.ck))) (fun hHeld=>?_)
                  clear hK K
                  refine wpAnyH_take (i:=12) (oi:=⟨some 4,.assign (.tmp 20),_,_,_,none⟩) (v:=?_) rfl (by kernel_rfl) (by kernel_rfl) (by kernel_rfl) (fun _ _ _ h=>h) (Or.inl ⟨by rfl, ?_⟩) (by assumption) ?_
                  rotate_left
                  · intro wq hSw
                    go_simp
                    with_reducible rfl
                  simp only [Act.put,List.setIfInBounds_toArray,List.set_cons_zero,List.set_cons_succ]
                  refine wpAnyH_done (by kernel_rfl) ?_ _
                  go_wp2
                  go_meet
                  case rel =>
                    have q57g:U.heap.size≤w34.heap.size:=(R36).size
                    have q57b:=set8_below (g:=w34.heap.size) R46 q57g (.int .i64 v37.kind) (.string v37.attr) (.slice v37.qi v37.ni v37.ci) (.slice v37.qw v37.nw v37.cw) (.int .i64 v37.lo) (.int .i64 v37.hi) (.int .i64 v37.op) (.slice v37.qk v37.nk v37.ck)
                    refine ⟨w34.heap.size,v37,rfl,rfl,set8_blk (uh f47),q57b, ?_⟩
                    exact ((uh zm).toIn).keep (set8_below (g:=w34.heap.size) (uh zb) (Nat.le_refl _) (.int .i64 v37.kind) (.string v37.attr) (.slice v37.qi v37.ni v37.ci) (.slice v37.qw v37.nw v37.cw) (.int .i64 v37.lo) (.int .i64 v37.hi) (.int .i64 v37.op) (.slice v37.qk v37.nk v37.ck))
                exact AllReadyH.nil
              exact AllReadyH.nil
            refine AllReadyH.cons (o:=⟨some 3,.alloc 28,_,_,_,none⟩) rfl (fun K hK=>?_) ?_
            · go_simp
              refine hK.out _ _ (KS _ ((R26).alloc (R26).size _)) (fun hHeld=>?_)
              clear hK K
              obtain ⟨V58,h61⟩:∃ V58,World.alloc w24 (.cells #[.int .i64 0,.string ⟨#[]⟩,.slice none 0 0,.slice none 0 0,.int .i64 0,.int .i64 0,.int .i64 0,.slice none 0 0] 28)=V58:=⟨_,rfl⟩
              rw [h61]
              have R59:Below U.heap.size U V58:=by rw [← h61];exact (show Below U.heap.size U (World.alloc w24 (.cells #[.int .i64 0,.string ⟨#[]⟩,.slice none 0 0,.slice none 0 0,.int .i64 0,.int .i64 0,.int .i64 0,.slice none 0 0] 28)) from (R26).alloc (R26).size _)
              have f60b:Below w24.heap.size w24 V58:=by rw [← h61];exact (show Below w24.heap.size w24 (World.alloc w24 (.cells #[.int .i64 0,.string ⟨#[]⟩,.slice none 0 0,.slice none 0 0,.int .i64 0,.int .i64 0,.int .i64 0,.slice none 0 0] 28)) from (Below.refl _ _).alloc (Nat.le_refl _) _)
              have f60:=hide (show V58.heap[w24.heap.size]? = some (.cells #[.int .i64 0,.string ⟨#[]⟩,.slice none 0 0,.slice none 0 0,.int .i64 0,.int .i64 0,.int .i64 0,.slice none 0 0] 28 (0,0)) by rw [← h61];exact box_nw _ _)
              have f62:=hide ((uh f28).keep f60b)
              clear f28
              have f63:=hide ((uh f29).keep f60b)
              clear f29
              have f64:=hide ((uh f30).keep f60b)
              clear f30
              have f65:=hide (((f60b).block _ (heap_lt (uh f31))).trans (uh f31))
              clear f31
              have f66:=hide ((uh f32).keep f60b)
              clear f32
              have f67:=hide ((uh f33).keep f60b)
              clear f33
              clear h61 f60b
              refine wpAnyH_ready (rs:=[6]) (by kernel_rfl) (by simp) ?_
              refine AllReadyH.cons (o:=⟨some 18,.call { callee:=.value (.func 6),args:=#[.tmp 17],argTypes:=#[28] },_,_,_,none⟩) rfl (fun K hK=>?_) ?_
              · go_simp
                refine (cPush v27 _ (uh f67).toIn).mono ?_
                rintro e w68 ⟨⟨v71,rfl,b69n⟩,b69⟩
                simp only [Nv.val]
                have R70:Below U.heap.size U w68:=below_sub R59 b69
                have b69z:=heap_lt (uh f60)
                have f72:=hide ((uh f62).keep b69)
                clear f62
                have f73:=hide ((uh f63).keep b69)
                clear f63
                have f74:=hide ((uh f64).keep b69)
                clear f64
                have f75:=hide (((b69).block _ (heap_lt (uh f65))).trans (uh f65))
                clear f65
                have f76:=hide ((uh f66).keep b69)
                clear f66
                have f77:=hide ((uh f67).keep b69)
                clear f67
                have f78:=hide (((b69).block _ (heap_lt (uh f60))).trans (uh f60))
                clear f60
                have f79:=hide b69n
                clear b69 b69n
                refine hK.out _ _ (KS _ R70) (fun hHeld=>?_)
                clear hK K
                refine wpAnyH_take (i:=7) (oi:=⟨some 11,.move (.tmp 18),_,_,_,none⟩) (v:=?_) rfl (by kernel_rfl) (by kernel_rfl) (by kernel_rfl) (fun _ _ _ h=>h) (Or.inl ⟨by rfl, ?_⟩) (by assumption) ?_
                rotate_left
                · intro wq hSw
                  go_simp
                  with_reducible rfl
                simp only [Act.put,List.setIfInBounds_toArray,List.set_cons_zero,List.set_cons_succ]
                refine wpAnyH_take (i:=8) (oi:=⟨some 19,.extract (.tmp 11) 0,_,_,_,none⟩) (v:=?_) rfl (by kernel_rfl) (by kernel_rfl) (by kernel_rfl) (fun _ _ _ h=>h) (Or.inl ⟨by rfl, ?_⟩) (by assumption) ?_
                rotate_left
                · intro wq hSw
                  go_simp
                  with_reducible rfl
                simp only [Act.put,List.setIfInBounds_toArray,List.set_cons_zero,List.set_cons_succ]
                refine wpAnyH_take (i:=9) (oi:=⟨some 20,.extract (.tmp 11) 1,_,_,_,none⟩) (v:=?_) rfl (by kernel_rfl) (by kernel_rfl) (by kernel_rfl) (fun _ _ _ h=>h) (Or.inl ⟨by rfl, ?_⟩) (by assumption) ?_
                rotate_left
                · intro wq hSw
                  go_simp
                  with_reducible rfl
                simp only [Act.put,List.setIfInBounds_toArray,List.set_cons_zero,List.set_cons_succ]
                refine wpAnyH_ready (rs:=[11]) (by kernel_rfl) (by simp) ?_
                refine AllReadyH.cons (o:=⟨none,.store 28 (.tmp 3) (.tmp 19),_,_,_,none⟩) rfl (fun K hK=>?_) ?_
                · have z80g:U.heap.size≤w24.heap.size:=(R26).size
                  obtain ⟨z80_0,z80_1,z80_2,z80_3,z80_4,z80_5,z80_6,z80_7⟩:=of8' (uh f78)
                  have z80f:∀ o,World.frozen? w68 ⟨w24.heap.size,o,none⟩=false:=fun o=>frozen_free (uh f78)
                  have z80l:=heap_lt (uh f78)
                  go_simp
                  refine hK.out _ _ (KS _ (set8_below (g:=w24.heap.size) R70 z80g (.int .i64 v71.kind) (.string v71.attr) (.slice v71.qi v71.ni v71.ci) (.slice v71.qw v71.nw v71.cw) (.int .i64 v71.lo) (.int .i64 v71.hi) (.int .i64 v71.op) (.slice v71.qk v71.nk v71.ck))) (fun hHeld=>?_)
                  clear hK K
                  refine wpAnyH_take (i:=12) (oi:=⟨some 4,.assign (.tmp 20),_,_,_,none⟩) (v:=?_) rfl (by kernel_rfl) (by kernel_rfl) (by kernel_rfl) (fun _ _ _ h=>h) (Or.inl ⟨by rfl, ?_⟩) (by assumption) ?_
                  rotate_left
                  · intro wq hSw
                    go_simp
                    with_reducible rfl
                  simp only [Act.put,List.setIfInBounds_toArray,List.set_cons_zero,List.set_cons_succ]
                  refine wpAnyH_done (by kernel_rfl) ?_ _
                  go_wp2
                  go_meet
                  case rel =>
                    have q81g:U.heap.size≤w24.heap.size:=(R26).size
                    have q81b:=set8_below (g:=w24.heap.size) R70 q81g (.int .i64 v71.kind) (.string v71.attr) (.slice v71.qi v71.ni v71.ci) (.slice v71.qw v71.nw v71.cw) (.int .i64 v71.lo) (.int .i64 v71.hi) (.int .i64 v71.op) (.slice v71.qk v71.nk v71.ck)
                    refine ⟨w24.heap.size,v71,rfl,rfl,set8_blk (uh f78),q81b, ?_⟩
                    exact ((uh f79).up (set8_up (g:=w24.heap.size) _ b69z (.int .i64 v71.kind) (.string v71.attr) (.slice v71.qi v71.ni v71.ci) (.slice v71.qw v71.nw v71.cw) (.int .i64 v71.lo) (.int .i64 v71.hi) (.int .i64 v71.op) (.slice v71.qk v71.nk v71.ck))).toIn
                exact AllReadyH.nil
              exact AllReadyH.nil
            exact AllReadyH.nil
          refine AllReadyH.cons (o:=⟨some 3,.alloc 28,_,_,_,none⟩) rfl (fun K hK=>?_) ?_
          · go_simp
            refine hK.out _ _ (KS _ ((R17).alloc (R17).size _)) (fun hHeld=>?_)
            clear hK K
            obtain ⟨V82,h85⟩:∃ V82,World.alloc w15 (.cells #[.int .i64 0,.string ⟨#[]⟩,.slice none 0 0,.slice none 0 0,.int .i64 0,.int .i64 0,.int .i64 0,.slice none 0 0] 28)=V82:=⟨_,rfl⟩
            rw [h85]
            have R83:Below U.heap.size U V82:=by rw [← h85];exact (show Below U.heap.size U (World.alloc w15 (.cells #[.int .i64 0,.string ⟨#[]⟩,.slice none 0 0,.slice none 0 0,.int .i64 0,.int .i64 0,.int .i64 0,.slice none 0 0] 28)) from (R17).alloc (R17).size _)
            have f84b:Below w15.heap.size w15 V82:=by rw [← h85];exact (show Below w15.heap.size w15 (World.alloc w15 (.cells #[.int .i64 0,.string ⟨#[]⟩,.slice none 0 0,.slice none 0 0,.int .i64 0,.int .i64 0,.int .i64 0,.slice none 0 0] 28)) from (Below.refl _ _).alloc (Nat.le_refl _) _)
            have f84:=hide (show V82.heap[w15.heap.size]? = some (.cells #[.int .i64 0,.string ⟨#[]⟩,.slice none 0 0,.slice none 0 0,.int .i64 0,.int .i64 0,.int .i64 0,.slice none 0 0] 28 (0,0)) by rw [← h85];exact box_nw _ _)
            have f86:=hide ((uh f19).keep f84b)
            clear f19
            have f87:=hide ((uh f20).keep f84b)
            clear f20
            have f88:=hide ((uh f21).keep f84b)
            clear f21
            have f89:=hide (((f84b).block _ (heap_lt (uh f22))).trans (uh f22))
            clear f22
            have f90:=hide ((uh f23).keep f84b)
            clear f23
            clear h85 f84b
            refine wpAnyH_ready (rs:=[5]) (by kernel_rfl) (by simp) ?_
            refine AllReadyH.cons (o:=⟨some 17,.call { callee:=.value (.func 12),args:=#[.tmp 16],argTypes:=#[28] },_,_,_,none⟩) rfl (fun K hK=>?_) ?_
            · go_simp
              refine (cNot TA v18 _ (uh f90).toIn (by decide +kernel)).mono ?_
              rintro e w91 ⟨⟨v94,rfl,b92n⟩,b92⟩
              simp only [Nv.val]
              have R93:Below U.heap.size U w91:=below_sub R83 b92
              have b92z:=heap_lt (uh f84)
              have f95:=hide ((uh f86).keep b92)
              clear f86
              have f96:=hide ((uh f87).keep b92)
              clear f87
              have f97:=hide ((uh f88).keep b92)
              clear f88
              have f98:=hide (((b92).block _ (heap_lt (uh f89))).trans (uh f89))
              clear f89
              have f99:=hide ((uh f90).keep b92)
              clear f90
              have f100:=hide (((b92).block _ (heap_lt (uh f84))).trans (uh f84))
              clear f84
              have f101:=hide b92n
              clear b92 b92n
              refine hK.out _ _ (KS _ R93) (fun hHeld=>?_)
              clear hK K
              refine wpAnyH_ready (rs:=[6]) (by kernel_rfl) (by simp) ?_
              refine AllReadyH.cons (o:=⟨some 18,.call { callee:=.value (.func 6),args:=#[.tmp 17],argTypes:=#[28] },_,_,_,none⟩) rfl (fun K hK=>?_) ?_
              · go_simp
                refine (cPush v94 _ (uh f101).toIn).mono ?_
                rintro e w102 ⟨⟨v105,rfl,b103n⟩,b103⟩
                simp only [Nv.val]
                have R104:Below U.heap.size U w102:=below_sub R93 b103
                have b103z:=heap_lt (uh f100)
                have f106:=hide ((uh f95).keep b103)
                clear f95
                have f107:=hide ((uh f96).keep b103)
                clear f96
                have f108:=hide ((uh f97).keep b103)
                clear f97
                have f109:=hide (((b103).block _ (heap_lt (uh f98))).trans (uh f98))
                clear f98
                have f110:=hide ((uh f99).keep b103)
                clear f99
                have f111:=hide (((b103).block _ (heap_lt (uh f100))).trans (uh f100))
                clear f100
                have f112:=hide ((uh f101).keep b103)
                clear f101
                have f113:=hide b103n
                clear b103 b103n
                refine hK.out _ _ (KS _ R104) (fun hHeld=>?_)
                clear hK K
                refine wpAnyH_take (i:=7) (oi:=⟨some 11,.move (.tmp 18),_,_,_,none⟩) (v:=?_) rfl (by kernel_rfl) (by kernel_rfl) (by kernel_rfl) (fun _ _ _ h=>h) (Or.inl ⟨by rfl, ?_⟩) (by assumption) ?_
                rotate_left
                · intro wq hSw
                  go_simp
                  with_reducible rfl
                simp only [Act.put,List.setIfInBounds_toArray,List.set_cons_zero,List.set_cons_succ]
                refine wpAnyH_take (i:=8) (oi:=⟨some 19,.extract (.tmp 11) 0,_,_,_,none⟩) (v:=?_) rfl (by kernel_rfl) (by kernel_rfl) (by kernel_rfl) (fun _ _ _ h=>h) (Or.inl ⟨by rfl, ?_⟩) (by assumption) ?_
                rotate_left
                · intro wq hSw
                  go_simp
                  with_reducible rfl
                simp only [Act.put,List.setIfInBounds_toArray,List.set_cons_zero,List.set_cons_succ]
                refine wpAnyH_take (i:=9) (oi:=⟨some 20,.extract (.tmp 11) 1,_,_,_,none⟩) (v:=?_) rfl (by kernel_rfl) (by kernel_rfl) (by kernel_rfl) (fun _ _ _ h=>h) (Or.inl ⟨by rfl, ?_⟩) (by assumption) ?_
                rotate_left
                · intro wq hSw
                  go_simp
                  with_reducible rfl
                simp only [Act.put,List.setIfInBounds_toArray,List.set_cons_zero,List.set_cons_succ]
                refine wpAnyH_ready (rs:=[11]) (by kernel_rfl) (by simp) ?_
                refine AllReadyH.cons (o:=⟨none,.store 28 (.tmp 3) (.tmp 19),_,_,_,none⟩) rfl (fun K hK=>?_) ?_
                · have z114g:U.heap.size≤w15.heap.size:=(R17).size
                  obtain ⟨z114_0,z114_1,z114_2,z114_3,z114_4,z114_5,z114_6,z114_7⟩:=of8' (uh f111)
                  have z114f:∀ o,World.frozen? w102 ⟨w15.heap.size,o,none⟩=false:=fun o=>frozen_free (uh f111)
                  have z114l:=heap_lt (uh f111)
                  go_simp
                  refine hK.out _ _ (KS _ (set8_below (g:=w15.heap.size) R104 z114g (.int .i64 v105.kind) (.string v105.attr) (.slice v105.qi v105.ni v105.ci) (.slice v105.qw v105.nw v105.cw) (.int .i64 v105.lo) (.int .i64 v105.hi) (.int .i64 v105.op) (.slice v105.qk v105.nk v105.ck))) (fun hHeld=>?_)
                  clear hK K
                  refine wpAnyH_take (i:=12) (oi:=⟨some 4,.assign (.tmp 20),_,_,_,none⟩) (v:=?_) rfl (by kernel_rfl) (by kernel_rfl) (by kernel_rfl) (fun _ _ _ h=>h) (Or.inl ⟨by rfl, ?_⟩) (by assumption) ?_
                  rotate_left
                  · intro wq hSw
                    go_simp
                    with_reducible rfl
                  simp only [Act.put,List.setIfInBounds_toArray,List.set_cons_zero,List.set_cons_succ]
                  refine wpAnyH_done (by kernel_rfl) ?_ _
                  go_wp2
                  go_meet
                  case rel =>
                    have q115g:U.heap.size≤w15.heap.size:=(R17).size
                    have q115b:=set8_below (g:=w15.heap.size) R104 q115g (.int .i64 v105.kind) (.string v105.attr) (.slice v105.qi v105.ni v105.ci) (.slice v105.qw v105.nw v105.cw) (.int .i64 v105.lo) (.int .i64 v105.hi) (.int .i64 v105.op) (.slice v105.qk v105.nk v105.ck)
                    refine ⟨w15.heap.size,v105,rfl,rfl,set8_blk (uh f111),q115b, ?_⟩
                    exact ((uh f113).up (set8_up (g:=w15.heap.size) _ b103z (.int .i64 v105.kind) (.string v105.attr) (.slice v105.qi v105.ni v105.ci) (.slice v105.qw v105.nw v105.cw) (.int .i64 v105.lo) (.int .i64 v105.hi) (.int .i64 v105.op) (.slice v105.qk v105.nk v105.ck))).toIn
                exact AllReadyH.nil
              exact AllReadyH.nil
            exact AllReadyH.nil
          exact AllReadyH.nil
        refine AllReadyH.cons (o:=⟨some 3,.alloc 28,_,_,_,none⟩) rfl (fun K hK=>?_) ?_
        · go_simp
          refine hK.out _ _ (KS _ ((R9).alloc (R9).size _)) (fun hHeld=>?_)
          clear hK K
          obtain ⟨V116,h119⟩:∃ V116,World.alloc V8 (.cells #[.int .i64 0,.string ⟨#[]⟩,.slice none 0 0,.slice none 0 0,.int .i64 0,.int .i64 0,.int .i64 0,.slice none 0 0] 28)=V116:=⟨_,rfl⟩
          rw [h119]
          have R117:Below U.heap.size U V116:=by rw [← h119];exact (show Below U.heap.size U (World.alloc V8 (.cells #[.int .i64 0,.string ⟨#[]⟩,.slice none 0 0,.slice none 0 0,.int .i64 0,.int .i64 0,.int .i64 0,.slice none 0 0] 28)) from (R9).alloc (R9).size _)
          have f118b:Below V8.heap.size V8 V116:=by rw [← h119];exact (show Below V8.heap.size V8 (World.alloc V8 (.cells #[.int .i64 0,.string ⟨#[]⟩,.slice none 0 0,.slice none 0 0,.int .i64 0,.int .i64 0,.int .i64 0,.slice none 0 0] 28)) from (Below.refl _ _).alloc (Nat.le_refl _) _)
          have f118:=hide (show V116.heap[V8.heap.size]? = some (.cells #[.int .i64 0,.string ⟨#[]⟩,.slice none 0 0,.slice none 0 0,.int .i64 0,.int .i64 0,.int .i64 0,.slice none 0 0] 28 (0,0)) by rw [← h119];exact box_nw _ _)
          have f120:=hide ((uh f12).keep f118b)
          clear f12
          have f121:=hide ((uh f13).keep f118b)
          clear f13
          have f122:=hide ((uh f14).keep f118b)
          clear f14
          have f123:=hide (((f118b).block _ (heap_lt (uh f10))).trans (uh f10))
          clear f10
          clear h119 f118b
          refine wpAnyH_ready (rs:=[4]) (by kernel_rfl) (by simp) ?_
          refine AllReadyH.cons (o:=⟨some 16,.call { callee:=.value (.func 13),args:=#[.tmp 15],argTypes:=#[26] },_,_,_,none⟩) rfl (fun K hK=>?_) ?_
          · go_simp
            refine (cAnd TP (notT TQ) vp v4 _ _ (uh f123) (uh f120) (uh f122).toIn (by decide +kernel)).mono ?_
            rintro e w124 ⟨⟨v127,rfl,b125n⟩,b125⟩
            simp only [Nv.val]
            have R126:Below U.heap.size U w124:=below_sub R117 b125
            have b125z:=heap_lt (uh f118)
            have f128:=hide ((uh f120).keep b125)
            clear f120
            have f129:=hide ((uh f121).keep b125)
            clear f121
            have f130:=hide ((uh f122).keep b125)
            clear f122
            have f131:=hide (((b125).block _ (heap_lt (uh f123))).trans (uh f123))
            clear f123
            have f132:=hide (((b125).block _ (heap_lt (uh f118))).trans (uh f118))
            clear f118
            have f133:=hide b125n
            clear b125 b125n
            refine hK.out _ _ (KS _ R126) (fun hHeld=>?_)
            clear hK K
            refine wpAnyH_ready (rs:=[5]) (by kernel_rfl) (by simp) ?_
            refine AllReadyH.cons (o:=⟨some 17,.call { callee:=.value (.func 12),args:=#[.tmp 16],argTypes:=#[28] },_,_,_,none⟩) rfl (fun K hK=>?_) ?_
            · go_simp
              refine (cNot TA v127 _ (uh f133).toIn (by decide +kernel)).mono ?_
              rintro e w134 ⟨⟨v137,rfl,b135n⟩,b135⟩
              simp only [Nv.val]
              have R136:Below U.heap.size U w134:=below_sub R126 b135
              have b135z:=heap_lt (uh f132)
              have f138:=hide ((uh f128).keep b135)
              clear f128
              have f139:=hide ((uh f129).keep b135)
              clear f129
              have f140:=hide ((uh f130).keep b135)
              clear f130
              have f141:=hide (((b135).block _ (heap_lt (uh f131))).trans (uh f131))
              clear f131
              have f142:=hide (((b135).block _ (heap_lt (uh f132))).trans (uh f132))
              clear f132
              have f143:=hide ((uh f133).keep b135)
              clear f133
              have f144:=hide b135n
              clear b135 b135n
              refine hK.out _ _ (KS _ R136) (fun hHeld=>?_)
              clear hK K
              refine wpAnyH_ready (rs:=[6]) (by kernel_rfl) (by simp) ?_
              refine AllReadyH.cons (o:=⟨some 18,.call { callee:=.value (.func 6),args:=#[.tmp 17],argTypes:=#[28] },_,_,_,none⟩) rfl (fun K hK=>?_) ?_
              · go_simp
                refine (cPush v137 _ (uh f144).toIn).mono ?_
                rintro e w145 ⟨⟨v148,rfl,b146n⟩,b146⟩
                simp only [Nv.val]
                have R147:Below U.heap.size U w145:=below_sub R136 b146
                have b146z:=heap_lt (uh f142)
                have f149:=hide ((uh f138).keep b146)
                clear f138
                have f150:=hide ((uh f139).keep b146)
                clear f139
                have f151:=hide ((uh f140).keep b146)
                clear f140
                have f152:=hide (((b146).block _ (heap_lt (uh f141))).trans (uh f141))
                clear f141
                have f153:=hide (((b146).block _ (heap_lt (uh f142))).trans (uh f142))
                clear f142
                have f154:=hide ((uh f143).keep b146)
                clear f143
                have f155:=hide ((uh f144).keep b146)
                clear f144
                have f156:=hide b146n
                clear b146 b146n
                refine hK.out _ _ (KS _ R147) (fun hHeld=>?_)
                clear hK K
                refine wpAnyH_take (i:=7) (oi:=⟨some 11,.move (.tmp 18),_,_,_,none⟩) (v:=?_) rfl (by kernel_rfl) (by kernel_rfl) (by kernel_rfl) (fun _ _ _ h=>h) (Or.inl ⟨by rfl, ?_⟩) (by assumption) ?_
                rotate_left
                · intro wq hSw
                  go_simp
                  with_reducible rfl
                simp only [Act.put,List.setIfInBounds_toArray,List.set_cons_zero,List.set_cons_succ]
                refine wpAnyH_take (i:=8) (oi:=⟨some 19,.extract (.tmp 11) 0,_,_,_,none⟩) (v:=?_) rfl (by kernel_rfl) (by kernel_rfl) (by kernel_rfl) (fun _ _ _ h=>h) (Or.inl ⟨by rfl, ?_⟩) (by assumption) ?_
                rotate_left
                · intro wq hSw
                  go_simp
                  with_reducible rfl
                simp only [Act.put,List.setIfInBounds_toArray,List.set_cons_zero,List.set_cons_succ]
                refine wpAnyH_take (i:=9) (oi:=⟨some 20,.extract (.tmp 11) 1,_,_,_,none⟩) (v:=?_) rfl (by kernel_rfl) (by kernel_rfl) (by kernel_rfl) (fun _ _ _ h=>h) (Or.inl ⟨by rfl, ?_⟩) (by assumption) ?_
                rotate_left
                · intro wq hSw
                  go_simp
                  with_reducible rfl
                simp only [Act.put,List.setIfInBounds_toArray,List.set_cons_zero,List.set_cons_succ]
                refine wpAnyH_ready (rs:=[11]) (by kernel_rfl) (by simp) ?_
                refine AllReadyH.cons (o:=⟨none,.store 28 (.tmp 3) (.tmp 19),_,_,_,none⟩) rfl (fun K hK=>?_) ?_
                · have z157g:U.heap.size≤V8.heap.size:=(R9).size
                  obtain ⟨z157_0,z157_1,z157_2,z157_3,z157_4,z157_5,z157_6,z157_7⟩:=of8' (uh f153)
                  have z157f:∀ o,World.frozen? w145 ⟨V8.heap.size,o,none⟩=false:=fun o=>frozen_free (uh f153)
                  have z157l:=heap_lt (uh f153)
                  go_simp
                  refine hK.out _ _ (KS _ (set8_below (g:=V8.heap.size) R147 z157g (.int .i64 v148.kind) (.string v148.attr) (.slice v148.qi v148.ni v148.ci) (.slice v148.qw v148.nw v148.cw) (.int .i64 v148.lo) (.int .i64 v148.hi) (.int .i64 v148.op) (.slice v148.qk v148.nk v148.ck))) (fun hHeld=>?_)
                  clear hK K
                  refine wpAnyH_take (i:=12) (oi:=⟨some 4,.assign (.tmp 20),_,_,_,none⟩) (v:=?_) rfl (by kernel_rfl) (by kernel_rfl) (by kernel_rfl) (fun _ _ _ h=>h) (Or.inl ⟨by rfl, ?_⟩) (by assumption) ?_
                  rotate_left
                  · intro wq hSw
                    go_simp
                    with_reducible rfl
                  simp only [Act.put,List.setIfInBounds_toArray,List.set_cons_zero,List.set_cons_succ]
                  refine wpAnyH_done (by kernel_rfl) ?_ _
                  go_wp2
                  go_meet
                  case rel =>
                    have q158g:U.heap.size≤V8.heap.size:=(R9).size
                    have q158b:=set8_below (g:=V8.heap.size) R147 q158g (.int .i64 v148.kind) (.string v148.attr) (.slice v148.qi v148.ni v148.ci) (.slice v148.qw v148.nw v148.cw) (.int .i64 v148.lo) (.int .i64 v148.hi) (.int .i64 v148.op) (.slice v148.qk v148.nk v148.ck)
                    refine ⟨V8.heap.size,v148,rfl,rfl,set8_blk (uh f153),q158b, ?_⟩
                    exact ((uh f156).up (set8_up (g:=V8.heap.size) _ b146z (.int .i64 v148.kind) (.string v148.attr) (.slice v148.qi v148.ni v148.ci) (.slice v148.qw v148.nw v148.cw) (.int .i64 v148.lo) (.int .i64 v148.hi) (.int .i64 v148.op) (.slice v148.qk v148.nk v148.ck))).toIn
                exact AllReadyH.nil
              exact AllReadyH.nil
            exact AllReadyH.nil
          exact AllReadyH.nil
        exact AllReadyH.nil
      refine AllReadyH.cons (o:=⟨some 3,.alloc 28,_,_,_,none⟩) rfl (fun K hK=>?_) ?_
      · go_simp
        refine hK.out _ _ (KS _ ((R3).alloc (R3).size _)) (fun hHeld=>?_)
        clear hK K
        obtain ⟨V159,h162⟩:∃ V159,World.alloc w1 (.cells #[.int .i64 0,.string ⟨#[]⟩,.slice none 0 0,.slice none 0 0,.int .i64 0,.int .i64 0,.int .i64 0,.slice none 0 0] 28)=V159:=⟨_,rfl⟩
        rw [h162]
        have R160:Below U.heap.size U V159:=by rw [← h162];exact (show Below U.heap.size U (World.alloc w1 (.cells #[.int .i64 0,.string ⟨#[]⟩,.slice none 0 0,.slice none 0 0,.int .i64 0,.int .i64 0,.int .i64 0,.slice none 0 0] 28)) from (R3).alloc (R3).size _)
        have f161b:Below w1.heap.size w1 V159:=by rw [← h162];exact (show Below w1.heap.size w1 (World.alloc w1 (.cells #[.int .i64 0,.string ⟨#[]⟩,.slice none 0 0,.slice none 0 0,.int .i64 0,.int .i64 0,.int .i64 0,.slice none 0 0] 28)) from (Below.refl _ _).alloc (Nat.le_refl _) _)
        have f161:=hide (show V159.heap[w1.heap.size]? = some (.cells #[.int .i64 0,.string ⟨#[]⟩,.slice none 0 0,.slice none 0 0,.int .i64 0,.int .i64 0,.int .i64 0,.slice none 0 0] 28 (0,0)) by rw [← h162];exact box_nw _ _)
        have f163:=hide ((uh f5).keep f161b)
        clear f5
        have f164:=hide ((uh f6).keep f161b)
        clear f6
        have f165:=hide ((uh f7).keep f161b)
        clear f7
        clear h162 f161b
        refine wpAnyH_ready (rs:=[3]) (by kernel_rfl) (by simp) ?_
        refine AllReadyH.cons (o:=⟨some 15,.buildSlice 26 2 #[(0,.tmp 12),(1,.tmp 14)],_,_,_,none⟩) rfl (fun K hK=>?_) ?_
        · go_simp
          refine hK.out _ _ (KS _ ((R160).alloc (R160).size _)) (fun hHeld=>?_)
          clear hK K
          obtain ⟨V166,h169⟩:∃ V166,World.alloc V159 (.cells #[.int .i64 vp.kind,.string vp.attr,.slice vp.qi vp.ni vp.ci,.slice vp.qw vp.nw vp.cw,.int .i64 vp.lo,.int .i64 vp.hi,.int .i64 vp.op,.slice vp.qk vp.nk vp.ck,.int .i64 v4.kind,.string v4.attr,.slice v4.qi v4.ni v4.ci,.slice v4.qw v4.nw v4.cw,.int .i64 v4.lo,.int .i64 v4.hi,.int .i64 v4.op,.slice v4.qk v4.nk v4.ck] 28)=V166:=⟨_,rfl⟩
          rw [h169]
          have R167:Below U.heap.size U V166:=by rw [← h169];exact (show Below U.heap.size U (World.alloc V159 (.cells #[.int .i64 vp.kind,.string vp.attr,.slice vp.qi vp.ni vp.ci,.slice vp.qw vp.nw vp.cw,.int .i64 vp.lo,.int .i64 vp.hi,.int .i64 vp.op,.slice vp.qk vp.nk vp.ck,.int .i64 v4.kind,.string v4.attr,.slice v4.qi v4.ni v4.ci,.slice v4.qw v4.nw v4.cw,.int .i64 v4.lo,.int .i64 v4.hi,.int .i64 v4.op,.slice v4.qk v4.nk v4.ck] 28)) from (R160).alloc (R160).size _)
          have f168b:Below V159.heap.size V159 V166:=by rw [← h169];exact (show Below V159.heap.size V159 (World.alloc V159 (.cells #[.int .i64 vp.kind,.string vp.attr,.slice vp.qi vp.ni vp.ci,.slice vp.qw vp.nw vp.cw,.int .i64 vp.lo,.int .i64 vp.hi,.int .i64 vp.op,.slice vp.qk vp.nk vp.ck,.int .i64 v4.kind,.string v4.attr,.slice v4.qi v4.ni v4.ci,.slice v4.qw v4.nw v4.cw,.int .i64 v4.lo,.int .i64 v4.hi,.int .i64 v4.op,.slice v4.qk v4.nk v4.ck] 28)) from (Below.refl _ _).alloc (Nat.le_refl _) _)
          have f168:=hide (show V166.heap[V159.heap.size]? = some (.cells #[.int .i64 vp.kind,.string vp.attr,.slice vp.qi vp.ni vp.ci,.slice vp.qw vp.nw vp.cw,.int .i64 vp.lo,.int .i64 vp.hi,.int .i64 vp.op,.slice vp.qk vp.nk vp.ck,.int .i64 v4.kind,.string v4.attr,.slice v4.qi v4.ni v4.ci,.slice v4.qw v4.nw v4.cw,.int .i64 v4.lo,.int .i64 v4.hi,.int .i64 v4.op,.slice v4.qk v4.nk v4.ck] 28 (0,0)) by rw [← h169];exact box_nw _ _)
          have f170:=hide ((uh f163).keep f168b)
          clear f163
          have f171:=hide ((uh f164).keep f168b)
          clear f164
          have f172:=hide ((uh f165).keep f168b)
          clear f165
          have f173:=hide (((f168b).block _ (heap_lt (uh f161))).trans (uh f161))
          clear f161
          clear h169 f168b
          refine wpAnyH_ready (rs:=[4]) (by kernel_rfl) (by simp) ?_
          refine AllReadyH.cons (o:=⟨some 16,.call { callee:=.value (.func 13),args:=#[.tmp 15],argTypes:=#[26] },_,_,_,none⟩) rfl (fun K hK=>?_) ?_
          · go_simp
            refine (cAnd TP (notT TQ) vp v4 _ _ (uh f168) (uh f170) (uh f172).toIn (by decide +kernel)).mono ?_
            rintro e w174 ⟨⟨v177,rfl,b175n⟩,b175⟩
            simp only [Nv.val]
            have R176:Below U.heap.size U w174:=below_sub R167 b175
            have b175z:=heap_lt (uh f173)
            have f178:=hide ((uh f170).keep b175)
            clear f170
            have f179:=hide ((uh f171).keep b175)
            clear f171
            have f180:=hide ((uh f172).keep b175)
            clear f172
            have f181:=hide (((b175).block _ (heap_lt (uh f173))).trans (uh f173))
            clear f173
            have f182:=hide (((b175).block _ (heap_lt (uh f168))).trans (uh f168))
            clear f168
            have f183:=hide b175n
            clear b175 b175n
            refine hK.out _ _ (KS _ R176) (fun hHeld=>?_)
            clear hK K
            refine wpAnyH_ready (rs:=[5]) (by kernel_rfl) (by simp) ?_
            refine AllReadyH.cons (o:=⟨some 17,.call { callee:=.value (.func 12),args:=#[.tmp 16],argTypes:=#[28] },_,_,_,none⟩) rfl (fun K hK=>?_) ?_
            · go_simp
              refine (cNot TA v177 _ (uh f183).toIn (by decide +kernel)).mono ?_
              rintro e w184 ⟨⟨v187,rfl,b185n⟩,b185⟩
              simp only [Nv.val]
              have R186:Below U.heap.size U w184:=below_sub R176 b185
              have b185z:=heap_lt (uh f181)
              have f188:=hide ((uh f178).keep b185)
              clear f178
              have f189:=hide ((uh f179).keep b185)
              clear f179
              have f190:=hide ((uh f180).keep b185)
              clear f180
              have f191:=hide (((b185).block _ (heap_lt (uh f181))).trans (uh f181))
              clear f181
              have f192:=hide (((b185).block _ (heap_lt (uh f182))).trans (uh f182))
              clear f182
              have f193:=hide ((uh f183).keep b185)
              clear f183
              have f194:=hide b185n
              clear b185 b185n
              refine hK.out _ _ (KS _ R186) (fun hHeld=>?_)
              clear hK K
              refine wpAnyH_ready (rs:=[6]) (by kernel_rfl) (by simp) ?_
              refine AllReadyH.cons (o:=⟨some 18,.call { callee:=.value (.func 6),args:=#[.tmp 17],argTypes:=#[28] },_,_,_,none⟩) rfl (fun K hK=>?_) ?_
              · go_simp
                refine (cPush v187 _ (uh f194).toIn).mono ?_
                rintro e w195 ⟨⟨v198,rfl,b196n⟩,b196⟩
                simp only [Nv.val]
                have R197:Below U.heap.size U w195:=below_sub R186 b196
                have b196z:=heap_lt (uh f191)
                have f199:=hide ((uh f188).keep b196)
                clear f188
                have f200:=hide ((uh f189).keep b196)
                clear f189
                have f201:=hide ((uh f190).keep b196)
                clear f190
                have f202:=hide (((b196).block _ (heap_lt (uh f191))).trans (uh f191))
                clear f191
                have f203:=hide (((b196).block _ (heap_lt (uh f192))).trans (uh f192))
                clear f192
                have f204:=hide ((uh f193).keep b196)
                clear f193
                have f205:=hide ((uh f194).keep b196)
                clear f194
                have f206:=hide b196n
                clear b196 b196n
                refine hK.out _ _ (KS _ R197) (fun hHeld=>?_)
                clear hK K
                refine wpAnyH_take (i:=7) (oi:=⟨some 11,.move (.tmp 18),_,_,_,none⟩) (v:=?_) rfl (by kernel_rfl) (by kernel_rfl) (by kernel_rfl) (fun _ _ _ h=>h) (Or.inl ⟨by rfl, ?_⟩) (by assumption) ?_
                rotate_left
                · intro wq hSw
                  go_simp
                  with_reducible rfl
                simp only [Act.put,List.setIfInBounds_toArray,List.set_cons_zero,List.set_cons_succ]
                refine wpAnyH_take (i:=8) (oi:=⟨some 19,.extract (.tmp 11) 0,_,_,_,none⟩) (v:=?_) rfl (by kernel_rfl) (by kernel_rfl) (by kernel_rfl) (fun _ _ _ h=>h) (Or.inl ⟨by rfl, ?_⟩) (by assumption) ?_
                rotate_left
                · intro wq hSw
                  go_simp
                  with_reducible rfl
                simp only [Act.put,List.setIfInBounds_toArray,List.set_cons_zero,List.set_cons_succ]
                refine wpAnyH_take (i:=9) (oi:=⟨some 20,.extract (.tmp 11) 1,_,_,_,none⟩) (v:=?_) rfl (by kernel_rfl) (by kernel_rfl) (by kernel_rfl) (fun _ _ _ h=>h) (Or.inl ⟨by rfl, ?_⟩) (by assumption) ?_
                rotate_left
                · intro wq hSw
                  go_simp
                  with_reducible rfl
                simp only [Act.put,List.setIfInBounds_toArray,List.set_cons_zero,List.set_cons_succ]
                refine wpAnyH_ready (rs:=[11]) (by kernel_rfl) (by simp) ?_
                refine AllReadyH.cons (o:=⟨none,.store 28 (.tmp 3) (.tmp 19),_,_,_,none⟩) rfl (fun K hK=>?_) ?_
                · have z207g:U.heap.size≤w1.heap.size:=(R3).size
                  obtain ⟨z207_0,z207_1,z207_2,z207_3,z207_4,z207_5,z207_6,z207_7⟩:=of8' (uh f202)
                  have z207f:∀ o,World.frozen? w195 ⟨w1.heap.size,o,none⟩=false:=fun o=>frozen_free (uh f202)
                  have z207l:=heap_lt (uh f202)
                  go_simp
                  refine hK.out _ _ (KS _ (set8_below (g:=w1.heap.size) R197 z207g (.int .i64 v198.kind) (.string v198.attr) (.slice v198.qi v198.ni v198.ci) (.slice v198.qw v198.nw v198.cw) (.int .i64 v198.lo) (.int .i64 v198.hi) (.int .i64 v198.op) (.slice v198.qk v198.nk v198.ck))) (fun hHeld=>?_)
                  clear hK K
                  refine wpAnyH_take (i:=12) (oi:=⟨some 4,.assign (.tmp 20),_,_,_,none⟩) (v:=?_) rfl (by kernel_rfl) (by kernel_rfl) (by kernel_rfl) (fun _ _ _ h=>h) (Or.inl ⟨by rfl, ?_⟩) (by assumption) ?_
                  rotate_left
                  · intro wq hSw
                    go_simp
                    with_reducible rfl
                  simp only [Act.put,List.setIfInBounds_toArray,List.set_cons_zero,List.set_cons_succ]
                  refine wpAnyH_done (by kernel_rfl) ?_ _
                  go_wp2
                  go_meet
                  case rel =>
                    have q208g:U.heap.size≤w1.heap.size:=(R3).size
                    have q208b:=set8_below (g:=w1.heap.size) R197 q208g (.int .i64 v198.kind) (.string v198.attr) (.slice v198.qi v198.ni v198.ci) (.slice v198.qw v198.nw v198.cw) (.int .i64 v198.lo) (.int .i64 v198.hi) (.int .i64 v198.op) (.slice v198.qk v198.nk v198.ck)
                    refine ⟨w1.heap.size,v198,rfl,rfl,set8_blk (uh f202),q208b, ?_⟩
                    exact ((uh f206).up (set8_up (g:=w1.heap.size) _ b196z (.int .i64 v198.kind) (.string v198.attr) (.slice v198.qi v198.ni v198.ci) (.slice v198.qw v198.nw v198.cw) (.int .i64 v198.lo) (.int .i64 v198.hi) (.int .i64 v198.op) (.slice v198.qk v198.nk v198.ck))).toIn
                exact AllReadyH.nil
              exact AllReadyH.nil
            exact AllReadyH.nil
          exact AllReadyH.nil
        exact AllReadyH.nil
      exact AllReadyH.nil
    refine AllReadyH.cons (o:=⟨some 3,.alloc 28,_,_,_,none⟩) rfl (fun K hK=>?_) ?_
    · go_simp
      refine hK.out _ _ (KS _ ((Below.refl _ _).alloc (Nat.le_refl _) _).drew) (fun hHeld=>?_)
      clear hK K
      obtain ⟨V209,h212⟩:∃ V209,(World.alloc U (.cells #[.int .i64 0,.string ⟨#[]⟩,.slice none 0 0,.slice none 0 0,.int .i64 0,.int .i64 0,.int .i64 0,.slice none 0 0] 28)).drew=V209:=⟨_,rfl⟩
      rw [h212]
      have R210:Below U.heap.size U V209:=by rw [← h212];exact (show Below U.heap.size U (World.alloc U.drew (.cells #[.int .i64 0,.string ⟨#[]⟩,.slice none 0 0,.slice none 0 0,.int .i64 0,.int .i64 0,.int .i64 0,.slice none 0 0] 28)) from (R0).alloc (R0).size _)
      have f211b:Below U.drew.heap.size U.drew V209:=by rw [← h212];exact (show Below U.drew.heap.size U.drew (World.alloc U.drew (.cells #[.int .i64 0,.string ⟨#[]⟩,.slice none 0 0,.slice none 0 0,.int .i64 0,.int .i64 0,.int .i64 0,.slice none 0 0] 28)) from (Below.refl _ _).alloc (Nat.le_refl _) _)
      have f211:=hide (show V209.heap[U.heap.size]? = some (.cells #[.int .i64 0,.string ⟨#[]⟩,.slice none 0 0,.slice none 0 0,.int .i64 0,.int .i64 0,.int .i64 0,.slice none 0 0] 28 (0,0)) by rw [← h212];exact box_nw _ _)
      have f213:=hide ((uh HP0).keep f211b)
      clear HP0
      have f214:=hide ((uh HQ0).keep f211b)
      clear HQ0
      clear h212 f211b
      refine wpAnyH_ready (rs:=[2]) (by kernel_rfl) (by simp) ?_
      refine AllReadyH.cons (o:=⟨some 14,.call { callee:=.value (.func 12),args:=#[.tmp 13],argTypes:=#[28] },_,_,_,none⟩) rfl (fun K hK=>?_) ?_
      · go_simp
        refine (cNot TQ vq _ (uh f214) (by decide +kernel)).mono ?_
        rintro e w215 ⟨⟨v218,rfl,b216n⟩,b216⟩
        simp only [Nv.val]
        have R217:Below U.heap.size U w215:=below_sub R210 b216
        have b216z:=heap_lt (uh f211)
        have f219:=hide ((uh f213).keep b216)
        clear f213
        have f220:=hide ((uh f214).keep b216)
        clear f214
        have f221:=hide (((b216).block _ (heap_lt (uh f211))).trans (uh f211))
        clear f211
        have f222:=hide b216n
        clear b216 b216n
        refine hK.out _ _ (KS _ R217) (fun hHeld=>?_)
        clear hK K
        refine wpAnyH_ready (rs:=[3]) (by kernel_rfl) (by simp) ?_
        refine AllReadyH.cons (o:=⟨some 15,.buildSlice 26 2 #[(0,.tmp 12),(1,.tmp 14)],_,_,_,none⟩) rfl (fun K hK=>?_) ?_
        · go_simp
          refine hK.out _ _ (KS _ ((R217).alloc (R217).size _)) (fun hHeld=>?_)
          clear hK K
          obtain ⟨V223,h226⟩:∃ V223,World.alloc w215 (.cells #[.int .i64 vp.kind,.string vp.attr,.slice vp.qi vp.ni vp.ci,.slice vp.qw vp.nw vp.cw,.int .i64 vp.lo,.int .i64 vp.hi,.int .i64 vp.op,.slice vp.qk vp.nk vp.ck,.int .i64 v218.kind,.string v218.attr,.slice v218.qi v218.ni v218.ci,.slice v218.qw v218.nw v218.cw,.int .i64 v218.lo,.int .i64 v218.hi,.int .i64 v218.op,.slice v218.qk v218.nk v218.ck] 28)=V223:=⟨_,rfl⟩
          rw [h226]
          have R224:Below U.heap.size U V223:=by rw [← h226];exact (show Below U.heap.size U (World.alloc w215 (.cells #[.int .i64 vp.kind,.string vp.attr,.slice vp.qi vp.ni vp.ci,.slice vp.qw vp.nw vp.cw,.int .i64 vp.lo,.int .i64 vp.hi,.int .i64 vp.op,.slice vp.qk vp.nk vp.ck,.int .i64 v218.kind,.string v218.attr,.slice v218.qi v218.ni v218.ci,.slice v218.qw v218.nw v218.cw,.int .i64 v218.lo,.int .i64 v218.hi,.int .i64 v218.op,.slice v218.qk v218.nk v218.ck] 28)) from (R217).alloc (R217).size _)
          have f225b:Below w215.heap.size w215 V223:=by rw [← h226];exact (show Below w215.heap.size w215 (World.alloc w215 (.cells #[.int .i64 vp.kind,.string vp.attr,.slice vp.qi vp.ni vp.ci,.slice vp.qw vp.nw vp.cw,.int .i64 vp.lo,.int .i64 vp.hi,.int .i64 vp.op,.slice vp.qk vp.nk vp.ck,.int .i64 v218.kind,.string v218.attr,.slice v218.qi v218.ni v218.ci,.slice v218.qw v218.nw v218.cw,.int .i64 v218.lo,.int .i64 v218.hi,.int .i64 v218.op,.slice v218.qk v218.nk v218.ck] 28)) from (Below.refl _ _).alloc (Nat.le_refl _) _)
          have f225:=hide (show V223.heap[w215.heap.size]? = some (.cells #[.int .i64 vp.kind,.string vp.attr,.slice vp.qi vp.ni vp.ci,.slice vp.qw vp.nw vp.cw,.int .i64 vp.lo,.int .i64 vp.hi,.int .i64 vp.op,.slice vp.qk vp.nk vp.ck,.int .i64 v218.kind,.string v218.attr,.slice v218.qi v218.ni v218.ci,.slice v218.qw v218.nw v218.cw,.int .i64 v218.lo,.int .i64 v218.hi,.int .i64 v218.op,.slice v218.qk v218.nk v218.ck] 28 (0,0)) by rw [← h226];exact box_nw _ _)
          have f227:=hide ((uh f219).keep f225b)
          clear f219
          have f228:=hide ((uh f220).keep f225b)
          clear f220
          have f229:=hide (((f225b).block _ (heap_lt (uh f221))).trans (uh f221))
          clear f221
          have f230:=hide ((uh f222).keep f225b)
          clear f222
          clear h226 f225b
          refine wpAnyH_ready (rs:=[4]) (by kernel_rfl) (by simp) ?_
          refine AllReadyH.cons (o:=⟨some 16,.call { callee:=.value (.func 13),args:=#[.tmp 15],argTypes:=#[26] },_,_,_,none⟩) rfl (fun K hK=>?_) ?_
          · go_simp
            refine (cAnd TP (notT TQ) vp v218 _ _ (uh f225) (uh f227) (uh f230).toIn (by decide +kernel)).mono ?_
            rintro e w231 ⟨⟨v234,rfl,b232n⟩,b232⟩
            simp only [Nv.val]
            have R233:Below U.heap.size U w231:=below_sub R224 b232
            have b232z:=heap_lt (uh f229)
            have f235:=hide ((uh f227).keep b232)
            clear f227
            have f236:=hide ((uh f228).keep b232)
            clear f228
            have f237:=hide (((b232).block _ (heap_lt (uh f229))).trans (uh f229))
            clear f229
            have f238:=hide ((uh f230).keep b232)
            clear f230
            have f239:=hide (((b232).block _ (heap_lt (uh f225))).trans (uh f225))
            clear f225
            have f240:=hide b232n
            clear b232 b232n
            refine hK.out _ _ (KS _ R233) (fun hHeld=>?_)
            clear hK K
            refine wpAnyH_ready (rs:=[5]) (by kernel_rfl) (by simp) ?_
            refine AllReadyH.cons (o:=⟨some 17,.call { callee:=.value (.func 12),args:=#[.tmp 16],argTypes:=#[28] },_,_,_,none⟩) rfl (fun K hK=>?_) ?_
            · go_simp
              refine (cNot TA v234 _ (uh f240).toIn (by decide +kernel)).mono ?_
              rintro e w241 ⟨⟨v244,rfl,b242n⟩,b242⟩
              simp only [Nv.val]
              have R243:Below U.heap.size U w241:=below_sub R233 b242
              have b242z:=heap_lt (uh f237)
              have f245:=hide ((uh f235).keep b242)
              clear f235
              have f246:=hide ((uh f236).keep b242)
              clear f236
              have f247:=hide (((b242).block _ (heap_lt (uh f237))).trans (uh f237))
              clear f237
              have f248:=hide ((uh f238).keep b242)
              clear f238
              have f249:=hide (((b242).block _ (heap_lt (uh f239))).trans (uh f239))
              clear f239
              have f250:=hide ((uh f240).keep b242)
              clear f240
              have f251:=hide b242n
              clear b242 b242n
              refine hK.out _ _ (KS _ R243) (fun hHeld=>?_)
              clear hK K
              refine wpAnyH_ready (rs:=[6]) (by kernel_rfl) (by simp) ?_
              refine AllReadyH.cons (o:=⟨some 18,.call { callee:=.value (.func 6),args:=#[.tmp 17],argTypes:=#[28] },_,_,_,none⟩) rfl (fun K hK=>?_) ?_
              · go_simp
                refine (cPush v244 _ (uh f251).toIn).mono ?_
                rintro e w252 ⟨⟨v255,rfl,b253n⟩,b253⟩
                simp only [Nv.val]
                have R254:Below U.heap.size U w252:=below_sub R243 b253
                have b253z:=heap_lt (uh f247)
                have f256:=hide ((uh f245).keep b253)
                clear f245
                have f257:=hide ((uh f246).keep b253)
                clear f246
                have f258:=hide (((b253).block _ (heap_lt (uh f247))).trans (uh f247))
                clear f247
                have f259:=hide ((uh f248).keep b253)
                clear f248
                have f260:=hide (((b253).block _ (heap_lt (uh f249))).trans (uh f249))
                clear f249
                have f261:=hide ((uh f250).keep b253)
                clear f250
                have f262:=hide ((uh f251).keep b253)
                clear f251
                have f263:=hide b253n
                clear b253 b253n
                refine hK.out _ _ (KS _ R254) (fun hHeld=>?_)
                clear hK K
                refine wpAnyH_take (i:=7) (oi:=⟨some 11,.move (.tmp 18),_,_,_,none⟩) (v:=?_) rfl (by kernel_rfl) (by kernel_rfl) (by kernel_rfl) (fun _ _ _ h=>h) (Or.inl ⟨by rfl, ?_⟩) (by assumption) ?_
                rotate_left
                · intro wq hSw
                  go_simp
                  with_reducible rfl
                simp only [Act.put,List.setIfInBounds_toArray,List.set_cons_zero,List.set_cons_succ]
                refine wpAnyH_take (i:=8) (oi:=⟨some 19,.extract (.tmp 11) 0,_,_,_,none⟩) (v:=?_) rfl (by kernel_rfl) (by kernel_rfl) (by kernel_rfl) (fun _ _ _ h=>h) (Or.inl ⟨by rfl, ?_⟩) (by assumption) ?_
                rotate_left
                · intro wq hSw
                  go_simp
                  with_reducible rfl
                simp only [Act.put,List.setIfInBounds_toArray,List.set_cons_zero,List.set_cons_succ]
                refine wpAnyH_take (i:=9) (oi:=⟨some 20,.extract (.tmp 11) 1,_,_,_,none⟩) (v:=?_) rfl (by kernel_rfl) (by kernel_rfl) (by kernel_rfl) (fun _ _ _ h=>h) (Or.inl ⟨by rfl, ?_⟩) (by assumption) ?_
                rotate_left
                · intro wq hSw
                  go_simp
                  with_reducible rfl
                simp only [Act.put,List.setIfInBounds_toArray,List.set_cons_zero,List.set_cons_succ]
                refine wpAnyH_ready (rs:=[11]) (by kernel_rfl) (by simp) ?_
                refine AllReadyH.cons (o:=⟨none,.store 28 (.tmp 3) (.tmp 19),_,_,_,none⟩) rfl (fun K hK=>?_) ?_
                · have z264g:U.heap.size≤U.heap.size:=(R0).size
                  obtain ⟨z264_0,z264_1,z264_2,z264_3,z264_4,z264_5,z264_6,z264_7⟩:=of8' (uh f258)
                  have z264f:∀ o,World.frozen? w252 ⟨U.heap.size,o,none⟩=false:=fun o=>frozen_free (uh f258)
                  have z264l:=heap_lt (uh f258)
                  go_simp
                  refine hK.out _ _ (KS _ (set8_below (g:=U.heap.size) R254 z264g (.int .i64 v255.kind) (.string v255.attr) (.slice v255.qi v255.ni v255.ci) (.slice v255.qw v255.nw v255.cw) (.int .i64 v255.lo) (.int .i64 v255.hi) (.int .i64 v255.op) (.slice v255.qk v255.nk v255.ck))) (fun hHeld=>?_)
                  clear hK K
                  refine wpAnyH_take (i:=12) (oi:=⟨some 4,.assign (.tmp 20),_,_,_,none⟩) (v:=?_) rfl (by kernel_rfl) (by kernel_rfl) (by kernel_rfl) (fun _ _ _ h=>h) (Or.inl ⟨by rfl, ?_⟩) (by assumption) ?_
                  rotate_left
                  · intro wq hSw
                    go_simp
                    with_reducible rfl
                  simp only [Act.put,List.setIfInBounds_toArray,List.set_cons_zero,List.set_cons_succ]
                  refine wpAnyH_done (by kernel_rfl) ?_ _
                  go_wp2
                  go_meet
                  case rel =>
                    have q265g:U.heap.size≤U.heap.size:=(R0).size
                    have q265b:=set8_below (g:=U.heap.size) R254 q265g (.int .i64 v255.kind) (.string v255.attr) (.slice v255.qi v255.ni v255.ci) (.slice v255.qw v255.nw v255.cw) (.int .i64 v255.lo) (.int .i64 v255.hi) (.int .i64 v255.op) (.slice v255.qk v255.nk v255.ck)
                    refine ⟨U.heap.size,v255,rfl,rfl,set8_blk (uh f258),q265b, ?_⟩
                    exact ((uh f263).up (set8_up (g:=U.heap.size) _ b253z (.int .i64 v255.kind) (.string v255.attr) (.slice v255.qi v255.ni v255.ci) (.slice v255.qw v255.nw v255.cw) (.int .i64 v255.lo) (.int .i64 v255.hi) (.int .i64 v255.op) (.slice v255.qk v255.nk v255.ck))).toIn
                exact AllReadyH.nil
              exact AllReadyH.nil
            exact AllReadyH.nil
          exact AllReadyH.nil
        exact AllReadyH.nil
      exact AllReadyH.nil
    exact AllReadyH.nil
  case rest =>
    obtain ⟨N3,vm,rfl,rfl,hV3,hUV,hVm⟩:=hcut
    obtain ⟨V2,rfl⟩:∃ V2,V2=wc:=⟨_,rfl⟩
    have HP2:=hide ((uh HP).keep hUV)
    have HQ2:=hide ((uh HQ).keep hUV)
    have hC1:=(hUV.block _ (heap_lt (uh HU1))).trans (uh HU1)
    have hC2:=(hUV.block _ (heap_lt (uh HU2))).trans (uh HU2)
    have BV:=hide (below_sub (uh BU) hUV)
    clear KS HU1 HU2 HP HQ hUV
    have KS:∀ W:World,Below V2.heap.size V2 W→(fun w'=>w'.cell? ⟨N1,0,none⟩=some (.int .i64 vp.kind)∧w'.cell? ⟨N1,1,none⟩=some (.string vp.attr)∧w'.cell? ⟨N1,2,none⟩=some (.slice vp.qi vp.ni vp.ci)∧w'.cell? ⟨N1,3,none⟩=some (.slice vp.qw vp.nw vp.cw)∧w'.cell? ⟨N1,4,none⟩=some (.int .i64 vp.lo)∧w'.cell? ⟨N1,5,none⟩=some (.int .i64 vp.hi)∧w'.cell? ⟨N1,6,none⟩=some (.int .i64 vp.op)∧w'.cell? ⟨N1,7,none⟩=some (.slice vp.qk vp.nk vp.ck)∧w'.cell? ⟨N2,0,none⟩=some (.int .i64 vq.kind)∧w'.cell? ⟨N2,1,none⟩=some (.string vq.attr)∧w'.cell? ⟨N2,2,none⟩=some (.slice vq.qi vq.ni vq.ci)∧w'.cell? ⟨N2,3,none⟩=some (.slice vq.qw vq.nw vq.cw)∧w'.cell? ⟨N2,4,none⟩=some (.int .i64 vq.lo)∧w'.cell? ⟨N2,5,none⟩=some (.int .i64 vq.hi)∧w'.cell? ⟨N2,6,none⟩=some (.int .i64 vq.op)∧w'.cell? ⟨N2,7,none⟩=some (.slice vq.qk vq.nk vq.ck)) W:=fun W hb=>by
      obtain ⟨a0,a1,a2,a3,a4,a5,a6,a7⟩:=of8' ((hb.block _ (heap_lt hC1)).trans hC1)
      obtain ⟨b0,b1,b2,b3,b4,b5,b6,b7⟩:=of8' ((hb.block _ (heap_lt hC2)).trans hC2)
      exact ⟨a0,a1,a2,a3,a4,a5,a6,a7,b0,b1,b2,b3,b4,b5,b6,b7⟩
    have HC1:=hide hC1
    have HC2:=hide hC2
    have HC3:=hide hV3
    have HM2:=hide hVm
    clear hC1 hC2 hV3 hVm
    go_wp2
    go_cut [5,6] from 7 (fun s5 s6 V=>s5=.int .i64 4∧s6=.int .i64 0∧Below V2.heap.size V2 V)
    case first =>
      have R0:Below V2.heap.size V2 V2.drew:=(Below.refl _ _).drew
      have HP0:=hide ((uh HP2).keep R0)
      have HQ0:=hide ((uh HQ2).keep R0)
      refine wp_region_held_drew (S:=fun w'=>w'.cell? ⟨N1,0,none⟩=some (.int .i64 vp.kind)∧w'.cell? ⟨N1,1,none⟩=some (.string vp.attr)∧w'.cell? ⟨N1,2,none⟩=some (.slice vp.qi vp.ni vp.ci)∧w'.cell? ⟨N1,3,none⟩=some (.slice vp.qw vp.nw vp.cw)∧w'.cell? ⟨N1,4,none⟩=some (.int .i64 vp.lo)∧w'.cell? ⟨N1,5,none⟩=some (.int .i64 vp.hi)∧w'.cell? ⟨N1,6,none⟩=some (.int .i64 vp.op)∧w'.cell? ⟨N1,7,none⟩=some (.slice vp.qk vp.nk vp.ck)∧w'.cell? ⟨N2,0,none⟩=some (.int .i64 vq.kind)∧w'.cell? ⟨N2,1,none⟩=some (.string vq.attr)∧w'.cell? ⟨N2,2,none⟩=some (.slice vq.qi vq.ni vq.ci)∧w'.cell? ⟨N2,3,none⟩=some (.slice vq.qw vq.nw vq.cw)∧w'.cell? ⟨N2,4,none⟩=some (.int .i64 vq.lo)∧w'.cell? ⟨N2,5,none⟩=some (.int .i64 vq.hi)∧w'.cell? ⟨N2,6,none⟩=some (.int .i64 vq.op)∧w'.cell? ⟨N2,7,none⟩=some (.slice vq.qk vq.nk vq.ck)) (by kernel_rfl) (KS _ R0) (fun hHeld=>?_)
      refine wpAnyH_take (i:=0) (oi:=⟨some 22,.load 28 (.tmp 1),_,_,_,none⟩) (v:=?_) rfl (by kernel_rfl) (by kernel_rfl) (by kernel_rfl) (fun _ _ _ h=>h) (Or.inl ⟨by rfl, ?_⟩) (by assumption) ?_
      rotate_left
      · intro wq hSw
        go_simp
        with_reducible rfl
      simp only [Act.put,List.setIfInBounds_toArray,List.set_cons_zero,List.set_cons_succ]
      refine wpAnyH_take (i:=1) (oi:=⟨some 23,.load 28 (.tmp 2),_,_,_,none⟩) (v:=?_) rfl (by kernel_rfl) (by kernel_rfl) (by kernel_rfl) (fun _ _ _ h=>h) (Or.inl ⟨by rfl, ?_⟩) (by assumption) ?_
      rotate_left
      · intro wq hSw
        go_simp
        with_reducible rfl
      simp only [Act.put,List.setIfInBounds_toArray,List.set_cons_zero,List.set_cons_succ]
      refine wpAnyH_take (i:=4) (oi:=⟨some 26,.load 28 (.tmp 2),_,_,_,none⟩) (v:=?_) rfl (by kernel_rfl) (by kernel_rfl) (by kernel_rfl) (fun _ _ _ h=>h) (Or.inl ⟨by rfl, ?_⟩) (by assumption) ?_
      rotate_left
      · intro wq hSw
        go_simp
        with_reducible rfl
      simp only [Act.put,List.setIfInBounds_toArray,List.set_cons_zero,List.set_cons_succ]
      refine wpAnyH_take (i:=5) (oi:=⟨some 27,.load 28 (.tmp 1),_,_,_,none⟩) (v:=?_) rfl (by kernel_rfl) (by kernel_rfl) (by kernel_rfl) (fun _ _ _ h=>h) (Or.inl ⟨by rfl, ?_⟩) (by assumption) ?_
      rotate_left
      · intro wq hSw
        go_simp
        with_reducible rfl
      simp only [Act.put,List.setIfInBounds_toArray,List.set_cons_zero,List.set_cons_succ]
      refine wpAnyH_ready (rs:=[2,6]) (by kernel_rfl) (by simp) ?_
      refine AllReadyH.cons (o:=⟨some 24,.buildSlice 26 2 #[(0,.tmp 22),(1,.tmp 23)],_,_,_,none⟩) rfl (fun K hK=>?_) ?_
      · go_simp
        refine hK.out _ _ (KS _ ((Below.refl _ _).alloc (Nat.le_refl _) _).drew) (fun hHeld=>?_)
        clear hK K
        obtain ⟨V266,h269⟩:∃ V266,(World.alloc V2 (.cells #[.int .i64 vp.kind,.string vp.attr,.slice vp.qi vp.ni vp.ci,.slice vp.qw vp.nw vp.cw,.int .i64 vp.lo,.int .i64 vp.hi,.int .i64 vp.op,.slice vp.qk vp.nk vp.ck,.int .i64 vq.kind,.string vq.attr,.slice vq.qi vq.ni vq.ci,.slice vq.qw vq.nw vq.cw,.int .i64 vq.lo,.int .i64 vq.hi,.int .i64 vq.op,.slice vq.qk vq.nk vq.ck] 28)).drew=V266:=⟨_,rfl⟩
        rw [h269]
        have R267:Below V2.heap.size V2 V266:=by rw [← h269];exact (show Below V2.heap.size V2 (World.alloc V2.drew (.cells #[.int .i64 vp.kind,.string vp.attr,.slice vp.qi vp.ni vp.ci,.slice vp.qw vp.nw vp.cw,.int .i64 vp.lo,.int .i64 vp.hi,.int .i64 vp.op,.slice vp.qk vp.nk vp.ck,.int .i64 vq.kind,.string vq.attr,.slice vq.qi vq.ni vq.ci,.slice vq.qw vq.nw vq.cw,.int .i64 vq.lo,.int .i64 vq.hi,.int .i64 vq.op,.slice vq.qk vq.nk vq.ck] 28)) from (R0).alloc (R0).size _)
        have f268b:Below V2.drew.heap.size V2.drew V266:=by rw [← h269];exact (show Below V2.drew.heap.size V2.drew (World.alloc V2.drew (.cells #[.int .i64 vp.kind,.string vp.attr,.slice vp.qi vp.ni vp.ci,.slice vp.qw vp.nw vp.cw,.int .i64 vp.lo,.int .i64 vp.hi,.int .i64 vp.op,.slice vp.qk vp.nk vp.ck,.int .i64 vq.kind,.string vq.attr,.slice vq.qi vq.ni vq.ci,.slice vq.qw vq.nw vq.cw,.int .i64 vq.lo,.int .i64 vq.hi,.int .i64 vq.op,.slice vq.qk vq.nk vq.ck] 28)) from (Below.refl _ _).alloc (Nat.le_refl _) _)
        have f268:=hide (show V266.heap[V2.heap.size]? = some (.cells #[.int .i64 vp.kind,.string vp.attr,.slice vp.qi vp.ni vp.ci,.slice vp.qw vp.nw vp.cw,.int .i64 vp.lo,.int .i64 vp.hi,.int .i64 vp.op,.slice vp.qk vp.nk vp.ck,.int .i64 vq.kind,.string vq.attr,.slice vq.qi vq.ni vq.ci,.slice vq.qw vq.nw vq.cw,.int .i64 vq.lo,.int .i64 vq.hi,.int .i64 vq.op,.slice vq.qk vq.nk vq.ck] 28 (0,0)) by rw [← h269];exact box_nw _ _)
        have f270:=hide ((uh HP0).keep f268b)
        clear HP0
        have f271:=hide ((uh HQ0).keep f268b)
        clear HQ0
        clear h269 f268b
        refine wpAnyH_ready (rs:=[3,6]) (by kernel_rfl) (by simp) ?_
        refine AllReadyH.cons (o:=⟨some 25,.call { callee:=.value (.func 15),args:=#[.tmp 24],argTypes:=#[26] },_,_,_,none⟩) rfl (fun K hK=>?_) ?_
        · go_simp
          refine (cOr TP TQ vp vq _ _ (uh f268) (uh f270) (uh f271) (by decide +kernel)).mono ?_
          rintro e w272 ⟨⟨v275,rfl,b273n⟩,b273⟩
          simp only [Nv.val]
          have R274:Below V2.heap.size V2 w272:=below_sub R267 b273
          have f276:=hide ((uh f270).keep b273)
          clear f270
          have f277:=hide ((uh f271).keep b273)
          clear f271
          have f278:=hide (((b273).block _ (heap_lt (uh f268))).trans (uh f268))
          clear f268
          have f279:=hide b273n
          clear b273 b273n
          refine hK.out _ _ (KS _ R274) (fun hHeld=>?_)
          clear hK K
          refine wpAnyH_ready (rs:=[6]) (by kernel_rfl) (by simp) ?_
          refine AllReadyH.cons (o:=⟨some 28,.buildSlice 26 2 #[(0,.tmp 26),(1,.tmp 27)],_,_,_,none⟩) rfl (fun K hK=>?_) ?_
          · go_simp
            refine hK.out _ _ (KS _ ((R274).alloc (R274).size _)) (fun hHeld=>?_)
            clear hK K
            obtain ⟨V280,h283⟩:∃ V280,World.alloc w272 (.cells #[.int .i64 vq.kind,.string vq.attr,.slice vq.qi vq.ni vq.ci,.slice vq.qw vq.nw vq.cw,.int .i64 vq.lo,.int .i64 vq.hi,.int .i64 vq.op,.slice vq.qk vq.nk vq.ck,.int .i64 vp.kind,.string vp.attr,.slice vp.qi vp.ni vp.ci,.slice vp.qw vp.nw vp.cw,.int .i64 vp.lo,.int .i64 vp.hi,.int .i64 vp.op,.slice vp.qk vp.nk vp.ck] 28)=V280:=⟨_,rfl⟩
            rw [h283]
            have R281:Below V2.heap.size V2 V280:=by rw [← h283];exact (show Below V2.heap.size V2 (World.alloc w272 (.cells #[.int .i64 vq.kind,.string vq.attr,.slice vq.qi vq.ni vq.ci,.slice vq.qw vq.nw vq.cw,.int .i64 vq.lo,.int .i64 vq.hi,.int .i64 vq.op,.slice vq.qk vq.nk vq.ck,.int .i64 vp.kind,.string vp.attr,.slice vp.qi vp.ni vp.ci,.slice vp.qw vp.nw vp.cw,.int .i64 vp.lo,.int .i64 vp.hi,.int .i64 vp.op,.slice vp.qk vp.nk vp.ck] 28)) from (R274).alloc (R274).size _)
            have f282b:Below w272.heap.size w272 V280:=by rw [← h283];exact (show Below w272.heap.size w272 (World.alloc w272 (.cells #[.int .i64 vq.kind,.string vq.attr,.slice vq.qi vq.ni vq.ci,.slice vq.qw vq.nw vq.cw,.int .i64 vq.lo,.int .i64 vq.hi,.int .i64 vq.op,.slice vq.qk vq.nk vq.ck,.int .i64 vp.kind,.string vp.attr,.slice vp.qi vp.ni vp.ci,.slice vp.qw vp.nw vp.cw,.int .i64 vp.lo,.int .i64 vp.hi,.int .i64 vp.op,.slice vp.qk vp.nk vp.ck] 28)) from (Below.refl _ _).alloc (Nat.le_refl _) _)
            have f282:=hide (show V280.heap[w272.heap.size]? = some (.cells #[.int .i64 vq.kind,.string vq.attr,.slice vq.qi vq.ni vq.ci,.slice vq.qw vq.nw vq.cw,.int .i64 vq.lo,.int .i64 vq.hi,.int .i64 vq.op,.slice vq.qk vq.nk vq.ck,.int .i64 vp.kind,.string vp.attr,.slice vp.qi vp.ni vp.ci,.slice vp.qw vp.nw vp.cw,.int .i64 vp.lo,.int .i64 vp.hi,.int .i64 vp.op,.slice vp.qk vp.nk vp.ck] 28 (0,0)) by rw [← h283];exact box_nw _ _)
            have f284:=hide ((uh f276).keep f282b)
            clear f276
            have f285:=hide ((uh f277).keep f282b)
            clear f277
            have f286:=hide (((f282b).block _ (heap_lt (uh f278))).trans (uh f278))
            clear f278
            have f287:=hide ((uh f279).keep f282b)
            clear f279
            clear h283 f282b
            refine wpAnyH_ready (rs:=[7]) (by kernel_rfl) (by simp) ?_
            refine AllReadyH.cons (o:=⟨some 29,.call { callee:=.value (.func 15),args:=#[.tmp 28],argTypes:=#[26] },_,_,_,none⟩) rfl (fun K hK=>?_) ?_
            · go_simp
              refine (cOr TQ TP vq vp _ _ (uh f282) (uh f285) (uh f284) (by decide +kernel)).mono ?_
              rintro e w288 ⟨⟨v291,rfl,b289n⟩,b289⟩
              simp only [Nv.val]
              have R290:Below V2.heap.size V2 w288:=below_sub R281 b289
              have f292:=hide ((uh f284).keep b289)
              clear f284
              have f293:=hide ((uh f285).keep b289)
              clear f285
              have f294:=hide (((b289).block _ (heap_lt (uh f286))).trans (uh f286))
              clear f286
              have f295:=hide ((uh f287).keep b289)
              clear f287
              have f296:=hide (((b289).block _ (heap_lt (uh f282))).trans (uh f282))
              clear f282
              have f297:=hide b289n
              clear b289 b289n
              refine hK.out _ _ (KS _ R290) (fun hHeld=>?_)
              clear hK K
              refine wpAnyH_ready (rs:=[8]) (by kernel_rfl) (by simp) ?_
              refine AllReadyH.cons (o:=⟨some 30,.buildSlice 26 2 #[(0,.tmp 25),(1,.tmp 29)],_,_,_,none⟩) rfl (fun K hK=>?_) ?_
              · go_simp
                refine hK.out _ _ (KS _ ((R290).alloc (R290).size _)) (fun hHeld=>?_)
                clear hK K
                obtain ⟨V298,h301⟩:∃ V298,World.alloc w288 (.cells #[.int .i64 v275.kind,.string v275.attr,.slice v275.qi v275.ni v275.ci,.slice v275.qw v275.nw v275.cw,.int .i64 v275.lo,.int .i64 v275.hi,.int .i64 v275.op,.slice v275.qk v275.nk v275.ck,.int .i64 v291.kind,.string v291.attr,.slice v291.qi v291.ni v291.ci,.slice v291.qw v291.nw v291.cw,.int .i64 v291.lo,.int .i64 v291.hi,.int .i64 v291.op,.slice v291.qk v291.nk v291.ck] 28)=V298:=⟨_,rfl⟩
                rw [h301]
                have R299:Below V2.heap.size V2 V298:=by rw [← h301];exact (show Below V2.heap.size V2 (World.alloc w288 (.cells #[.int .i64 v275.kind,.string v275.attr,.slice v275.qi v275.ni v275.ci,.slice v275.qw v275.nw v275.cw,.int .i64 v275.lo,.int .i64 v275.hi,.int .i64 v275.op,.slice v275.qk v275.nk v275.ck,.int .i64 v291.kind,.string v291.attr,.slice v291.qi v291.ni v291.ci,.slice v291.qw v291.nw v291.cw,.int .i64 v291.lo,.int .i64 v291.hi,.int .i64 v291.op,.slice v291.qk v291.nk v291.ck] 28)) from (R290).alloc (R290).size _)
                have f300b:Below w288.heap.size w288 V298:=by rw [← h301];exact (show Below w288.heap.size w288 (World.alloc w288 (.cells #[.int .i64 v275.kind,.string v275.attr,.slice v275.qi v275.ni v275.ci,.slice v275.qw v275.nw v275.cw,.int .i64 v275.lo,.int .i64 v275.hi,.int .i64 v275.op,.slice v275.qk v275.nk v275.ck,.int .i64 v291.kind,.string v291.attr,.slice v291.qi v291.ni v291.ci,.slice v291.qw v291.nw v291.cw,.int .i64 v291.lo,.int .i64 v291.hi,.int .i64 v291.op,.slice v291.qk v291.nk v291.ck] 28)) from (Below.refl _ _).alloc (Nat.le_refl _) _)
                have f300:=hide (show V298.heap[w288.heap.size]? = some (.cells #[.int .i64 v275.kind,.string v275.attr,.slice v275.qi v275.ni v275.ci,.slice v275.qw v275.nw v275.cw,.int .i64 v275.lo,.int .i64 v275.hi,.int .i64 v275.op,.slice v275.qk v275.nk v275.ck,.int .i64 v291.kind,.string v291.attr,.slice v291.qi v291.ni v291.ci,.slice v291.qw v291.nw v291.cw,.int .i64 v291.lo,.int .i64 v291.hi,.int .i64 v291.op,.slice v291.qk v291.nk v291.ck] 28 (0,0)) by rw [← h301];exact box_nw _ _)
                have f302:=hide ((uh f292).keep f300b)
                clear f292
                have f303:=hide ((uh f293).keep f300b)
                clear f293
                have f304:=hide (((f300b).block _ (heap_lt (uh f294))).trans (uh f294))
                clear f294
                have f305:=hide ((uh f295).keep f300b)
                clear f295
                have f306:=hide (((f300b).block _ (heap_lt (uh f296))).trans (uh f296))
                clear f296
                have f307:=hide ((uh f297).keep f300b)
                clear f297
                clear h301 f300b
                refine wpAnyH_ready (rs:=[9]) (by kernel_rfl) (by simp) ?_
                refine AllReadyH.cons (o:=⟨some 31,.call { callee:=.value (.func 13),args:=#[.tmp 30],argTypes:=#[26] },_,_,_,none⟩) rfl (fun K hK=>?_) ?_
                · go_simp
                  refine (cAnd (joinT 4 [TP,TQ]) (joinT 4 [TQ,TP]) v275 v291 _ _ (uh f300) (uh f305).toIn (uh f307).toIn (by decide +kernel)).mono ?_
                  rintro e w308 ⟨⟨v311,rfl,b309n⟩,b309⟩
                  simp only [Nv.val]
                  have R310:Below V2.heap.size V2 w308:=below_sub R299 b309
                  have f312:=hide ((uh f302).keep b309)
                  clear f302
                  have f313:=hide ((uh f303).keep b309)
                  clear f303
                  have f314:=hide (((b309).block _ (heap_lt (uh f304))).trans (uh f304))
                  clear f304
                  have f315:=hide ((uh f305).keep b309)
                  clear f305
                  have f316:=hide (((b309).block _ (heap_lt (uh f306))).trans (uh f306))
                  clear f306
                  have f317:=hide ((uh f307).keep b309)
                  clear f307
                  have f318:=hide (((b309).block _ (heap_lt (uh f300))).trans (uh f300))
                  clear f300
                  have f319:=hide b309n
                  clear b309 b309n
                  refine hK.out _ _ (KS _ R310) (fun hHeld=>?_)
                  clear hK K
                  refine wpAnyH_ready (rs:=[10]) (by kernel_rfl) (by simp) ?_
                  refine AllReadyH.cons (o:=⟨some 32,.call { callee:=.value (.func 14),args:=#[.tmp 31,.const (.int .i64 3)],argTypes:=#[28,3] },_,_,_,none⟩) rfl (fun K hK=>?_) ?_
                  · go_simp
                    refine (cWid v311 _ (uh f319).toIn).mono ?_
                    rintro e w320 ⟨rfl,b321⟩
                    have R322:Below V2.heap.size V2 w320:=below_sub R310 b321
                    have f323:=hide ((uh f312).keep b321)
                    clear f312
                    have f324:=hide ((uh f313).keep b321)
                    clear f313
                    have f325:=hide (((b321).block _ (heap_lt (uh f314))).trans (uh f314))
                    clear f314
                    have f326:=hide ((uh f315).keep b321)
                    clear f315
                    have f327:=hide (((b321).block _ (heap_lt (uh f316))).trans (uh f316))
                    clear f316
                    have f328:=hide ((uh f317).keep b321)
                    clear f317
                    have f329:=hide (((b321).block _ (heap_lt (uh f318))).trans (uh f318))
                    clear f318
                    have f330:=hide ((uh f319).keep b321)
                    clear f319
                    clear b321
                    refine hK.out _ _ (KS _ R322) (fun hHeld=>?_)
                    clear hK K
                    refine wpAnyH_take (i:=11) (oi:=⟨some 21,.move (.tmp 32),_,_,_,none⟩) (v:=?_) rfl (by kernel_rfl) (by kernel_rfl) (by kernel_rfl) (fun _ _ _ h=>h) (Or.inl ⟨by rfl, ?_⟩) (by assumption) ?_
                    rotate_left
                    · intro wq hSw
                      go_simp
                      with_reducible rfl
                    simp only [Act.put,List.setIfInBounds_toArray,List.set_cons_zero,List.set_cons_succ]
                    refine wpAnyH_take (i:=12) (oi:=⟨some 33,.extract (.tmp 21) 0,_,_,_,none⟩) (v:=?_) rfl (by kernel_rfl) (by kernel_rfl) (by kernel_rfl) (fun _ _ _ h=>h) (Or.inl ⟨by rfl, ?_⟩) (by assumption) ?_
                    rotate_left
                    · intro wq hSw
                      go_simp
                      with_reducible rfl
                    simp only [Act.put,List.setIfInBounds_toArray,List.set_cons_zero,List.set_cons_succ]
                    refine wpAnyH_take (i:=13) (oi:=⟨some 34,.extract (.tmp 21) 1,_,_,_,none⟩) (v:=?_) rfl (by kernel_rfl) (by kernel_rfl) (by kernel_rfl) (fun _ _ _ h=>h) (Or.inl ⟨by rfl, ?_⟩) (by assumption) ?_
                    rotate_left
                    · intro wq hSw
                      go_simp
                      with_reducible rfl
                    simp only [Act.put,List.setIfInBounds_toArray,List.set_cons_zero,List.set_cons_succ]
                    refine wpAnyH_take (i:=14) (oi:=⟨some 5,.assign (.tmp 33),_,_,_,none⟩) (v:=?_) rfl (by kernel_rfl) (by kernel_rfl) (by kernel_rfl) (fun _ _ _ h=>h) (Or.inl ⟨by rfl, ?_⟩) (by assumption) ?_
                    rotate_left
                    · intro wq hSw
                      go_simp
                      with_reducible rfl
                    simp only [Act.put,List.setIfInBounds_toArray,List.set_cons_zero,List.set_cons_succ]
                    refine wpAnyH_take (i:=15) (oi:=⟨some 6,.assign (.tmp 34),_,_,_,none⟩) (v:=?_) rfl (by kernel_rfl) (by kernel_rfl) (by kernel_rfl) (fun _ _ _ h=>h) (Or.inl ⟨by rfl, ?_⟩) (by assumption) ?_
                    rotate_left
                    · intro wq hSw
                      go_simp
                      with_reducible rfl
                    simp only [Act.put,List.setIfInBounds_toArray,List.set_cons_zero,List.set_cons_succ]
                    refine wpAnyH_done (by kernel_rfl) ?_ _
                    go_wp2
                    go_meet
                    case rel=>exact ⟨rfl,rfl,R322⟩
                  exact AllReadyH.nil
                exact AllReadyH.nil
              exact AllReadyH.nil
            exact AllReadyH.nil
          exact AllReadyH.nil
        refine AllReadyH.cons (o:=⟨some 28,.buildSlice 26 2 #[(0,.tmp 26),(1,.tmp 27)],_,_,_,none⟩) rfl (fun K hK=>?_) ?_
        · go_simp
          refine hK.out _ _ (KS _ ((R267).alloc (R267).size _)) (fun hHeld=>?_)
          clear hK K
          obtain ⟨V331,h334⟩:∃ V331,World.alloc V266 (.cells #[.int .i64 vq.kind,.string vq.attr,.slice vq.qi vq.ni vq.ci,.slice vq.qw vq.nw vq.cw,.int .i64 vq.lo,.int .i64 vq.hi,.int .i64 vq.op,.slice vq.qk vq.nk vq.ck,.int .i64 vp.kind,.string vp.attr,.slice vp.qi vp.ni vp.ci,.slice vp.qw vp.nw vp.cw,.int .i64 vp.lo,.int .i64 vp.hi,.int .i64 vp.op,.slice vp.qk vp.nk vp.ck] 28)=V331:=⟨_,rfl⟩
          rw [h334]
          have R332:Below V2.heap.size V2 V331:=by rw [← h334];exact (show Below V2.heap.size V2 (World.alloc V266 (.cells #[.int .i64 vq.kind,.string vq.attr,.slice vq.qi vq.ni vq.ci,.slice vq.qw vq.nw vq.cw,.int .i64 vq.lo,.int .i64 vq.hi,.int .i64 vq.op,.slice vq.qk vq.nk vq.ck,.int .i64 vp.kind,.string vp.attr,.slice vp.qi vp.ni vp.ci,.slice vp.qw vp.nw vp.cw,.int .i64 vp.lo,.int .i64 vp.hi,.int .i64 vp.op,.slice vp.qk vp.nk vp.ck] 28)) from (R267).alloc (R267).size _)
          have f333b:Below V266.heap.size V266 V331:=by rw [← h334];exact (show Below V266.heap.size V266 (World.alloc V266 (.cells #[.int .i64 vq.kind,.string vq.attr,.slice vq.qi vq.ni vq.ci,.slice vq.qw vq.nw vq.cw,.int .i64 vq.lo,.int .i64 vq.hi,.int .i64 vq.op,.slice vq.qk vq.nk vq.ck,.int .i64 vp.kind,.string vp.attr,.slice vp.qi vp.ni vp.ci,.slice vp.qw vp.nw vp.cw,.int .i64 vp.lo,.int .i64 vp.hi,.int .i64 vp.op,.slice vp.qk vp.nk vp.ck] 28)) from (Below.refl _ _).alloc (Nat.le_refl _) _)
          have f333:=hide (show V331.heap[V266.heap.size]? = some (.cells #[.int .i64 vq.kind,.string vq.attr,.slice vq.qi vq.ni vq.ci,.slice vq.qw vq.nw vq.cw,.int .i64 vq.lo,.int .i64 vq.hi,.int .i64 vq.op,.slice vq.qk vq.nk vq.ck,.int .i64 vp.kind,.string vp.attr,.slice vp.qi vp.ni vp.ci,.slice vp.qw vp.nw vp.cw,.int .i64 vp.lo,.int .i64 vp.hi,.int .i64 vp.op,.slice vp.qk vp.nk vp.ck] 28 (0,0)) by rw [← h334];exact box_nw _ _)
          have f335:=hide ((uh f270).keep f333b)
          clear f270
          have f336:=hide ((uh f271).keep f333b)
          clear f271
          have f337:=hide (((f333b).block _ (heap_lt (uh f268))).trans (uh f268))
          clear f268
          clear h334 f333b
          refine wpAnyH_ready (rs:=[3]) (by kernel_rfl) (by simp) ?_
          refine AllReadyH.cons (o:=⟨some 25,.call { callee:=.value (.func 15),args:=#[.tmp 24],argTypes:=#[26] },_,_,_,none⟩) rfl (fun K hK=>?_) ?_
          · go_simp
            refine (cOr TP TQ vp vq _ _ (uh f337) (uh f335) (uh f336) (by decide +kernel)).mono ?_
            rintro e w338 ⟨⟨v341,rfl,b339n⟩,b339⟩
            simp only [Nv.val]
            have R340:Below V2.heap.size V2 w338:=below_sub R332 b339
            have f342:=hide ((uh f335).keep b339)
            clear f335
            have f343:=hide ((uh f336).keep b339)
            clear f336
            have f344:=hide (((b339).block _ (heap_lt (uh f337))).trans (uh f337))
            clear f337
            have f345:=hide (((b339).block _ (heap_lt (uh f333))).trans (uh f333))
            clear f333
            have f346:=hide b339n
            clear b339 b339n
            refine hK.out _ _ (KS _ R340) (fun hHeld=>?_)
            clear hK K
            refine wpAnyH_ready (rs:=[7]) (by kernel_rfl) (by simp) ?_
            refine AllReadyH.cons (o:=⟨some 29,.call { callee:=.value (.func 15),args:=#[.tmp 28],argTypes:=#[26] },_,_,_,none⟩) rfl (fun K hK=>?_) ?_
            · go_simp
              refine (cOr TQ TP vq vp _ _ (uh f345) (uh f343) (uh f342) (by decide +kernel)).mono ?_
              rintro e w347 ⟨⟨v350,rfl,b348n⟩,b348⟩
              simp only [Nv.val]
              have R349:Below V2.heap.size V2 w347:=below_sub R340 b348
              have f351:=hide ((uh f342).keep b348)
              clear f342
              have f352:=hide ((uh f343).keep b348)
              clear f343
              have f353:=hide (((b348).block _ (heap_lt (uh f344))).trans (uh f344))
              clear f344
              have f354:=hide (((b348).block _ (heap_lt (uh f345))).trans (uh f345))
              clear f345
              have f355:=hide ((uh f346).keep b348)
              clear f346
              have f356:=hide b348n
              clear b348 b348n
              refine hK.out _ _ (KS _ R349) (fun hHeld=>?_)
              clear hK K
              refine wpAnyH_ready (rs:=[8]) (by kernel_rfl) (by simp) ?_
              refine AllReadyH.cons (o:=⟨some 30,.buildSlice 26 2 #[(0,.tmp 25),(1,.tmp 29)],_,_,_,none⟩) rfl (fun K hK=>?_) ?_
              · go_simp
                refine hK.out _ _ (KS _ ((R349).alloc (R349).size _)) (fun hHeld=>?_)
                clear hK K
                obtain ⟨V357,h360⟩:∃ V357,World.alloc w347 (.cells #[.int .i64 v341.kind,.string v341.attr,.slice v341.qi v341.ni v341.ci,.slice v341.qw v341.nw v341.cw,.int .i64 v341.lo,.int .i64 v341.hi,.int .i64 v341.op,.slice v341.qk v341.nk v341.ck,.int .i64 v350.kind,.string v350.attr,.slice v350.qi v350.ni v350.ci,.slice v350.qw v350.nw v350.cw,.int .i64 v350.lo,.int .i64 v350.hi,.int .i64 v350.op,.slice v350.qk v350.nk v350.ck] 28)=V357:=⟨_,rfl⟩
                rw [h360]
                have R358:Below V2.heap.size V2 V357:=by rw [← h360];exact (show Below V2.heap.size V2 (World.alloc w347 (.cells #[.int .i64 v341.kind,.string v341.attr,.slice v341.qi v341.ni v341.ci,.slice v341.qw v341.nw v341.cw,.int .i64 v341.lo,.int .i64 v341.hi,.int .i64 v341.op,.slice v341.qk v341.nk v341.ck,.int .i64 v350.kind,.string v350.attr,.slice v350.qi v350.ni v350.ci,.slice v350.qw v350.nw v350.cw,.int .i64 v350.lo,.int .i64 v350.hi,.int .i64 v350.op,.slice v350.qk v350.nk v350.ck] 28)) from (R349).alloc (R349).size _)
                have f359b:Below w347.heap.size w347 V357:=by rw [← h360];exact (show Below w347.heap.size w347 (World.alloc w347 (.cells #[.int .i64 v341.kind,.string v341.attr,.slice v341.qi v341.ni v341.ci,.slice v341.qw v341.nw v341.cw,.int .i64 v341.lo,.int .i64 v341.hi,.int .i64 v341.op,.slice v341.qk v341.nk v341.ck,.int .i64 v350.kind,.string v350.attr,.slice v350.qi v350.ni v350.ci,.slice v350.qw v350.nw v350.cw,.int .i64 v350.lo,.int .i64 v350.hi,.int .i64 v350.op,.slice v350.qk v350.nk v350.ck] 28)) from (Below.refl _ _).alloc (Nat.le_refl _) _)
                have f359:=hide (show V357.heap[w347.heap.size]? = some (.cells #[.int .i64 v341.kind,.string v341.attr,.slice v341.qi v341.ni v341.ci,.slice v341.qw v341.nw v341.cw,.int .i64 v341.lo,.int .i64 v341.hi,.int .i64 v341.op,.slice v341.qk v341.nk v341.ck,.int .i64 v350.kind,.string v350.attr,.slice v350.qi v350.ni v350.ci,.slice v350.qw v350.nw v350.cw,.int .i64 v350.lo,.int .i64 v350.hi,.int .i64 v350.op,.slice v350.qk v350.nk v350.ck] 28 (0,0)) by rw [← h360];exact box_nw _ _)
                have f361:=hide ((uh f351).keep f359b)
                clear f351
                have f362:=hide ((uh f352).keep f359b)
                clear f352
                have f363:=hide (((f359b).block _ (heap_lt (uh f353))).trans (uh f353))
                clear f353
                have f364:=hide (((f359b).block _ (heap_lt (uh f354))).trans (uh f354))
                clear f354
                have f365:=hide ((uh f355).keep f359b)
                clear f355
                have f366:=hide ((uh f356).keep f359b)
                clear f356
                clear h360 f359b
                refine wpAnyH_ready (rs:=[9]) (by kernel_rfl) (by simp) ?_
                refine AllReadyH.cons (o:=⟨some 31,.call { callee:=.value (.func 13),args:=#[.tmp 30],argTypes:=#[26] },_,_,_,none⟩) rfl (fun K hK=>?_) ?_
                · go_simp
                  refine (cAnd (joinT 4 [TP,TQ]) (joinT 4 [TQ,TP]) v341 v350 _ _ (uh f359) (uh f365).toIn (uh f366).toIn (by decide +kernel)).mono ?_
                  rintro e w367 ⟨⟨v370,rfl,b368n⟩,b368⟩
                  simp only [Nv.val]
                  have R369:Below V2.heap.size V2 w367:=below_sub R358 b368
                  have f371:=hide ((uh f361).keep b368)
                  clear f361
                  have f372:=hide ((uh f362).keep b368)
                  clear f362
                  have f373:=hide (((b368).block _ (heap_lt (uh f363))).trans (uh f363))
                  clear f363
                  have f374:=hide (((b368).block _ (heap_lt (uh f364))).trans (uh f364))
                  clear f364
                  have f375:=hide ((uh f365).keep b368)
                  clear f365
                  have f376:=hide ((uh f366).keep b368)
                  clear f366
                  have f377:=hide (((b368).block _ (heap_lt (uh f359))).trans (uh f359))
                  clear f359
                  have f378:=hide b368n
                  clear b368 b368n
                  refine hK.out _ _ (KS _ R369) (fun hHeld=>?_)
                  clear hK K
                  refine wpAnyH_ready (rs:=[10]) (by kernel_rfl) (by simp) ?_
                  refine AllReadyH.cons (o:=⟨some 32,.call { callee:=.value (.func 14),args:=#[.tmp 31,.const (.int .i64 3)],argTypes:=#[28,3] },_,_,_,none⟩) rfl (fun K hK=>?_) ?_
                  · go_simp
                    refine (cWid v370 _ (uh f378).toIn).mono ?_
                    rintro e w379 ⟨rfl,b380⟩
                    have R381:Below V2.heap.size V2 w379:=below_sub R369 b380
                    have f382:=hide ((uh f371).keep b380)
                    clear f371
                    have f383:=hide ((uh f372).keep b380)
                    clear f372
                    have f384:=hide (((b380).block _ (heap_lt (uh f373))).trans (uh f373))
                    clear f373
                    have f385:=hide (((b380).block _ (heap_lt (uh f374))).trans (uh f374))
                    clear f374
                    have f386:=hide ((uh f375).keep b380)
                    clear f375
                    have f387:=hide ((uh f376).keep b380)
                    clear f376
                    have f388:=hide (((b380).block _ (heap_lt (uh f377))).trans (uh f377))
                    clear f377
                    have f389:=hide ((uh f378).keep b380)
                    clear f378
                    clear b380
                    refine hK.out _ _ (KS _ R381) (fun hHeld=>?_)
                    clear hK K
                    refine wpAnyH_take (i:=11) (oi:=⟨some 21,.move (.tmp 32),_,_,_,none⟩) (v:=?_) rfl (by kernel_rfl) (by kernel_rfl) (by kernel_rfl) (fun _ _ _ h=>h) (Or.inl ⟨by rfl, ?_⟩) (by assumption) ?_
                    rotate_left
                    · intro wq hSw
                      go_simp
                      with_reducible rfl
                    simp only [Act.put,List.setIfInBounds_toArray,List.set_cons_zero,List.set_cons_succ]
                    refine wpAnyH_take (i:=12) (oi:=⟨some 33,.extract (.tmp 21) 0,_,_,_,none⟩) (v:=?_) rfl (by kernel_rfl) (by kernel_rfl) (by kernel_rfl) (fun _ _ _ h=>h) (Or.inl ⟨by rfl, ?_⟩) (by assumption) ?_
                    rotate_left
                    · intro wq hSw
                      go_simp
                      with_reducible rfl
                    simp only [Act.put,List.setIfInBounds_toArray,List.set_cons_zero,List.set_cons_succ]
                    refine wpAnyH_take (i:=13) (oi:=⟨some 34,.extract (.tmp 21) 1,_,_,_,none⟩) (v:=?_) rfl (by kernel_rfl) (by kernel_rfl) (by kernel_rfl) (fun _ _ _ h=>h) (Or.inl ⟨by rfl, ?_⟩) (by assumption) ?_
                    rotate_left
                    · intro wq hSw
                      go_simp
                      with_reducible rfl
                    simp only [Act.put,List.setIfInBounds_toArray,List.set_cons_zero,List.set_cons_succ]
                    refine wpAnyH_take (i:=14) (oi:=⟨some 5,.assign (.tmp 33),_,_,_,none⟩) (v:=?_) rfl (by kernel_rfl) (by kernel_rfl) (by kernel_rfl) (fun _ _ _ h=>h) (Or.inl ⟨by rfl, ?_⟩) (by assumption) ?_
                    rotate_left
                    · intro wq hSw
                      go_simp
                      with_reducible rfl
                    simp only [Act.put,List.setIfInBounds_toArray,List.set_cons_zero,List.set_cons_succ]
                    refine wpAnyH_take (i:=15) (oi:=⟨some 6,.assign (.tmp 34),_,_,_,none⟩) (v:=?_) rfl (by kernel_rfl) (by kernel_rfl) (by kernel_rfl) (fun _ _ _ h=>h) (Or.inl ⟨by rfl, ?_⟩) (by assumption) ?_
                    rotate_left
                    · intro wq hSw
                      go_simp
                      with_reducible rfl
                    simp only [Act.put,List.setIfInBounds_toArray,List.set_cons_zero,List.set_cons_succ]
                    refine wpAnyH_done (by kernel_rfl) ?_ _
                    go_wp2
                    go_meet
                    case rel=>exact ⟨rfl,rfl,R381⟩
                  exact AllReadyH.nil
                exact AllReadyH.nil
              exact AllReadyH.nil
            exact AllReadyH.nil
          exact AllReadyH.nil
        exact AllReadyH.nil
      refine AllReadyH.cons (o:=⟨some 28,.buildSlice 26 2 #[(0,.tmp 26),(1,.tmp 27)],_,_,_,none⟩) rfl (fun K hK=>?_) ?_
      · go_simp
        refine hK.out _ _ (KS _ ((Below.refl _ _).alloc (Nat.le_refl _) _).drew) (fun hHeld=>?_)
        clear hK K
        obtain ⟨V390,h393⟩:∃ V390,(World.alloc V2 (.cells #[.int .i64 vq.kind,.string vq.attr,.slice vq.qi vq.ni vq.ci,.slice vq.qw vq.nw vq.cw,.int .i64 vq.lo,.int .i64 vq.hi,.int .i64 vq.op,.slice vq.qk vq.nk vq.ck,.int .i64 vp.kind,.string vp.attr,.slice vp.qi vp.ni vp.ci,.slice vp.qw vp.nw vp.cw,.int .i64 vp.lo,.int .i64 vp.hi,.int .i64 vp.op,.slice vp.qk vp.nk vp.ck] 28)).drew=V390:=⟨_,rfl⟩
        rw [h393]
        have R391:Below V2.heap.size V2 V390:=by rw [← h393];exact (show Below V2.heap.size V2 (World.alloc V2.drew (.cells #[.int .i64 vq.kind,.string vq.attr,.slice vq.qi vq.ni vq.ci,.slice vq.qw vq.nw vq.cw,.int .i64 vq.lo,.int .i64 vq.hi,.int .i64 vq.op,.slice vq.qk vq.nk vq.ck,.int .i64 vp.kind,.string vp.attr,.slice vp.qi vp.ni vp.ci,.slice vp.qw vp.nw vp.cw,.int .i64 vp.lo,.int .i64 vp.hi,.int .i64 vp.op,.slice vp.qk vp.nk vp.ck] 28)) from (R0).alloc (R0).size _)
        have f392b:Below V2.drew.heap.size V2.drew V390:=by rw [← h393];exact (show Below V2.drew.heap.size V2.drew (World.alloc V2.drew (.cells #[.int .i64 vq.kind,.string vq.attr,.slice vq.qi vq.ni vq.ci,.slice vq.qw vq.nw vq.cw,.int .i64 vq.lo,.int .i64 vq.hi,.int .i64 vq.op,.slice vq.qk vq.nk vq.ck,.int .i64 vp.kind,.string vp.attr,.slice vp.qi vp.ni vp.ci,.slice vp.qw vp.nw vp.cw,.int .i64 vp.lo,.int .i64 vp.hi,.int .i64 vp.op,.slice vp.qk vp.nk vp.ck] 28)) from (Below.refl _ _).alloc (Nat.le_refl _) _)
        have f392:=hide (show V390.heap[V2.heap.size]? = some (.cells #[.int .i64 vq.kind,.string vq.attr,.slice vq.qi vq.ni vq.ci,.slice vq.qw vq.nw vq.cw,.int .i64 vq.lo,.int .i64 vq.hi,.int .i64 vq.op,.slice vq.qk vq.nk vq.ck,.int .i64 vp.kind,.string vp.attr,.slice vp.qi vp.ni vp.ci,.slice vp.qw vp.nw vp.cw,.int .i64 vp.lo,.int .i64 vp.hi,.int .i64 vp.op,.slice vp.qk vp.nk vp.ck] 28 (0,0)) by rw [← h393];exact box_nw _ _)
        have f394:=hide ((uh HP0).keep f392b)
        clear HP0
        have f395:=hide ((uh HQ0).keep f392b)
        clear HQ0
        clear h393 f392b
        refine wpAnyH_ready (rs:=[2]) (by kernel_rfl) (by simp) ?_
        refine AllReadyH.cons (o:=⟨some 24,.buildSlice 26 2 #[(0,.tmp 22),(1,.tmp 23)],_,_,_,none⟩) rfl (fun K hK=>?_) ?_
        · go_simp
          refine hK.out _ _ (KS _ ((R391).alloc (R391).size _)) (fun hHeld=>?_)
          clear hK K
          obtain ⟨V396,h399⟩:∃ V396,World.alloc V390 (.cells #[.int .i64 vp.kind,.string vp.attr,.slice vp.qi vp.ni vp.ci,.slice vp.qw vp.nw vp.cw,.int .i64 vp.lo,.int .i64 vp.hi,.int .i64 vp.op,.slice vp.qk vp.nk vp.ck,.int .i64 vq.kind,.string vq.attr,.slice vq.qi vq.ni vq.ci,.slice vq.qw vq.nw vq.cw,.int .i64 vq.lo,.int .i64 vq.hi,.int .i64 vq.op,.slice vq.qk vq.nk vq.ck] 28)=V396:=⟨_,rfl⟩
          rw [h399]
          have R397:Below V2.heap.size V2 V396:=by rw [← h399];exact (show Below V2.heap.size V2 (World.alloc V390 (.cells #[.int .i64 vp.kind,.string vp.attr,.slice vp.qi vp.ni vp.ci,.slice vp.qw vp.nw vp.cw,.int .i64 vp.lo,.int .i64 vp.hi,.int .i64 vp.op,.slice vp.qk vp.nk vp.ck,.int .i64 vq.kind,.string vq.attr,.slice vq.qi vq.ni vq.ci,.slice vq.qw vq.nw vq.cw,.int .i64 vq.lo,.int .i64 vq.hi,.int .i64 vq.op,.slice vq.qk vq.nk vq.ck] 28)) from (R391).alloc (R391).size _)
          have f398b:Below V390.heap.size V390 V396:=by rw [← h399];exact (show Below V390.heap.size V390 (World.alloc V390 (.cells #[.int .i64 vp.kind,.string vp.attr,.slice vp.qi vp.ni vp.ci,.slice vp.qw vp.nw vp.cw,.int .i64 vp.lo,.int .i64 vp.hi,.int .i64 vp.op,.slice vp.qk vp.nk vp.ck,.int .i64 vq.kind,.string vq.attr,.slice vq.qi vq.ni vq.ci,.slice vq.qw vq.nw vq.cw,.int .i64 vq.lo,.int .i64 vq.hi,.int .i64 vq.op,.slice vq.qk vq.nk vq.ck] 28)) from (Below.refl _ _).alloc (Nat.le_refl _) _)
          have f398:=hide (show V396.heap[V390.heap.size]? = some (.cells #[.int .i64 vp.kind,.string vp.attr,.slice vp.qi vp.ni vp.ci,.slice vp.qw vp.nw vp.cw,.int .i64 vp.lo,.int .i64 vp.hi,.int .i64 vp.op,.slice vp.qk vp.nk vp.ck,.int .i64 vq.kind,.string vq.attr,.slice vq.qi vq.ni vq.ci,.slice vq.qw vq.nw vq.cw,.int .i64 vq.lo,.int .i64 vq.hi,.int .i64 vq.op,.slice vq.qk vq.nk vq.ck] 28 (0,0)) by rw [← h399];exact box_nw _ _)
          have f400:=hide ((uh f394).keep f398b)
          clear f394
          have f401:=hide ((uh f395).keep f398b)
          clear f395
          have f402:=hide (((f398b).block _ (heap_lt (uh f392))).trans (uh f392))
          clear f392
          clear h399 f398b
          refine wpAnyH_ready (rs:=[3]) (by kernel_rfl) (by simp) ?_
          refine AllReadyH.cons (o:=⟨some 25,.call { callee:=.value (.func 15),args:=#[.tmp 24],argTypes:=#[26] },_,_,_,none⟩) rfl (fun K hK=>?_) ?_
          · go_simp
            refine (cOr TP TQ vp vq _ _ (uh f398) (uh f400) (uh f401) (by decide +kernel)).mono ?_
            rintro e w403 ⟨⟨v406,rfl,b404n⟩,b404⟩
            simp only [Nv.val]
            have R405:Below V2.heap.size V2 w403:=below_sub R397 b404
            have f407:=hide ((uh f400).keep b404)
            clear f400
            have f408:=hide ((uh f401).keep b404)
            clear f401
            have f409:=hide (((b404).block _ (heap_lt (uh f402))).trans (uh f402))
            clear f402
            have f410:=hide (((b404).block _ (heap_lt (uh f398))).trans (uh f398))
            clear f398
            have f411:=hide b404n
            clear b404 b404n
            refine hK.out _ _ (KS _ R405) (fun hHeld=>?_)
            clear hK K
            refine wpAnyH_ready (rs:=[7]) (by kernel_rfl) (by simp) ?_
            refine AllReadyH.cons (o:=⟨some 29,.call { callee:=.value (.func 15),args:=#[.tmp 28],argTypes:=#[26] },_,_,_,none⟩) rfl (fun K hK=>?_) ?_
            · go_simp
              refine (cOr TQ TP vq vp _ _ (uh f409) (uh f408) (uh f407) (by decide +kernel)).mono ?_
              rintro e w412 ⟨⟨v415,rfl,b413n⟩,b413⟩
              simp only [Nv.val]
              have R414:Below V2.heap.size V2 w412:=below_sub R405 b413
              have f416:=hide ((uh f407).keep b413)
              clear f407
              have f417:=hide ((uh f408).keep b413)
              clear f408
              have f418:=hide (((b413).block _ (heap_lt (uh f409))).trans (uh f409))
              clear f409
              have f419:=hide (((b413).block _ (heap_lt (uh f410))).trans (uh f410))
              clear f410
              have f420:=hide ((uh f411).keep b413)
              clear f411
              have f421:=hide b413n
              clear b413 b413n
              refine hK.out _ _ (KS _ R414) (fun hHeld=>?_)
              clear hK K
              refine wpAnyH_ready (rs:=[8]) (by kernel_rfl) (by simp) ?_
              refine AllReadyH.cons (o:=⟨some 30,.buildSlice 26 2 #[(0,.tmp 25),(1,.tmp 29)],_,_,_,none⟩) rfl (fun K hK=>?_) ?_
              · go_simp
                refine hK.out _ _ (KS _ ((R414).alloc (R414).size _)) (fun hHeld=>?_)
                clear hK K
                obtain ⟨V422,h425⟩:∃ V422,World.alloc w412 (.cells #[.int .i64 v406.kind,.string v406.attr,.slice v406.qi v406.ni v406.ci,.slice v406.qw v406.nw v406.cw,.int .i64 v406.lo,.int .i64 v406.hi,.int .i64 v406.op,.slice v406.qk v406.nk v406.ck,.int .i64 v415.kind,.string v415.attr,.slice v415.qi v415.ni v415.ci,.slice v415.qw v415.nw v415.cw,.int .i64 v415.lo,.int .i64 v415.hi,.int .i64 v415.op,.slice v415.qk v415.nk v415.ck] 28)=V422:=⟨_,rfl⟩
                rw [h425]
                have R423:Below V2.heap.size V2 V422:=by rw [← h425];exact (show Below V2.heap.size V2 (World.alloc w412 (.cells #[.int .i64 v406.kind,.string v406.attr,.slice v406.qi v406.ni v406.ci,.slice v406.qw v406.nw v406.cw,.int .i64 v406.lo,.int .i64 v406.hi,.int .i64 v406.op,.slice v406.qk v406.nk v406.ck,.int .i64 v415.kind,.string v415.attr,.slice v415.qi v415.ni v415.ci,.slice v415.qw v415.nw v415.cw,.int .i64 v415.lo,.int .i64 v415.hi,.int .i64 v415.op,.slice v415.qk v415.nk v415.ck] 28)) from (R414).alloc (R414).size _)
                have f424b:Below w412.heap.size w412 V422:=by rw [← h425];exact (show Below w412.heap.size w412 (World.alloc w412 (.cells #[.int .i64 v406.kind,.string v406.attr,.slice v406.qi v406.ni v406.ci,.slice v406.qw v406.nw v406.cw,.int .i64 v406.lo,.int .i64 v406.hi,.int .i64 v406.op,.slice v406.qk v406.nk v406.ck,.int .i64 v415.kind,.string v415.attr,.slice v415.qi v415.ni v415.ci,.slice v415.qw v415.nw v415.cw,.int .i64 v415.lo,.int .i64 v415.hi,.int .i64 v415.op,.slice v415.qk v415.nk v415.ck] 28)) from (Below.refl _ _).alloc (Nat.le_refl _) _)
                have f424:=hide (show V422.heap[w412.heap.size]? = some (.cells #[.int .i64 v406.kind,.string v406.attr,.slice v406.qi v406.ni v406.ci,.slice v406.qw v406.nw v406.cw,.int .i64 v406.lo,.int .i64 v406.hi,.int .i64 v406.op,.slice v406.qk v406.nk v406.ck,.int .i64 v415.kind,.string v415.attr,.slice v415.qi v415.ni v415.ci,.slice v415.qw v415.nw v415.cw,.int .i64 v415.lo,.int .i64 v415.hi,.int .i64 v415.op,.slice v415.qk v415.nk v415.ck] 28 (0,0)) by rw [← h425];exact box_nw _ _)
                have f426:=hide ((uh f416).keep f424b)
                clear f416
                have f427:=hide ((uh f417).keep f424b)
                clear f417
                have f428:=hide (((f424b).block _ (heap_lt (uh f418))).trans (uh f418))
                clear f418
                have f429:=hide (((f424b).block _ (heap_lt (uh f419))).trans (uh f419))
                clear f419
                have f430:=hide ((uh f420).keep f424b)
                clear f420
                have f431:=hide ((uh f421).keep f424b)
                clear f421
                clear h425 f424b
                refine wpAnyH_ready (rs:=[9]) (by kernel_rfl) (by simp) ?_
                refine AllReadyH.cons (o:=⟨some 31,.call { callee:=.value (.func 13),args:=#[.tmp 30],argTypes:=#[26] },_,_,_,none⟩) rfl (fun K hK=>?_) ?_
                · go_simp
                  refine (cAnd (joinT 4 [TP,TQ]) (joinT 4 [TQ,TP]) v406 v415 _ _ (uh f424) (uh f430).toIn (uh f431).toIn (by decide +kernel)).mono ?_
                  rintro e w432 ⟨⟨v435,rfl,b433n⟩,b433⟩
                  simp only [Nv.val]
                  have R434:Below V2.heap.size V2 w432:=below_sub R423 b433
                  have f436:=hide ((uh f426).keep b433)
                  clear f426
                  have f437:=hide ((uh f427).keep b433)
                  clear f427
                  have f438:=hide (((b433).block _ (heap_lt (uh f428))).trans (uh f428))
                  clear f428
                  have f439:=hide (((b433).block _ (heap_lt (uh f429))).trans (uh f429))
                  clear f429
                  have f440:=hide ((uh f430).keep b433)
                  clear f430
                  have f441:=hide ((uh f431).keep b433)
                  clear f431
                  have f442:=hide (((b433).block _ (heap_lt (uh f424))).trans (uh f424))
                  clear f424
                  have f443:=hide b433n
                  clear b433 b433n
                  refine hK.out _ _ (KS _ R434) (fun hHeld=>?_)
                  clear hK K
                  refine wpAnyH_ready (rs:=[10]) (by kernel_rfl) (by simp) ?_
                  refine AllReadyH.cons (o:=⟨some 32,.call { callee:=.value (.func 14),args:=#[.tmp 31,.const (.int .i64 3)],argTypes:=#[28,3] },_,_,_,none⟩) rfl (fun K hK=>?_) ?_
                  · go_simp
                    refine (cWid v435 _ (uh f443).toIn).mono ?_
                    rintro e w444 ⟨rfl,b445⟩
                    have R446:Below V2.heap.size V2 w444:=below_sub R434 b445
                    have f447:=hide ((uh f436).keep b445)
                    clear f436
                    have f448:=hide ((uh f437).keep b445)
                    clear f437
                    have f449:=hide (((b445).block _ (heap_lt (uh f438))).trans (uh f438))
                    clear f438
                    have f450:=hide (((b445).block _ (heap_lt (uh f439))).trans (uh f439))
                    clear f439
                    have f451:=hide ((uh f440).keep b445)
                    clear f440
                    have f452:=hide ((uh f441).keep b445)
                    clear f441
                    have f453:=hide (((b445).block _ (heap_lt (uh f442))).trans (uh f442))
                    clear f442
                    have f454:=hide ((uh f443).keep b445)
                    clear f443
                    clear b445
                    refine hK.out _ _ (KS _ R446) (fun hHeld=>?_)
                    clear hK K
                    refine wpAnyH_take (i:=11) (oi:=⟨some 21,.move (.tmp 32),_,_,_,none⟩) (v:=?_) rfl (by kernel_rfl) (by kernel_rfl) (by kernel_rfl) (fun _ _ _ h=>h) (Or.inl ⟨by rfl, ?_⟩) (by assumption) ?_
                    rotate_left
                    · intro wq hSw
                      go_simp
                      with_reducible rfl
                    simp only [Act.put,List.setIfInBounds_toArray,List.set_cons_zero,List.set_cons_succ]
                    refine wpAnyH_take (i:=12) (oi:=⟨some 33,.extract (.tmp 21) 0,_,_,_,none⟩) (v:=?_) rfl (by kernel_rfl) (by kernel_rfl) (by kernel_rfl) (fun _ _ _ h=>h) (Or.inl ⟨by rfl, ?_⟩) (by assumption) ?_
                    rotate_left
                    · intro wq hSw
                      go_simp
                      with_reducible rfl
                    simp only [Act.put,List.setIfInBounds_toArray,List.set_cons_zero,List.set_cons_succ]
                    refine wpAnyH_take (i:=13) (oi:=⟨some 34,.extract (.tmp 21) 1,_,_,_,none⟩) (v:=?_) rfl (by kernel_rfl) (by kernel_rfl) (by kernel_rfl) (fun _ _ _ h=>h) (Or.inl ⟨by rfl, ?_⟩) (by assumption) ?_
                    rotate_left
                    · intro wq hSw
                      go_simp
                      with_reducible rfl
                    simp only [Act.put,List.setIfInBounds_toArray,List.set_cons_zero,List.set_cons_succ]
                    refine wpAnyH_take (i:=14) (oi:=⟨some 5,.assign (.tmp 33),_,_,_,none⟩) (v:=?_) rfl (by kernel_rfl) (by kernel_rfl) (by kernel_rfl) (fun _ _ _ h=>h) (Or.inl ⟨by rfl, ?_⟩) (by assumption) ?_
                    rotate_left
                    · intro wq hSw
                      go_simp
                      with_reducible rfl
                    simp only [Act.put,List.setIfInBounds_toArray,List.set_cons_zero,List.set_cons_succ]
                    refine wpAnyH_take (i:=15) (oi:=⟨some 6,.assign (.tmp 34),_,_,_,none⟩) (v:=?_) rfl (by kernel_rfl) (by kernel_rfl) (by kernel_rfl) (fun _ _ _ h=>h) (Or.inl ⟨by rfl, ?_⟩) (by assumption) ?_
                    rotate_left
                    · intro wq hSw
                      go_simp
                      with_reducible rfl
                    simp only [Act.put,List.setIfInBounds_toArray,List.set_cons_zero,List.set_cons_succ]
                    refine wpAnyH_done (by kernel_rfl) ?_ _
                    go_wp2
                    go_meet
                    case rel=>exact ⟨rfl,rfl,R446⟩
                  exact AllReadyH.nil
                exact AllReadyH.nil
              exact AllReadyH.nil
            exact AllReadyH.nil
          exact AllReadyH.nil
        exact AllReadyH.nil
      exact AllReadyH.nil
    case rest =>
      obtain ⟨rfl,rfl,hV23⟩:=hcut
      obtain ⟨V3,rfl⟩:∃ V3,V3=wc:=⟨_,rfl⟩
      have HP3:=hide ((uh HP2).keep hV23)
      have HQ3:=hide ((uh HQ2).keep hV23)
      have HM3:=hide ((uh HM2).keep hV23)
      have hC1:=(hV23.block _ (heap_lt (uh HC1))).trans (uh HC1)
      have hC2:=(hV23.block _ (heap_lt (uh HC2))).trans (uh HC2)
      have hC3:=(hV23.block _ (heap_lt (uh HC3))).trans (uh HC3)
      have BV3:=hide (below_sub (uh BV) hV23)
      have KS3:∀ W:World,Below V3.heap.size V3 W→(fun w'=>w'.cell? ⟨N1,0,none⟩=some (.int .i64 vp.kind)∧w'.cell? ⟨N1,1,none⟩=some (.string vp.attr)∧w'.cell? ⟨N1,2,none⟩=some (.slice vp.qi vp.ni vp.ci)∧w'.cell? ⟨N1,3,none⟩=some (.slice vp.qw vp.nw vp.cw)∧w'.cell? ⟨N1,4,none⟩=some (.int .i64 vp.lo)∧w'.cell? ⟨N1,5,none⟩=some (.int .i64 vp.hi)∧w'.cell? ⟨N1,6,none⟩=some (.int .i64 vp.op)∧w'.cell? ⟨N1,7,none⟩=some (.slice vp.qk vp.nk vp.ck)∧w'.cell? ⟨N2,0,none⟩=some (.int .i64 vq.kind)∧w'.cell? ⟨N2,1,none⟩=some (.string vq.attr)∧w'.cell? ⟨N2,2,none⟩=some (.slice vq.qi vq.ni vq.ci)∧w'.cell? ⟨N2,3,none⟩=some (.slice vq.qw vq.nw vq.cw)∧w'.cell? ⟨N2,4,none⟩=some (.int .i64 vq.lo)∧w'.cell? ⟨N2,5,none⟩=some (.int .i64 vq.hi)∧w'.cell? ⟨N2,6,none⟩=some (.int .i64 vq.op)∧w'.cell? ⟨N2,7,none⟩=some (.slice vq.qk vq.nk vq.ck)∧w'.cell? ⟨N3,0,none⟩=some (.int .i64 vm.kind)∧w'.cell? ⟨N3,1,none⟩=some (.string vm.attr)∧w'.cell? ⟨N3,2,none⟩=some (.slice vm.qi vm.ni vm.ci)∧w'.cell? ⟨N3,3,none⟩=some (.slice vm.qw vm.nw vm.cw)∧w'.cell? ⟨N3,4,none⟩=some (.int .i64 vm.lo)∧w'.cell? ⟨N3,5,none⟩=some (.int .i64 vm.hi)∧w'.cell? ⟨N3,6,none⟩=some (.int .i64 vm.op)∧w'.cell? ⟨N3,7,none⟩=some (.slice vm.qk 2 vm.ck)) W:=fun W hb=>by
        obtain ⟨a0,a1,a2,a3,a4,a5,a6,a7⟩:=of8' ((hb.block _ (heap_lt hC1)).trans hC1)
        obtain ⟨b0,b1,b2,b3,b4,b5,b6,b7⟩:=of8' ((hb.block _ (heap_lt hC2)).trans hC2)
        obtain ⟨c0,c1,c2,c3,c4,c5,c6,c7⟩:=of8' ((hb.block _ (heap_lt hC3)).trans hC3)
        rw [nk_TM (uh HM3)] at c7
        exact ⟨a0,a1,a2,a3,a4,a5,a6,a7,b0,b1,b2,b3,b4,b5,b6,b7,c0,c1,c2,c3,c4,c5,c6,c7⟩
      have hNk:vm.nk=2:=nk_TM (uh HM3)
      have hSame:=fun (u:Nv) (W:World) (h1:NdIn W vm TM) (h2:NdIn W u TM)=>cSame vm u W h1 h2
      have hPd:=fun (W:World) (h1:NdIn W vm TM)=>cPushed vm W h1
      simp only [hNk] at hSame hPd
      clear hNk
      have l1:=heap_lt hC1
      have l2:=heap_lt hC2
      have l3:=heap_lt hC3
      clear KS HC1 HC2 HC3 HP2 HQ2 HM2 hV23
      obtain ⟨x0,x1,x2,x3,x4,x5,x6,x7,y0,y1,y2,y3,y4,y5,y6,y7,z0,z1,z2,z3,z4,z5,z6,z7⟩:=KS3 V3 (Below.refl _ _)
      have HKS:=hide KS3
      clear KS3 hC1 hC2 hC3
      go_wp2
      go_region_held3 (fun w'=>w'.cell? ⟨N1,0,none⟩=some (.int .i64 vp.kind)∧w'.cell? ⟨N1,1,none⟩=some (.string vp.attr)∧w'.cell? ⟨N1,2,none⟩=some (.slice vp.qi vp.ni vp.ci)∧w'.cell? ⟨N1,3,none⟩=some (.slice vp.qw vp.nw vp.cw)∧w'.cell? ⟨N1,4,none⟩=some (.int .i64 vp.lo)∧w'.cell? ⟨N1,5,none⟩=some (.int .i64 vp.hi)∧w'.cell? ⟨N1,6,none⟩=some (.int .i64 vp.op)∧w'.cell? ⟨N1,7,none⟩=some (.slice vp.qk vp.nk vp.ck)∧w'.cell? ⟨N2,0,none⟩=some (.int .i64 vq.kind)∧w'.cell? ⟨N2,1,none⟩=some (.string vq.attr)∧w'.cell? ⟨N2,2,none⟩=some (.slice vq.qi vq.ni vq.ci)∧w'.cell? ⟨N2,3,none⟩=some (.slice vq.qw vq.nw vq.cw)∧w'.cell? ⟨N2,4,none⟩=some (.int .i64 vq.lo)∧w'.cell? ⟨N2,5,none⟩=some (.int .i64 vq.hi)∧w'.cell? ⟨N2,6,none⟩=some (.int .i64 vq.op)∧w'.cell? ⟨N2,7,none⟩=some (.slice vq.qk vq.nk vq.ck)∧w'.cell? ⟨N3,0,none⟩=some (.int .i64 vm.kind)∧w'.cell? ⟨N3,1,none⟩=some (.string vm.attr)∧w'.cell? ⟨N3,2,none⟩=some (.slice vm.qi vm.ni vm.ci)∧w'.cell? ⟨N3,3,none⟩=some (.slice vm.qw vm.nw vm.cw)∧w'.cell? ⟨N3,4,none⟩=some (.int .i64 vm.lo)∧w'.cell? ⟨N3,5,none⟩=some (.int .i64 vm.hi)∧w'.cell? ⟨N3,6,none⟩=some (.int .i64 vm.op)∧w'.cell? ⟨N3,7,none⟩=some (.slice vm.qk 2 vm.ck))
        (first | go_keep | exact ⟨(R4.cell (by exact l1)).trans x0,(R4.cell (by exact l1)).trans x1,(R4.cell (by exact l1)).trans x2,(R4.cell (by exact l1)).trans x3,(R4.cell (by exact l1)).trans x4,(R4.cell (by exact l1)).trans x5,(R4.cell (by exact l1)).trans x6,(R4.cell (by exact l1)).trans x7,(R4.cell (by exact l2)).trans y0,(R4.cell (by exact l2)).trans y1,(R4.cell (by exact l2)).trans y2,(R4.cell (by exact l2)).trans y3,(R4.cell (by exact l2)).trans y4,(R4.cell (by exact l2)).trans y5,(R4.cell (by exact l2)).trans y6,(R4.cell (by exact l2)).trans y7,(R4.cell (by exact l3)).trans z0,(R4.cell (by exact l3)).trans z1,(R4.cell (by exact l3)).trans z2,(R4.cell (by exact l3)).trans z3,(R4.cell (by exact l3)).trans z4,(R4.cell (by exact l3)).trans z5,(R4.cell (by exact l3)).trans z6,(R4.cell (by exact l3)).trans z7⟩)
        (first
          | (go_at_call 12;refine (cNot TP vp _ ((uh HP3).keep (Below.refl _ _).drew) (by decide +kernel)).mono ?_;rintro e w5 ⟨⟨vn,rfl,nn⟩,b5⟩;simp only [Nv.val];have R4:Below V3.heap.size V3 w5:=(below_sub (Below.refl _ _).drew b5);have NN:=hide nn.toIn;clear nn b5)
          | (go_at_call 15;refine (cOr (notT TP) TQ vn vq _ _ (by exact box_nw _ _) ((uh NN).keep ((Below.refl _ _).alloc (Nat.le_refl _) _)) ((uh HQ3).keep (R4.alloc R4.size _)) (by decide +kernel)).mono ?_;rintro e w6 ⟨⟨vo,rfl,no⟩,b6⟩;simp only [Nv.val];have R4:Below V3.heap.size V3 w6:=(below_sub (R4.alloc R4.size _) b6);have NO:=hide no.toIn;clear no b6)
          | (go_at_call 16;refine (hSame vo _ ((uh HM3).keep R4) (uh NO)).mono ?_;rintro e w7 ⟨rfl,b7⟩;have R4:Below V3.heap.size V3 w7:=(below_sub R4 b7))
          | (go_at_call 17;refine (hPd _ ((uh HM3).keep R4)).mono ?_;rintro e w8 ⟨rfl,b8⟩;have R4:Below V3.heap.size V3 w8:=(below_sub R4 b8))
          | (go_at_call 18;refine (cSum _ _ (by exact box_nw _ _)).mono ?_;rintro e w9 ⟨rfl,b9⟩;have R4:Below V3.heap.size V3 w9:=(below_sub (R4.alloc R4.size _) b9))
          | (go_at_call 19;refine (cProd _ _ (by exact box_nw _ _)).mono ?_;rintro e w10 ⟨rfl,b10⟩;have R4:Below V3.heap.size V3 w10:=(below_sub (R4.alloc R4.size _) b10)))
      go_wp2
      go_ret
      exact ⟨ret_bool (by simp),below_sub (uh BV3) R4⟩
end Go.Proofs.Ytikhopiegaoacab
