/- The law's helper fixed (layer 8) returns true. -/
import Derived.Test.YtikhopiegaoacacDDnfTree
import Derived.Test.YtikhopiegaoacacDDnfExpand
import Derived.Test.YtikhopiegaoacacDFixPlain
import Derived.Test.YtikhopiegaoacacDZad
import Derived.Deep.Cut
import Derived.Deep.RegionHeld3
namespace Go.Proofs.Ytikhopiegaoacac
open Go.RowKit Go.Sort
def TP:Nd:=.mk 1 ⟨#[97]⟩ [1] [] 0 0 1 []
def TQ:Nd:=.mk 1 ⟨#[97]⟩ [2] [] 0 0 1 []
def TN:Nd:=joinT 3 [joinT 4 [TP,TQ],notT (joinT 3 [TQ,TP])]
def CS:List (List Lt):=[[⟨1,⟨#[97]⟩,[1],[],0,0,false⟩,⟨1,⟨#[97]⟩,[2],[],0,0,true⟩],[⟨1,⟨#[97]⟩,[1],[],0,0,false⟩,⟨1,⟨#[97]⟩,[1],[],0,0,true⟩],[⟨1,⟨#[97]⟩,[2],[],0,0,false⟩,⟨1,⟨#[97]⟩,[2],[],0,0,true⟩],[⟨1,⟨#[97]⟩,[2],[],0,0,false⟩,⟨1,⟨#[97]⟩,[1],[],0,0,true⟩]]
def PA:Pr:=⟨⟨#[97]⟩,1,1,⟨#[]⟩⟩
theorem exp4:expE TN 4=0∧expC TN 4=CS:=⟨by decide +kernel,by kernel_rfl⟩
theorem exp3:expE TN 3=13∧expC TN 3=[]:=⟨by decide +kernel,by kernel_rfl⟩
theorem tree_CS:treeE CS=0∧treeT CS=.mk 0 ⟨#[]⟩ [] [] 0 0 4 (CS.map treeC):=⟨by decide +kernel,by kernel_rfl⟩
theorem any_CS:anyC [PA] CS=true∧[(⟨1,⟨#[97]⟩,[1],[],0,0,false⟩:Lt),⟨1,⟨#[97]⟩,[2],[],0,0,true⟩].all (ltH [PA])=true∧[(⟨1,⟨#[97]⟩,[1],[],0,0,false⟩:Lt),⟨1,⟨#[97]⟩,[1],[],0,0,true⟩].all (ltH [PA])=false:=⟨by decide +kernel,by decide +kernel,by decide +kernel⟩
theorem CS_small:∀ ls ∈ CS,(litBound ls∧ls.length≤1000000000)∧ls.length≤1000000000∧wtL (ls.map litN)≤400000000:=by
  intro ls h
  have hb:ls.length≤2∧wtL (ls.map litN)≤100∧ls.all (fun l=>decide (l.ints.length≤10) && decide (l.words.length≤10))=true:=by
    simp only [CS,List.mem_cons,List.not_mem_nil,or_false] at h
    rcases h with rfl | rfl | rfl | rfl <;> exact ⟨by decide,by decide +kernel,by decide +kernel⟩
  obtain ⟨h1,h2,h3⟩:=hb
  refine ⟨⟨fun l hl=>?_,by omega⟩,by omega,by omega⟩
  have:=List.all_eq_true.1 h3 l hl
  simp at this
  omega
theorem nwb {w V:World} {o:Obj} (h:w.alloc o=V):V.heap[w.heap.size]? = some o:=by rw [← h];exact box_nw _ _
theorem block_of {w:World} {M:Nat} {cs:Array Value} {l:List Int} (h:w.heap[M]? = some (.cells cs 3 (0,0))) (hf:(flatK encI 1 l.toArray).toList=cs.toList) (hl:l.length≤1000):SlOf encI 1 w (some ⟨M,0,none⟩) l.length l :=
  ⟨(fun h=>by cases h),Nat.le_refl _,by unfold maxLen;omega,fun _=>⟨M,0,rfl,heap_lt h,fun j u hj=>by rw [Nat.zero_add,Lib.cell_of_heap h];rw [hf,Array.getElem?_toList] at hj;exact hj⟩⟩
theorem pr_of {w:World} {M:Nat} (h:w.heap[M]? = some (.cells #[.string ⟨#[97]⟩,.int .i64 1,.int .i64 1,.string ⟨#[]⟩] 48 (0,0))):SlOf encP 4 w (some ⟨M,0,none⟩) 1 [PA] :=
  ⟨(fun h=>by cases h),Nat.le_refl _,by unfold maxLen;omega,LsOf.one (heap_lt h) fun c hc=>by
    have hm:c=0 ∨ c=1 ∨ c=2 ∨ c=3:=by omega
    rcases hm with e | e | e | e <;> subst e <;> (rw [Lib.cell_of_heap h];rfl)⟩
theorem set1_blk {W:World} {b i:Nat} {cs:Array Value} {T:TypeId} {v:Value} (h:W.heap[b]? = some (.cells cs T (0,0))):(W.setCell ⟨b,i,none⟩ v).heap[b]? = some (.cells (cs.setIfInBounds i v) T (0,0)):=by
  have hb:=heap_lt h
  have h':W.heap[b]=.cells cs T (0,0):=by rw [Array.getElem?_eq_getElem hb] at h;exact Option.some.inj h
  simp [World.setCell,hb,Array.getElem_modify,h']
theorem set8_blk {W:World} {b:Nat} {T:TypeId} {a0 a1 a2 a3 a4 a5 a6 a7 v0 v1 v2 v3 v4 v5 v6 v7:Value} (h:W.heap[b]? = some (.cells #[a0,a1,a2,a3,a4,a5,a6,a7] T (0,0))) :
    ((((((((W.setCell ⟨b,0,none⟩ v0).setCell ⟨b,1,none⟩ v1).setCell ⟨b,2,none⟩ v2).setCell ⟨b,3,none⟩ v3).setCell ⟨b,4,none⟩ v4).setCell ⟨b,5,none⟩ v5).setCell ⟨b,6,none⟩ v6).setCell ⟨b,7,none⟩ v7).heap[b]? = some (.cells #[v0,v1,v2,v3,v4,v5,v6,v7] T (0,0)):=by
  have:=set1_blk (v:=v7) (i:=7) (set1_blk (v:=v6) (i:=6) (set1_blk (v:=v5) (i:=5) (set1_blk (v:=v4) (i:=4) (set1_blk (v:=v3) (i:=3) (set1_blk (v:=v2) (i:=2) (set1_blk (v:=v1) (i:=1) (set1_blk (v:=v0) (i:=0) h)))))))
  simpa using this
theorem nds_two {w:World} {M:Nat} {v1 v2:Nv} {x1 x2:Nd} (h:w.heap[M]? = some (.cells #[.int .i64 v1.kind,.string v1.attr,.slice v1.qi v1.ni v1.ci,.slice v1.qw v1.nw v1.cw,.int .i64 v1.lo,.int .i64 v1.hi,.int .i64 v1.op,.slice v1.qk v1.nk v1.ck,.int .i64 v2.kind,.string v2.attr,.slice v2.qi v2.ni v2.ci,.slice v2.qw v2.nw v2.cw,.int .i64 v2.lo,.int .i64 v2.hi,.int .i64 v2.op,.slice v2.qk v2.nk v2.ck] 28 (0,0))) (h1:NdIn w v1 x1) (h2:NdIn w v2 x2):NdsOf w (some ⟨M,0,none⟩) 2 [x1,x2] :=
  ⟨[v1,v2],of_block (vs:=[v1,v2]) h (by rw [flat_2];rfl) (by simp),rfl,fun j u y hj hy=>by
    match j,hj,hy with
    | 0,hj,hy=>cases hj;cases hy;exact h1
    | 1,hj,hy=>cases hj;cases hy;exact h2⟩
theorem cNot (x:Nd) (v:Nv) (w:World) (h:NdIn w v x) (hw:wtN x≤1000):Calls Try.prog 16 #[.agg #[.int .i64 v.kind,.string v.attr,.slice v.qi v.ni v.ci,.slice v.qw v.nw v.cw,.int .i64 v.lo,.int .i64 v.hi,.int .i64 v.op,.slice v.qk v.nk v.ck]] w fun e w'=>NewT w.heap.size w' (notT x) e∧Below w.heap.size w w':=not_any x v w h (by omega)
theorem cAnd (x y:Nd) (v u:Nv) (M:Nat) (w:World) (hM:w.heap[M]? = some (.cells #[.int .i64 v.kind,.string v.attr,.slice v.qi v.ni v.ci,.slice v.qw v.nw v.cw,.int .i64 v.lo,.int .i64 v.hi,.int .i64 v.op,.slice v.qk v.nk v.ck,.int .i64 u.kind,.string u.attr,.slice u.qi u.ni u.ci,.slice u.qw u.nw u.cw,.int .i64 u.lo,.int .i64 u.hi,.int .i64 u.op,.slice u.qk u.nk u.ck] 28 (0,0))) (h1:NdIn w v x) (h2:NdIn w u y) (hw:wtL [x,y]≤1000):Calls Try.prog 14 #[.slice (some ⟨M,0,none⟩) 2 2] w fun e w'=>NewT w.heap.size w' (joinT 3 [x,y]) e∧Below w.heap.size w w':=and_any (some ⟨M,0,none⟩) 2 [x,y] w (nds_two hM h1 h2) (by omega)
theorem cOr (x y:Nd) (v u:Nv) (M:Nat) (w:World) (hM:w.heap[M]? = some (.cells #[.int .i64 v.kind,.string v.attr,.slice v.qi v.ni v.ci,.slice v.qw v.nw v.cw,.int .i64 v.lo,.int .i64 v.hi,.int .i64 v.op,.slice v.qk v.nk v.ck,.int .i64 u.kind,.string u.attr,.slice u.qi u.ni u.ci,.slice u.qw u.nw u.cw,.int .i64 u.lo,.int .i64 u.hi,.int .i64 u.op,.slice u.qk u.nk u.ck] 28 (0,0))) (h1:NdIn w v x) (h2:NdIn w u y) (hw:wtL [x,y]≤1000):Calls Try.prog 15 #[.slice (some ⟨M,0,none⟩) 2 2] w fun e w'=>NewT w.heap.size w' (joinT 4 [x,y]) e∧Below w.heap.size w w':=or_any (some ⟨M,0,none⟩) 2 [x,y] w (nds_two hM h1 h2) (by omega)
theorem cExp4 (v:Nv) (w:World) (h:NdIn w v TN):Calls Try.prog 6 #[.agg #[.int .i64 v.kind,.string v.attr,.slice v.qi v.ni v.ci,.slice v.qw v.nw v.cw,.int .i64 v.lo,.int .i64 v.hi,.int .i64 v.op,.slice v.qk v.nk v.ck],.int .i64 4] w fun e w'=>(∃ q c,e=.returned (.tuple #[.slice q 4 c,.int .i64 0])∧CjsOf w' q c CS)∧Below w.heap.size w w':=by
  refine (expand_any TN 4 v w h (Nat.le_trans (show wtN TN≤1000 by decide +kernel) (by omega))).mono ?_
  rw [exp4.1,exp4.2]
  rintro e w' ⟨⟨q,c,h1,h2⟩,b⟩
  exact ⟨⟨q,c,h1,h2.of⟩,b⟩
theorem cExp3 (v:Nv) (w:World) (h:NdIn w v TN):Calls Try.prog 6 #[.agg #[.int .i64 v.kind,.string v.attr,.slice v.qi v.ni v.ci,.slice v.qw v.nw v.cw,.int .i64 v.lo,.int .i64 v.hi,.int .i64 v.op,.slice v.qk v.nk v.ck],.int .i64 3] w fun e w'=>(∃ q c,e=.returned (.tuple #[.slice q 0 c,.int .i64 13]))∧Below w.heap.size w w':=by
  refine (expand_any TN 3 v w h (Nat.le_trans (show wtN TN≤1000 by decide +kernel) (by omega))).mono ?_
  rw [exp3.1,exp3.2]
  rintro e w' ⟨⟨q,c,h1,h2⟩,b⟩
  exact ⟨⟨q,c,h1⟩,b⟩
theorem cTree (q:Option Addr) (c:Nat) (w:World) (h:CjsOf w q c CS):Calls Try.prog 17 #[.slice q 4 c] w fun e w'=>(∃ v:Nv,e=.returned (.tuple #[v.val,.int .i64 0])∧v.nk=4)∧Below w.heap.size w w':=by
  refine (tree_any q c CS w h (fun ls hl=>(CS_small ls hl).2) (Nat.le_trans (show wtL (CS.map treeC)≤1000 by decide +kernel) (by omega)) (by decide)).mono ?_
  rw [tree_CS.1,tree_CS.2]
  rintro e w' ⟨⟨v,h1,h2⟩,b⟩
  obtain ⟨_,_,_,_,_,_,rfl,_⟩:=h2.toIn.parts
  exact ⟨⟨_,h1,rfl⟩,b⟩
set_option maxRecDepth 100000 in
set_option maxHeartbeats 16000000 in
theorem fixed8_any (w:World):Calls Try.prog 4 #[] w fun e w'=>e=.returned (.bool true)∧Below w.heap.size w w':=by
  have mixed:Try.prog.follows .mixedOrders=true:=by kernel_rfl
  have fl1:(flatK encI 1 ([1]:List Int).toArray).toList=[.int .i64 1]:=by kernel_rfl
  have fl2:(flatK encI 1 ([2]:List Int).toArray).toList=[.int .i64 2]:=by kernel_rfl
  have c1:=fun (W:World) (M:Nat) (h:W.heap[M]? = some (.cells #[.int .i64 1] 3 (0,0)))=>ints_any ⟨#[97]⟩ (some ⟨M,0,none⟩) 1 [1] W (block_of (l:=([1]:List Int)) h fl1 (by decide)) (by decide)
  have c2:=fun (W:World) (M:Nat) (h:W.heap[M]? = some (.cells #[.int .i64 2] 3 (0,0)))=>ints_any ⟨#[97]⟩ (some ⟨M,0,none⟩) 1 [2] W (block_of (l:=([2]:List Int)) h fl2 (by decide)) (by decide)
  simp only [List.length_cons,List.length_nil,Nat.zero_add] at c1 c2
  have HF:=hide (And.intro fl1 fl2)
  clear fl1 fl2
  go_enter Try.func4,Try.ntmps4
  go_wp2_with (first
    | (go_at_call 13;have tst:=uh B1;clear tst;refine (c2 _ _ (by exact box_nw _ _)).mono ?_;rintro e w2 ⟨⟨vq,rfl,nq⟩,b2⟩;simp only [Nv.val];have NQ:=hide nq.toIn;have NP2:=hide (((uh NP).keep ((Below.refl _ _).alloc (Nat.le_refl _) _)).keep b2);have B2:=hide (below_sub ((uh B1).alloc (uh B1).size (.cells #[.int .i64 2] 3)) b2);clear nq b2)
    | (go_at_call 13;refine (c1 _ _ (by exact box_nw _ _)).mono ?_;rintro e w1 ⟨⟨vp,rfl,np⟩,b1⟩;simp only [Nv.val];have NP:=hide np.toIn;have B1:=hide (below_sub ((Below.refl w.heap.size w).alloc (Nat.le_refl _) (.cells #[.int .i64 1] 3)) b1);clear np b1))
  obtain ⟨U,HU⟩:∃ U,(w2.alloc (.cells #[.int .i64 vp.kind,.string vp.attr,.slice vp.qi vp.ni vp.ci,.slice vp.qw vp.nw vp.cw,.int .i64 vp.lo,.int .i64 vp.hi,.int .i64 vp.op,.slice vp.qk vp.nk vp.ck] 28)).alloc (.cells #[.int .i64 vq.kind,.string vq.attr,.slice vq.qi vq.ni vq.ci,.slice vq.qw vq.nw vq.cw,.int .i64 vq.lo,.int .i64 vq.hi,.int .i64 vq.op,.slice vq.qk vq.nk vq.ck] 28)=U:=⟨_,rfl⟩
  rw [HU]
  obtain ⟨hU1,hU2,hbU,hsU⟩:=twoM HU
  obtain ⟨N1,hN1⟩:∃ N1,w2.heap.size=N1:=⟨_,rfl⟩
  obtain ⟨N2,hN2⟩:∃ N2,N1 + 1=N2:=⟨_,rfl⟩
  rw [hN1] at hU1 hU2
  rw [hN2] at hU2
  have HP:=hide ((uh NP2).keep hbU)
  have HQ:=hide ((uh NQ).keep hbU)
  have BU:=hide (below_sub (uh B2) hbU)
  simp only [hN1,hN2]
  clear hbU HU NP NP2 NQ B1 B2 c1 c2
  have KS:∀ W:World,Below U.heap.size U W→(fun w'=>w'.cell? ⟨N1,0,none⟩=some (.int .i64 vp.kind)∧w'.cell? ⟨N1,1,none⟩=some (.string vp.attr)∧w'.cell? ⟨N1,2,none⟩=some (.slice vp.qi vp.ni vp.ci)∧w'.cell? ⟨N1,3,none⟩=some (.slice vp.qw vp.nw vp.cw)∧w'.cell? ⟨N1,4,none⟩=some (.int .i64 vp.lo)∧w'.cell? ⟨N1,5,none⟩=some (.int .i64 vp.hi)∧w'.cell? ⟨N1,6,none⟩=some (.int .i64 vp.op)∧w'.cell? ⟨N1,7,none⟩=some (.slice vp.qk vp.nk vp.ck)∧w'.cell? ⟨N2,0,none⟩=some (.int .i64 vq.kind)∧w'.cell? ⟨N2,1,none⟩=some (.string vq.attr)∧w'.cell? ⟨N2,2,none⟩=some (.slice vq.qi vq.ni vq.ci)∧w'.cell? ⟨N2,3,none⟩=some (.slice vq.qw vq.nw vq.cw)∧w'.cell? ⟨N2,4,none⟩=some (.int .i64 vq.lo)∧w'.cell? ⟨N2,5,none⟩=some (.int .i64 vq.hi)∧w'.cell? ⟨N2,6,none⟩=some (.int .i64 vq.op)∧w'.cell? ⟨N2,7,none⟩=some (.slice vq.qk vq.nk vq.ck)) W:=fun W hb=>by
    obtain ⟨a0,a1,a2,a3,a4,a5,a6,a7⟩:=of8' ((hb.block _ (heap_lt hU1)).trans hU1)
    obtain ⟨b0,b1,b2,b3,b4,b5,b6,b7⟩:=of8' ((hb.block _ (heap_lt hU2)).trans hU2)
    exact ⟨a0,a1,a2,a3,a4,a5,a6,a7,b0,b1,b2,b3,b4,b5,b6,b7⟩
  clear hsU hN1 hN2 hU1 hU2
  go_cut [3] from 11 (fun s3 V=>∃ (N3:Nat) (vm:Nv),s3=.pointer (some ⟨N3,0,none⟩)∧V.heap[N3]? = some (.cells #[.int .i64 vm.kind,.string vm.attr,.slice vm.qi vm.ni vm.ci,.slice vm.qw vm.nw vm.cw,.int .i64 vm.lo,.int .i64 vm.hi,.int .i64 vm.op,.slice vm.qk vm.nk vm.ck] 28 (0,0))∧Below U.heap.size U V∧NdIn V vm TN)
  case first =>
    have R0:Below U.heap.size U U.drew:=(Below.refl _ _).drew
    have HP0:=hide ((uh HP).keep R0)
    have HQ0:=hide ((uh HQ).keep R0)
    refine wp_region_held_drew (S:=fun w'=>w'.cell? ⟨N1,0,none⟩=some (.int .i64 vp.kind)∧w'.cell? ⟨N1,1,none⟩=some (.string vp.attr)∧w'.cell? ⟨N1,2,none⟩=some (.slice vp.qi vp.ni vp.ci)∧w'.cell? ⟨N1,3,none⟩=some (.slice vp.qw vp.nw vp.cw)∧w'.cell? ⟨N1,4,none⟩=some (.int .i64 vp.lo)∧w'.cell? ⟨N1,5,none⟩=some (.int .i64 vp.hi)∧w'.cell? ⟨N1,6,none⟩=some (.int .i64 vp.op)∧w'.cell? ⟨N1,7,none⟩=some (.slice vp.qk vp.nk vp.ck)∧w'.cell? ⟨N2,0,none⟩=some (.int .i64 vq.kind)∧w'.cell? ⟨N2,1,none⟩=some (.string vq.attr)∧w'.cell? ⟨N2,2,none⟩=some (.slice vq.qi vq.ni vq.ci)∧w'.cell? ⟨N2,3,none⟩=some (.slice vq.qw vq.nw vq.cw)∧w'.cell? ⟨N2,4,none⟩=some (.int .i64 vq.lo)∧w'.cell? ⟨N2,5,none⟩=some (.int .i64 vq.hi)∧w'.cell? ⟨N2,6,none⟩=some (.int .i64 vq.op)∧w'.cell? ⟨N2,7,none⟩=some (.slice vq.qk vq.nk vq.ck)) (by kernel_rfl) (KS _ R0) (fun hHeld=>?_)
    refine wpAnyH_take (i:=0) (oi:=⟨some 15,.load 28 (.tmp 1),_,_,_,none⟩) (v:=?_) rfl (by kernel_rfl) (by kernel_rfl) (by kernel_rfl) (fun _ _ _ h=>h) (Or.inl ⟨by rfl, ?_⟩) (by assumption) ?_
    rotate_left
    · intro wq hSw
      go_simp
      with_reducible rfl
    simp only [Act.put,List.setIfInBounds_toArray,List.set_cons_zero,List.set_cons_succ]
    refine wpAnyH_take (i:=1) (oi:=⟨some 16,.load 28 (.tmp 2),_,_,_,none⟩) (v:=?_) rfl (by kernel_rfl) (by kernel_rfl) (by kernel_rfl) (fun _ _ _ h=>h) (Or.inl ⟨by rfl, ?_⟩) (by assumption) ?_
    rotate_left
    · intro wq hSw
      go_simp
      with_reducible rfl
    simp only [Act.put,List.setIfInBounds_toArray,List.set_cons_zero,List.set_cons_succ]
    refine wpAnyH_take (i:=4) (oi:=⟨some 19,.load 28 (.tmp 2),_,_,_,none⟩) (v:=?_) rfl (by kernel_rfl) (by kernel_rfl) (by kernel_rfl) (fun _ _ _ h=>h) (Or.inl ⟨by rfl, ?_⟩) (by assumption) ?_
    rotate_left
    · intro wq hSw
      go_simp
      with_reducible rfl
    simp only [Act.put,List.setIfInBounds_toArray,List.set_cons_zero,List.set_cons_succ]
    refine wpAnyH_take (i:=5) (oi:=⟨some 20,.load 28 (.tmp 1),_,_,_,none⟩) (v:=?_) rfl (by kernel_rfl) (by kernel_rfl) (by kernel_rfl) (fun _ _ _ h=>h) (Or.inl ⟨by rfl, ?_⟩) (by assumption) ?_
    rotate_left
    · intro wq hSw
      go_simp
      with_reducible rfl
    simp only [Act.put,List.setIfInBounds_toArray,List.set_cons_zero,List.set_cons_succ]
    refine wpAnyH_ready (rs:=[2,6,11]) (by kernel_rfl) (by simp) ?_
    refine AllReadyH.cons (o:=⟨some 17,.buildSlice 26 2 #[(0,.tmp 15),(1,.tmp 16)],_,_,_,none⟩) rfl (fun K hK=>?_) ?_
    ·go_simp
     refine hK.out _ _ (KS _ ((Below.refl _ _).alloc (Nat.le_refl _) _).drew) (fun hHeld=>?_)
     clear hK K
     obtain ⟨V1,h4⟩:∃ V1,(World.alloc U (.cells #[.int .i64 vp.kind,.string vp.attr,.slice vp.qi vp.ni vp.ci,.slice vp.qw vp.nw vp.cw,.int .i64 vp.lo,.int .i64 vp.hi,.int .i64 vp.op,.slice vp.qk vp.nk vp.ck,.int .i64 vq.kind,.string vq.attr,.slice vq.qi vq.ni vq.ci,.slice vq.qw vq.nw vq.cw,.int .i64 vq.lo,.int .i64 vq.hi,.int .i64 vq.op,.slice vq.qk vq.nk vq.ck] 28)).drew=V1:=⟨_,rfl⟩
     rw [h4]
     have R2:Below U.heap.size U V1:=by rw [← h4];exact (show Below U.heap.size U (World.alloc U.drew (.cells #[.int .i64 vp.kind,.string vp.attr,.slice vp.qi vp.ni vp.ci,.slice vp.qw vp.nw vp.cw,.int .i64 vp.lo,.int .i64 vp.hi,.int .i64 vp.op,.slice vp.qk vp.nk vp.ck,.int .i64 vq.kind,.string vq.attr,.slice vq.qi vq.ni vq.ci,.slice vq.qw vq.nw vq.cw,.int .i64 vq.lo,.int .i64 vq.hi,.int .i64 vq.op,.slice vq.qk vq.nk vq.ck] 28)) from (R0).alloc (R0).size _)
     have f3b:Below U.drew.heap.size U.drew V1:=by rw [← h4];exact (show Below U.drew.heap.size U.drew (World.alloc U.drew (.cells #[.int .i64 vp.kind,.string vp.attr,.slice vp.qi vp.ni vp.ci,.slice vp.qw vp.nw vp.cw,.int .i64 vp.lo,.int .i64 vp.hi,.int .i64 vp.op,.slice vp.qk vp.nk vp.ck,.int .i64 vq.kind,.string vq.attr,.slice vq.qi vq.ni vq.ci,.slice vq.qw vq.nw vq.cw,.int .i64 vq.lo,.int .i64 vq.hi,.int .i64 vq.op,.slice vq.qk vq.nk vq.ck] 28)) from (Below.refl _ _).alloc (Nat.le_refl _) _)
     have f3:=hide (show V1.heap[U.heap.size]? = some (.cells #[.int .i64 vp.kind,.string vp.attr,.slice vp.qi vp.ni vp.ci,.slice vp.qw vp.nw vp.cw,.int .i64 vp.lo,.int .i64 vp.hi,.int .i64 vp.op,.slice vp.qk vp.nk vp.ck,.int .i64 vq.kind,.string vq.attr,.slice vq.qi vq.ni vq.ci,.slice vq.qw vq.nw vq.cw,.int .i64 vq.lo,.int .i64 vq.hi,.int .i64 vq.op,.slice vq.qk vq.nk vq.ck] 28 (0,0)) by rw [← h4];exact box_nw _ _)
     have f5:=hide ((uh HP0).keep f3b)
     clear HP0
     have f6:=hide ((uh HQ0).keep f3b)
     clear HQ0
     clear h4 f3b
     refine wpAnyH_ready (rs:=[3,6,11]) (by kernel_rfl) (by simp) ?_
     refine AllReadyH.cons (o:=⟨some 18,.call { callee:=.value (.func 15),args:=#[.tmp 17],argTypes:=#[26] },_,_,_,none⟩) rfl (fun K hK=>?_) ?_
     ·go_simp
      refine (cOr TP TQ vp vq _ _ (uh f3) (uh f5) (uh f6) (by decide +kernel)).mono ?_
      rintro e w7 ⟨⟨v10,rfl,b8n⟩,b8⟩
      simp only [Nv.val]
      have R9:Below U.heap.size U w7:=below_sub R2 b8
      have f11:=hide ((uh f5).keep b8)
      clear f5
      have f12:=hide ((uh f6).keep b8)
      clear f6
      have f13:=hide (((b8).block _ (heap_lt (uh f3))).trans (uh f3))
      clear f3
      have f14:=hide b8n
      clear b8 b8n
      refine hK.out _ _ (KS _ R9) (fun hHeld=>?_)
      clear hK K
      refine wpAnyH_ready (rs:=[6,11]) (by kernel_rfl) (by simp) ?_
      refine AllReadyH.cons (o:=⟨some 21,.buildSlice 26 2 #[(0,.tmp 19),(1,.tmp 20)],_,_,_,none⟩) rfl (fun K hK=>?_) ?_
      ·go_simp
       refine hK.out _ _ (KS _ ((R9).alloc (R9).size _)) (fun hHeld=>?_)
       clear hK K
       obtain ⟨V15,h18⟩:∃ V15,World.alloc w7 (.cells #[.int .i64 vq.kind,.string vq.attr,.slice vq.qi vq.ni vq.ci,.slice vq.qw vq.nw vq.cw,.int .i64 vq.lo,.int .i64 vq.hi,.int .i64 vq.op,.slice vq.qk vq.nk vq.ck,.int .i64 vp.kind,.string vp.attr,.slice vp.qi vp.ni vp.ci,.slice vp.qw vp.nw vp.cw,.int .i64 vp.lo,.int .i64 vp.hi,.int .i64 vp.op,.slice vp.qk vp.nk vp.ck] 28)=V15:=⟨_,rfl⟩
       rw [h18]
       have R16:Below U.heap.size U V15:=by rw [← h18];exact R9.alloc R9.size _
       have f17b:Below w7.heap.size w7 V15:=by rw [← h18];exact (Below.refl _ _).alloc (Nat.le_refl _) _
       have f17:=hide (nwb h18)
       have f19:=hide ((uh f11).keep f17b)
       clear f11
       have f20:=hide ((uh f12).keep f17b)
       clear f12
       have f21:=hide (((f17b).block _ (heap_lt (uh f13))).trans (uh f13))
       clear f13
       have f22:=hide ((uh f14).keep f17b)
       clear f14
       clear h18 f17b
       refine wpAnyH_ready (rs:=[7,11]) (by kernel_rfl) (by simp) ?_
       refine AllReadyH.cons (o:=⟨some 22,.call { callee:=.value (.func 14),args:=#[.tmp 21],argTypes:=#[26] },_,_,_,none⟩) rfl (fun K hK=>?_) ?_
       ·go_simp
        refine (cAnd TQ TP vq vp _ _ (uh f17) (uh f20) (uh f19) (by decide +kernel)).mono ?_
        rintro e w23 ⟨⟨v26,rfl,b24n⟩,b24⟩
        simp only [Nv.val]
        have R25:Below U.heap.size U w23:=below_sub R16 b24
        have f27:=hide ((uh f19).keep b24)
        clear f19
        have f28:=hide ((uh f20).keep b24)
        clear f20
        have f29:=hide (((b24).block _ (heap_lt (uh f21))).trans (uh f21))
        clear f21
        have f30:=hide ((uh f22).keep b24)
        clear f22
        have f31:=hide (((b24).block _ (heap_lt (uh f17))).trans (uh f17))
        clear f17
        have f32:=hide b24n
        clear b24 b24n
        refine hK.out _ _ (KS _ R25) (fun hHeld=>?_)
        clear hK K
        refine wpAnyH_ready (rs:=[8,11]) (by kernel_rfl) (by simp) ?_
        refine AllReadyH.cons (o:=⟨some 23,.call { callee:=.value (.func 16),args:=#[.tmp 22],argTypes:=#[28] },_,_,_,none⟩) rfl (fun K hK=>?_) ?_
        ·go_simp
         refine (cNot (joinT 3 [TQ,TP]) v26 _ (uh f32).toIn (by decide +kernel)).mono ?_
         rintro e w33 ⟨⟨v36,rfl,b34n⟩,b34⟩
         simp only [Nv.val]
         have R35:Below U.heap.size U w33:=below_sub R25 b34
         have f37:=hide ((uh f27).keep b34)
         clear f27
         have f38:=hide ((uh f28).keep b34)
         clear f28
         have f39:=hide (((b34).block _ (heap_lt (uh f29))).trans (uh f29))
         clear f29
         have f40:=hide ((uh f30).keep b34)
         clear f30
         have f41:=hide (((b34).block _ (heap_lt (uh f31))).trans (uh f31))
         clear f31
         have f42:=hide ((uh f32).keep b34)
         clear f32
         have f43:=hide b34n
         clear b34 b34n
         refine hK.out _ _ (KS _ R35) (fun hHeld=>?_)
         clear hK K
         refine wpAnyH_ready (rs:=[9,11]) (by kernel_rfl) (by simp) ?_
         refine AllReadyH.cons (o:=⟨some 24,.buildSlice 26 2 #[(0,.tmp 18),(1,.tmp 23)],_,_,_,none⟩) rfl (fun K hK=>?_) ?_
         ·go_simp
          refine hK.out _ _ (KS _ ((R35).alloc (R35).size _)) (fun hHeld=>?_)
          clear hK K
          obtain ⟨V44,h47⟩:∃ V44,World.alloc w33 (.cells #[.int .i64 v10.kind,.string v10.attr,.slice v10.qi v10.ni v10.ci,.slice v10.qw v10.nw v10.cw,.int .i64 v10.lo,.int .i64 v10.hi,.int .i64 v10.op,.slice v10.qk v10.nk v10.ck,.int .i64 v36.kind,.string v36.attr,.slice v36.qi v36.ni v36.ci,.slice v36.qw v36.nw v36.cw,.int .i64 v36.lo,.int .i64 v36.hi,.int .i64 v36.op,.slice v36.qk v36.nk v36.ck] 28)=V44:=⟨_,rfl⟩
          rw [h47]
          have R45:Below U.heap.size U V44:=by rw [← h47];exact R35.alloc R35.size _
          have f46b:Below w33.heap.size w33 V44:=by rw [← h47];exact (Below.refl _ _).alloc (Nat.le_refl _) _
          have f46:=hide (nwb h47)
          have f48:=hide ((uh f37).keep f46b)
          clear f37
          have f49:=hide ((uh f38).keep f46b)
          clear f38
          have f50:=hide (((f46b).block _ (heap_lt (uh f39))).trans (uh f39))
          clear f39
          have f51:=hide ((uh f40).keep f46b)
          clear f40
          have f52:=hide (((f46b).block _ (heap_lt (uh f41))).trans (uh f41))
          clear f41
          have f53:=hide ((uh f42).keep f46b)
          clear f42
          have f54:=hide ((uh f43).keep f46b)
          clear f43
          clear h47 f46b
          refine wpAnyH_ready (rs:=[10,11]) (by kernel_rfl) (by simp) ?_
          refine AllReadyH.cons (o:=⟨some 25,.call { callee:=.value (.func 14),args:=#[.tmp 24],argTypes:=#[26] },_,_,_,none⟩) rfl (fun K hK=>?_) ?_
          ·go_simp
           refine (cAnd (joinT 4 [TP,TQ]) (notT (joinT 3 [TQ,TP])) v10 v36 _ _ (uh f46) (uh f51).toIn (uh f54).toIn (by decide +kernel)).mono ?_
           rintro e w55 ⟨⟨v58,rfl,b56n⟩,b56⟩
           simp only [Nv.val]
           have R57:Below U.heap.size U w55:=below_sub R45 b56
           have f59:=hide ((uh f48).keep b56)
           clear f48
           have f60:=hide ((uh f49).keep b56)
           clear f49
           have f61:=hide (((b56).block _ (heap_lt (uh f50))).trans (uh f50))
           clear f50
           have f62:=hide ((uh f51).keep b56)
           clear f51
           have f63:=hide (((b56).block _ (heap_lt (uh f52))).trans (uh f52))
           clear f52
           have f64:=hide ((uh f53).keep b56)
           clear f53
           have f65:=hide ((uh f54).keep b56)
           clear f54
           have f66:=hide (((b56).block _ (heap_lt (uh f46))).trans (uh f46))
           clear f46
           have f67:=hide b56n
           clear b56 b56n
           refine hK.out _ _ (KS _ R57) (fun hHeld=>?_)
           clear hK K
           refine wpAnyH_ready (rs:=[11]) (by kernel_rfl) (by simp) ?_
           refine AllReadyH.cons (o:=⟨some 3,.alloc 28,_,_,_,none⟩) rfl (fun K hK=>?_) ?_
           ·go_simp
            refine hK.out _ _ (KS _ ((R57).alloc (R57).size _)) (fun hHeld=>?_)
            clear hK K
            obtain ⟨V68,h71⟩:∃ V68,World.alloc w55 (.cells #[.int .i64 0,.string ⟨#[]⟩,.slice none 0 0,.slice none 0 0,.int .i64 0,.int .i64 0,.int .i64 0,.slice none 0 0] 28)=V68:=⟨_,rfl⟩
            rw [h71]
            have R69:Below U.heap.size U V68:=by rw [← h71];exact R57.alloc R57.size _
            have f70b:Below w55.heap.size w55 V68:=by rw [← h71];exact (Below.refl _ _).alloc (Nat.le_refl _) _
            have f70:=hide (nwb h71)
            have zm:=f67
            have zb:=hide f70b
            have f72:=hide ((uh f59).keep f70b)
            clear f59
            have f73:=hide ((uh f60).keep f70b)
            clear f60
            have f74:=hide (((f70b).block _ (heap_lt (uh f61))).trans (uh f61))
            clear f61
            have f75:=hide ((uh f62).keep f70b)
            clear f62
            have f76:=hide (((f70b).block _ (heap_lt (uh f63))).trans (uh f63))
            clear f63
            have f77:=hide ((uh f64).keep f70b)
            clear f64
            have f78:=hide ((uh f65).keep f70b)
            clear f65
            have f79:=hide (((f70b).block _ (heap_lt (uh f66))).trans (uh f66))
            clear f66
            have f80:=hide ((uh f67).keep f70b)
            clear h71 f70b
            refine wpAnyH_ready (rs:=[12]) (by kernel_rfl) (by simp) ?_
            refine AllReadyH.cons (o:=⟨none,.store 28 (.tmp 3) (.tmp 25),_,_,_,none⟩) rfl (fun K hK=>?_) ?_
            ·have z81g:U.heap.size≤w55.heap.size:=(R57).size
             obtain ⟨z81_0,z81_1,z81_2,z81_3,z81_4,z81_5,z81_6,z81_7⟩:=of8' (uh f70)
             have z81f:∀ o,World.frozen? V68 ⟨w55.heap.size,o,none⟩=false:=fun o=>frozen_free (uh f70)
             have z81l:=heap_lt (uh f70)
             go_simp
             refine hK.out _ _ (KS _ (set8_below (g:=w55.heap.size) R69 z81g (.int .i64 v58.kind) (.string v58.attr) (.slice v58.qi v58.ni v58.ci) (.slice v58.qw v58.nw v58.cw) (.int .i64 v58.lo) (.int .i64 v58.hi) (.int .i64 v58.op) (.slice v58.qk v58.nk v58.ck))) (fun hHeld=>?_)
             clear hK K
             refine wpAnyH_done (by kernel_rfl) ?_ _
             go_wp2
             go_meet
             case rel =>
               have q82g:U.heap.size≤w55.heap.size:=(R57).size
               have q82b:=set8_below (g:=w55.heap.size) R69 q82g (.int .i64 v58.kind) (.string v58.attr) (.slice v58.qi v58.ni v58.ci) (.slice v58.qw v58.nw v58.cw) (.int .i64 v58.lo) (.int .i64 v58.hi) (.int .i64 v58.op) (.slice v58.qk v58.nk v58.ck)
               refine ⟨w55.heap.size,v58,rfl,set8_blk (uh f70),q82b, ?_⟩
               exact ((uh zm).toIn).keep (set8_below (g:=w55.heap.size) (uh zb) (Nat.le_refl _) (.int .i64 v58.kind) (.string v58.attr) (.slice v58.qi v58.ni v58.ci) (.slice v58.qw v58.nw v58.cw) (.int .i64 v58.lo) (.int .i64 v58.hi) (.int .i64 v58.op) (.slice v58.qk v58.nk v58.ck))
            exact AllReadyH.nil
           exact AllReadyH.nil
          refine AllReadyH.cons (o:=⟨some 3,.alloc 28,_,_,_,none⟩) rfl (fun K hK=>?_) ?_
          ·go_simp
           refine hK.out _ _ (KS _ ((R45).alloc (R45).size _)) (fun hHeld=>?_)
           clear hK K
           obtain ⟨V83,h86⟩:∃ V83,World.alloc V44 (.cells #[.int .i64 0,.string ⟨#[]⟩,.slice none 0 0,.slice none 0 0,.int .i64 0,.int .i64 0,.int .i64 0,.slice none 0 0] 28)=V83:=⟨_,rfl⟩
           rw [h86]
           have R84:Below U.heap.size U V83:=by rw [← h86];exact R45.alloc R45.size _
           have f85b:Below V44.heap.size V44 V83:=by rw [← h86];exact (Below.refl _ _).alloc (Nat.le_refl _) _
           have f85:=hide (nwb h86)
           have f87:=hide ((uh f48).keep f85b)
           clear f48
           have f88:=hide ((uh f49).keep f85b)
           clear f49
           have f89:=hide (((f85b).block _ (heap_lt (uh f50))).trans (uh f50))
           clear f50
           have f90:=hide ((uh f51).keep f85b)
           clear f51
           have f91:=hide (((f85b).block _ (heap_lt (uh f52))).trans (uh f52))
           clear f52
           have f92:=hide ((uh f53).keep f85b)
           clear f53
           have f93:=hide ((uh f54).keep f85b)
           clear f54
           have f94:=hide (((f85b).block _ (heap_lt (uh f46))).trans (uh f46))
           clear f46
           clear h86 f85b
           refine wpAnyH_ready (rs:=[10]) (by kernel_rfl) (by simp) ?_
           refine AllReadyH.cons (o:=⟨some 25,.call { callee:=.value (.func 14),args:=#[.tmp 24],argTypes:=#[26] },_,_,_,none⟩) rfl (fun K hK=>?_) ?_
           ·go_simp
            refine (cAnd (joinT 4 [TP,TQ]) (notT (joinT 3 [TQ,TP])) v10 v36 _ _ (uh f94) (uh f90).toIn (uh f93).toIn (by decide +kernel)).mono ?_
            rintro e w95 ⟨⟨v98,rfl,b96n⟩,b96⟩
            simp only [Nv.val]
            have R97:Below U.heap.size U w95:=below_sub R84 b96
            have b96z:=heap_lt (uh f85)
            have f99:=hide ((uh f87).keep b96)
            clear f87
            have f100:=hide ((uh f88).keep b96)
            clear f88
            have f101:=hide (((b96).block _ (heap_lt (uh f89))).trans (uh f89))
            clear f89
            have f102:=hide ((uh f90).keep b96)
            clear f90
            have f103:=hide (((b96).block _ (heap_lt (uh f91))).trans (uh f91))
            clear f91
            have f104:=hide ((uh f92).keep b96)
            clear f92
            have f105:=hide ((uh f93).keep b96)
            clear f93
            have f106:=hide (((b96).block _ (heap_lt (uh f94))).trans (uh f94))
            clear f94
            have f107:=hide (((b96).block _ (heap_lt (uh f85))).trans (uh f85))
            clear f85
            have f108:=hide b96n
            clear b96 b96n
            refine hK.out _ _ (KS _ R97) (fun hHeld=>?_)
            clear hK K
            refine wpAnyH_ready (rs:=[12]) (by kernel_rfl) (by simp) ?_
            refine AllReadyH.cons (o:=⟨none,.store 28 (.tmp 3) (.tmp 25),_,_,_,none⟩) rfl (fun K hK=>?_) ?_
            ·have z109g:U.heap.size≤V44.heap.size:=(R45).size
             obtain ⟨z109_0,z109_1,z109_2,z109_3,z109_4,z109_5,z109_6,z109_7⟩:=of8' (uh f107)
             have z109f:∀ o,World.frozen? w95 ⟨V44.heap.size,o,none⟩=false:=fun o=>frozen_free (uh f107)
             have z109l:=heap_lt (uh f107)
             go_simp
             refine hK.out _ _ (KS _ (set8_below (g:=V44.heap.size) R97 z109g (.int .i64 v98.kind) (.string v98.attr) (.slice v98.qi v98.ni v98.ci) (.slice v98.qw v98.nw v98.cw) (.int .i64 v98.lo) (.int .i64 v98.hi) (.int .i64 v98.op) (.slice v98.qk v98.nk v98.ck))) (fun hHeld=>?_)
             clear hK K
             refine wpAnyH_done (by kernel_rfl) ?_ _
             go_wp2
             go_meet
             case rel =>
               have q110g:U.heap.size≤V44.heap.size:=(R45).size
               have q110b:=set8_below (g:=V44.heap.size) R97 q110g (.int .i64 v98.kind) (.string v98.attr) (.slice v98.qi v98.ni v98.ci) (.slice v98.qw v98.nw v98.cw) (.int .i64 v98.lo) (.int .i64 v98.hi) (.int .i64 v98.op) (.slice v98.qk v98.nk v98.ck)
               refine ⟨V44.heap.size,v98,rfl,set8_blk (uh f107),q110b, ?_⟩
               exact ((uh f108).up (set8_up (g:=V44.heap.size) _ b96z (.int .i64 v98.kind) (.string v98.attr) (.slice v98.qi v98.ni v98.ci) (.slice v98.qw v98.nw v98.cw) (.int .i64 v98.lo) (.int .i64 v98.hi) (.int .i64 v98.op) (.slice v98.qk v98.nk v98.ck))).toIn
            exact AllReadyH.nil
           exact AllReadyH.nil
          exact AllReadyH.nil
         refine AllReadyH.cons (o:=⟨some 3,.alloc 28,_,_,_,none⟩) rfl (fun K hK=>?_) ?_
         ·go_simp
          refine hK.out _ _ (KS _ ((R35).alloc (R35).size _)) (fun hHeld=>?_)
          clear hK K
          obtain ⟨V111,h114⟩:∃ V111,World.alloc w33 (.cells #[.int .i64 0,.string ⟨#[]⟩,.slice none 0 0,.slice none 0 0,.int .i64 0,.int .i64 0,.int .i64 0,.slice none 0 0] 28)=V111:=⟨_,rfl⟩
          rw [h114]
          have R112:Below U.heap.size U V111:=by rw [← h114];exact R35.alloc R35.size _
          have f113b:Below w33.heap.size w33 V111:=by rw [← h114];exact (Below.refl _ _).alloc (Nat.le_refl _) _
          have f113:=hide (nwb h114)
          have f115:=hide ((uh f37).keep f113b)
          clear f37
          have f116:=hide ((uh f38).keep f113b)
          clear f38
          have f117:=hide (((f113b).block _ (heap_lt (uh f39))).trans (uh f39))
          clear f39
          have f118:=hide ((uh f40).keep f113b)
          clear f40
          have f119:=hide (((f113b).block _ (heap_lt (uh f41))).trans (uh f41))
          clear f41
          have f120:=hide ((uh f42).keep f113b)
          clear f42
          have f121:=hide ((uh f43).keep f113b)
          clear f43
          clear h114 f113b
          refine wpAnyH_ready (rs:=[9]) (by kernel_rfl) (by simp) ?_
          refine AllReadyH.cons (o:=⟨some 24,.buildSlice 26 2 #[(0,.tmp 18),(1,.tmp 23)],_,_,_,none⟩) rfl (fun K hK=>?_) ?_
          ·go_simp
           refine hK.out _ _ (KS _ ((R112).alloc (R112).size _)) (fun hHeld=>?_)
           clear hK K
           obtain ⟨V122,h125⟩:∃ V122,World.alloc V111 (.cells #[.int .i64 v10.kind,.string v10.attr,.slice v10.qi v10.ni v10.ci,.slice v10.qw v10.nw v10.cw,.int .i64 v10.lo,.int .i64 v10.hi,.int .i64 v10.op,.slice v10.qk v10.nk v10.ck,.int .i64 v36.kind,.string v36.attr,.slice v36.qi v36.ni v36.ci,.slice v36.qw v36.nw v36.cw,.int .i64 v36.lo,.int .i64 v36.hi,.int .i64 v36.op,.slice v36.qk v36.nk v36.ck] 28)=V122:=⟨_,rfl⟩
           rw [h125]
           have R123:Below U.heap.size U V122:=by rw [← h125];exact R112.alloc R112.size _
           have f124b:Below V111.heap.size V111 V122:=by rw [← h125];exact (Below.refl _ _).alloc (Nat.le_refl _) _
           have f124:=hide (nwb h125)
           have f126:=hide ((uh f115).keep f124b)
           clear f115
           have f127:=hide ((uh f116).keep f124b)
           clear f116
           have f128:=hide (((f124b).block _ (heap_lt (uh f117))).trans (uh f117))
           clear f117
           have f129:=hide ((uh f118).keep f124b)
           clear f118
           have f130:=hide (((f124b).block _ (heap_lt (uh f119))).trans (uh f119))
           clear f119
           have f131:=hide ((uh f120).keep f124b)
           clear f120
           have f132:=hide ((uh f121).keep f124b)
           clear f121
           have f133:=hide (((f124b).block _ (heap_lt (uh f113))).trans (uh f113))
           clear f113
           clear h125 f124b
           refine wpAnyH_ready (rs:=[10]) (by kernel_rfl) (by simp) ?_
           refine AllReadyH.cons (o:=⟨some 25,.call { callee:=.value (.func 14),args:=#[.tmp 24],argTypes:=#[26] },_,_,_,none⟩) rfl (fun K hK=>?_) ?_
           ·go_simp
            refine (cAnd (joinT 4 [TP,TQ]) (notT (joinT 3 [TQ,TP])) v10 v36 _ _ (uh f124) (uh f129).toIn (uh f132).toIn (by decide +kernel)).mono ?_
            rintro e w134 ⟨⟨v137,rfl,b135n⟩,b135⟩
            simp only [Nv.val]
            have R136:Below U.heap.size U w134:=below_sub R123 b135
            have b135z:=heap_lt (uh f133)
            have f138:=hide ((uh f126).keep b135)
            clear f126
            have f139:=hide ((uh f127).keep b135)
            clear f127
            have f140:=hide (((b135).block _ (heap_lt (uh f128))).trans (uh f128))
            clear f128
            have f141:=hide ((uh f129).keep b135)
            clear f129
            have f142:=hide (((b135).block _ (heap_lt (uh f130))).trans (uh f130))
            clear f130
            have f143:=hide ((uh f131).keep b135)
            clear f131
            have f144:=hide ((uh f132).keep b135)
            clear f132
            have f145:=hide (((b135).block _ (heap_lt (uh f133))).trans (uh f133))
            clear f133
            have f146:=hide (((b135).block _ (heap_lt (uh f124))).trans (uh f124))
            clear f124
            have f147:=hide b135n
            clear b135 b135n
            refine hK.out _ _ (KS _ R136) (fun hHeld=>?_)
            clear hK K
            refine wpAnyH_ready (rs:=[12]) (by kernel_rfl) (by simp) ?_
            refine AllReadyH.cons (o:=⟨none,.store 28 (.tmp 3) (.tmp 25),_,_,_,none⟩) rfl (fun K hK=>?_) ?_
            ·have z148g:U.heap.size≤w33.heap.size:=(R35).size
             obtain ⟨z148_0,z148_1,z148_2,z148_3,z148_4,z148_5,z148_6,z148_7⟩:=of8' (uh f145)
             have z148f:∀ o,World.frozen? w134 ⟨w33.heap.size,o,none⟩=false:=fun o=>frozen_free (uh f145)
             have z148l:=heap_lt (uh f145)
             go_simp
             refine hK.out _ _ (KS _ (set8_below (g:=w33.heap.size) R136 z148g (.int .i64 v137.kind) (.string v137.attr) (.slice v137.qi v137.ni v137.ci) (.slice v137.qw v137.nw v137.cw) (.int .i64 v137.lo) (.int .i64 v137.hi) (.int .i64 v137.op) (.slice v137.qk v137.nk v137.ck))) (fun hHeld=>?_)
             clear hK K
             refine wpAnyH_done (by kernel_rfl) ?_ _
             go_wp2
             go_meet
             case rel =>
               have q149g:U.heap.size≤w33.heap.size:=(R35).size
               have q149b:=set8_below (g:=w33.heap.size) R136 q149g (.int .i64 v137.kind) (.string v137.attr) (.slice v137.qi v137.ni v137.ci) (.slice v137.qw v137.nw v137.cw) (.int .i64 v137.lo) (.int .i64 v137.hi) (.int .i64 v137.op) (.slice v137.qk v137.nk v137.ck)
               refine ⟨w33.heap.size,v137,rfl,set8_blk (uh f145),q149b, ?_⟩
               exact ((uh f147).up (set8_up (g:=w33.heap.size) _ b135z (.int .i64 v137.kind) (.string v137.attr) (.slice v137.qi v137.ni v137.ci) (.slice v137.qw v137.nw v137.cw) (.int .i64 v137.lo) (.int .i64 v137.hi) (.int .i64 v137.op) (.slice v137.qk v137.nk v137.ck))).toIn
            exact AllReadyH.nil
           exact AllReadyH.nil
          exact AllReadyH.nil
         exact AllReadyH.nil
        refine AllReadyH.cons (o:=⟨some 3,.alloc 28,_,_,_,none⟩) rfl (fun K hK=>?_) ?_
        ·go_simp
         refine hK.out _ _ (KS _ ((R25).alloc (R25).size _)) (fun hHeld=>?_)
         clear hK K
         obtain ⟨V150,h153⟩:∃ V150,World.alloc w23 (.cells #[.int .i64 0,.string ⟨#[]⟩,.slice none 0 0,.slice none 0 0,.int .i64 0,.int .i64 0,.int .i64 0,.slice none 0 0] 28)=V150:=⟨_,rfl⟩
         rw [h153]
         have R151:Below U.heap.size U V150:=by rw [← h153];exact R25.alloc R25.size _
         have f152b:Below w23.heap.size w23 V150:=by rw [← h153];exact (Below.refl _ _).alloc (Nat.le_refl _) _
         have f152:=hide (nwb h153)
         have f154:=hide ((uh f27).keep f152b)
         clear f27
         have f155:=hide ((uh f28).keep f152b)
         clear f28
         have f156:=hide (((f152b).block _ (heap_lt (uh f29))).trans (uh f29))
         clear f29
         have f157:=hide ((uh f30).keep f152b)
         clear f30
         have f158:=hide (((f152b).block _ (heap_lt (uh f31))).trans (uh f31))
         clear f31
         have f159:=hide ((uh f32).keep f152b)
         clear f32
         clear h153 f152b
         refine wpAnyH_ready (rs:=[8]) (by kernel_rfl) (by simp) ?_
         refine AllReadyH.cons (o:=⟨some 23,.call { callee:=.value (.func 16),args:=#[.tmp 22],argTypes:=#[28] },_,_,_,none⟩) rfl (fun K hK=>?_) ?_
         ·go_simp
          refine (cNot (joinT 3 [TQ,TP]) v26 _ (uh f159).toIn (by decide +kernel)).mono ?_
          rintro e w160 ⟨⟨v163,rfl,b161n⟩,b161⟩
          simp only [Nv.val]
          have R162:Below U.heap.size U w160:=below_sub R151 b161
          have b161z:=heap_lt (uh f152)
          have f164:=hide ((uh f154).keep b161)
          clear f154
          have f165:=hide ((uh f155).keep b161)
          clear f155
          have f166:=hide (((b161).block _ (heap_lt (uh f156))).trans (uh f156))
          clear f156
          have f167:=hide ((uh f157).keep b161)
          clear f157
          have f168:=hide (((b161).block _ (heap_lt (uh f158))).trans (uh f158))
          clear f158
          have f169:=hide ((uh f159).keep b161)
          clear f159
          have f170:=hide (((b161).block _ (heap_lt (uh f152))).trans (uh f152))
          clear f152
          have f171:=hide b161n
          clear b161 b161n
          refine hK.out _ _ (KS _ R162) (fun hHeld=>?_)
          clear hK K
          refine wpAnyH_ready (rs:=[9]) (by kernel_rfl) (by simp) ?_
          refine AllReadyH.cons (o:=⟨some 24,.buildSlice 26 2 #[(0,.tmp 18),(1,.tmp 23)],_,_,_,none⟩) rfl (fun K hK=>?_) ?_
          ·go_simp
           refine hK.out _ _ (KS _ ((R162).alloc (R162).size _)) (fun hHeld=>?_)
           clear hK K
           obtain ⟨V172,h175⟩:∃ V172,World.alloc w160 (.cells #[.int .i64 v10.kind,.string v10.attr,.slice v10.qi v10.ni v10.ci,.slice v10.qw v10.nw v10.cw,.int .i64 v10.lo,.int .i64 v10.hi,.int .i64 v10.op,.slice v10.qk v10.nk v10.ck,.int .i64 v163.kind,.string v163.attr,.slice v163.qi v163.ni v163.ci,.slice v163.qw v163.nw v163.cw,.int .i64 v163.lo,.int .i64 v163.hi,.int .i64 v163.op,.slice v163.qk v163.nk v163.ck] 28)=V172:=⟨_,rfl⟩
           rw [h175]
           have R173:Below U.heap.size U V172:=by rw [← h175];exact R162.alloc R162.size _
           have f174b:Below w160.heap.size w160 V172:=by rw [← h175];exact (Below.refl _ _).alloc (Nat.le_refl _) _
           have f174:=hide (nwb h175)
           have f176:=hide ((uh f164).keep f174b)
           clear f164
           have f177:=hide ((uh f165).keep f174b)
           clear f165
           have f178:=hide (((f174b).block _ (heap_lt (uh f166))).trans (uh f166))
           clear f166
           have f179:=hide ((uh f167).keep f174b)
           clear f167
           have f180:=hide (((f174b).block _ (heap_lt (uh f168))).trans (uh f168))
           clear f168
           have f181:=hide ((uh f169).keep f174b)
           clear f169
           have f182:=hide (((f174b).block _ (heap_lt (uh f170))).trans (uh f170))
           clear f170
           have f183:=hide ((uh f171).keep f174b)
           clear f171
           clear h175 f174b
           refine wpAnyH_ready (rs:=[10]) (by kernel_rfl) (by simp) ?_
           refine AllReadyH.cons (o:=⟨some 25,.call { callee:=.value (.func 14),args:=#[.tmp 24],argTypes:=#[26] },_,_,_,none⟩) rfl (fun K hK=>?_) ?_
           ·go_simp
            refine (cAnd (joinT 4 [TP,TQ]) (notT (joinT 3 [TQ,TP])) v10 v163 _ _ (uh f174) (uh f179).toIn (uh f183).toIn (by decide +kernel)).mono ?_
            rintro e w184 ⟨⟨v187,rfl,b185n⟩,b185⟩
            simp only [Nv.val]
            have R186:Below U.heap.size U w184:=below_sub R173 b185
            have b185z:=heap_lt (uh f182)
            have f188:=hide ((uh f176).keep b185)
            clear f176
            have f189:=hide ((uh f177).keep b185)
            clear f177
            have f190:=hide (((b185).block _ (heap_lt (uh f178))).trans (uh f178))
            clear f178
            have f191:=hide ((uh f179).keep b185)
            clear f179
            have f192:=hide (((b185).block _ (heap_lt (uh f180))).trans (uh f180))
            clear f180
            have f193:=hide ((uh f181).keep b185)
            clear f181
            have f194:=hide (((b185).block _ (heap_lt (uh f182))).trans (uh f182))
            clear f182
            have f195:=hide ((uh f183).keep b185)
            clear f183
            have f196:=hide (((b185).block _ (heap_lt (uh f174))).trans (uh f174))
            clear f174
            have f197:=hide b185n
            clear b185 b185n
            refine hK.out _ _ (KS _ R186) (fun hHeld=>?_)
            clear hK K
            refine wpAnyH_ready (rs:=[12]) (by kernel_rfl) (by simp) ?_
            refine AllReadyH.cons (o:=⟨none,.store 28 (.tmp 3) (.tmp 25),_,_,_,none⟩) rfl (fun K hK=>?_) ?_
            ·have z198g:U.heap.size≤w23.heap.size:=(R25).size
             obtain ⟨z198_0,z198_1,z198_2,z198_3,z198_4,z198_5,z198_6,z198_7⟩:=of8' (uh f194)
             have z198f:∀ o,World.frozen? w184 ⟨w23.heap.size,o,none⟩=false:=fun o=>frozen_free (uh f194)
             have z198l:=heap_lt (uh f194)
             go_simp
             refine hK.out _ _ (KS _ (set8_below (g:=w23.heap.size) R186 z198g (.int .i64 v187.kind) (.string v187.attr) (.slice v187.qi v187.ni v187.ci) (.slice v187.qw v187.nw v187.cw) (.int .i64 v187.lo) (.int .i64 v187.hi) (.int .i64 v187.op) (.slice v187.qk v187.nk v187.ck))) (fun hHeld=>?_)
             clear hK K
             refine wpAnyH_done (by kernel_rfl) ?_ _
             go_wp2
             go_meet
             case rel =>
               have q199g:U.heap.size≤w23.heap.size:=(R25).size
               have q199b:=set8_below (g:=w23.heap.size) R186 q199g (.int .i64 v187.kind) (.string v187.attr) (.slice v187.qi v187.ni v187.ci) (.slice v187.qw v187.nw v187.cw) (.int .i64 v187.lo) (.int .i64 v187.hi) (.int .i64 v187.op) (.slice v187.qk v187.nk v187.ck)
               refine ⟨w23.heap.size,v187,rfl,set8_blk (uh f194),q199b, ?_⟩
               exact ((uh f197).up (set8_up (g:=w23.heap.size) _ b185z (.int .i64 v187.kind) (.string v187.attr) (.slice v187.qi v187.ni v187.ci) (.slice v187.qw v187.nw v187.cw) (.int .i64 v187.lo) (.int .i64 v187.hi) (.int .i64 v187.op) (.slice v187.qk v187.nk v187.ck))).toIn
            exact AllReadyH.nil
           exact AllReadyH.nil
          exact AllReadyH.nil
         exact AllReadyH.nil
        exact AllReadyH.nil
       refine AllReadyH.cons (o:=⟨some 3,.alloc 28,_,_,_,none⟩) rfl (fun K hK=>?_) ?_
       ·go_simp
        refine hK.out _ _ (KS _ ((R16).alloc (R16).size _)) (fun hHeld=>?_)
        clear hK K
        obtain ⟨V200,h203⟩:∃ V200,World.alloc V15 (.cells #[.int .i64 0,.string ⟨#[]⟩,.slice none 0 0,.slice none 0 0,.int .i64 0,.int .i64 0,.int .i64 0,.slice none 0 0] 28)=V200:=⟨_,rfl⟩
        rw [h203]
        have R201:Below U.heap.size U V200:=by rw [← h203];exact R16.alloc R16.size _
        have f202b:Below V15.heap.size V15 V200:=by rw [← h203];exact (Below.refl _ _).alloc (Nat.le_refl _) _
        have f202:=hide (nwb h203)
        have f204:=hide ((uh f19).keep f202b)
        clear f19
        have f205:=hide ((uh f20).keep f202b)
        clear f20
        have f206:=hide (((f202b).block _ (heap_lt (uh f21))).trans (uh f21))
        clear f21
        have f207:=hide ((uh f22).keep f202b)
        clear f22
        have f208:=hide (((f202b).block _ (heap_lt (uh f17))).trans (uh f17))
        clear f17
        clear h203 f202b
        refine wpAnyH_ready (rs:=[7]) (by kernel_rfl) (by simp) ?_
        refine AllReadyH.cons (o:=⟨some 22,.call { callee:=.value (.func 14),args:=#[.tmp 21],argTypes:=#[26] },_,_,_,none⟩) rfl (fun K hK=>?_) ?_
        ·go_simp
         refine (cAnd TQ TP vq vp _ _ (uh f208) (uh f205) (uh f204) (by decide +kernel)).mono ?_
         rintro e w209 ⟨⟨v212,rfl,b210n⟩,b210⟩
         simp only [Nv.val]
         have R211:Below U.heap.size U w209:=below_sub R201 b210
         have b210z:=heap_lt (uh f202)
         have f213:=hide ((uh f204).keep b210)
         clear f204
         have f214:=hide ((uh f205).keep b210)
         clear f205
         have f215:=hide (((b210).block _ (heap_lt (uh f206))).trans (uh f206))
         clear f206
         have f216:=hide ((uh f207).keep b210)
         clear f207
         have f217:=hide (((b210).block _ (heap_lt (uh f208))).trans (uh f208))
         clear f208
         have f218:=hide (((b210).block _ (heap_lt (uh f202))).trans (uh f202))
         clear f202
         have f219:=hide b210n
         clear b210 b210n
         refine hK.out _ _ (KS _ R211) (fun hHeld=>?_)
         clear hK K
         refine wpAnyH_ready (rs:=[8]) (by kernel_rfl) (by simp) ?_
         refine AllReadyH.cons (o:=⟨some 23,.call { callee:=.value (.func 16),args:=#[.tmp 22],argTypes:=#[28] },_,_,_,none⟩) rfl (fun K hK=>?_) ?_
         ·go_simp
          refine (cNot (joinT 3 [TQ,TP]) v212 _ (uh f219).toIn (by decide +kernel)).mono ?_
          rintro e w220 ⟨⟨v223,rfl,b221n⟩,b221⟩
          simp only [Nv.val]
          have R222:Below U.heap.size U w220:=below_sub R211 b221
          have b221z:=heap_lt (uh f218)
          have f224:=hide ((uh f213).keep b221)
          clear f213
          have f225:=hide ((uh f214).keep b221)
          clear f214
          have f226:=hide (((b221).block _ (heap_lt (uh f215))).trans (uh f215))
          clear f215
          have f227:=hide ((uh f216).keep b221)
          clear f216
          have f228:=hide (((b221).block _ (heap_lt (uh f217))).trans (uh f217))
          clear f217
          have f229:=hide (((b221).block _ (heap_lt (uh f218))).trans (uh f218))
          clear f218
          have f230:=hide ((uh f219).keep b221)
          clear f219
          have f231:=hide b221n
          clear b221 b221n
          refine hK.out _ _ (KS _ R222) (fun hHeld=>?_)
          clear hK K
          refine wpAnyH_ready (rs:=[9]) (by kernel_rfl) (by simp) ?_
          refine AllReadyH.cons (o:=⟨some 24,.buildSlice 26 2 #[(0,.tmp 18),(1,.tmp 23)],_,_,_,none⟩) rfl (fun K hK=>?_) ?_
          ·go_simp
           refine hK.out _ _ (KS _ ((R222).alloc (R222).size _)) (fun hHeld=>?_)
           clear hK K
           obtain ⟨V232,h235⟩:∃ V232,World.alloc w220 (.cells #[.int .i64 v10.kind,.string v10.attr,.slice v10.qi v10.ni v10.ci,.slice v10.qw v10.nw v10.cw,.int .i64 v10.lo,.int .i64 v10.hi,.int .i64 v10.op,.slice v10.qk v10.nk v10.ck,.int .i64 v223.kind,.string v223.attr,.slice v223.qi v223.ni v223.ci,.slice v223.qw v223.nw v223.cw,.int .i64 v223.lo,.int .i64 v223.hi,.int .i64 v223.op,.slice v223.qk v223.nk v223.ck] 28)=V232:=⟨_,rfl⟩
           rw [h235]
           have R233:Below U.heap.size U V232:=by rw [← h235];exact R222.alloc R222.size _
           have f234b:Below w220.heap.size w220 V232:=by rw [← h235];exact (Below.refl _ _).alloc (Nat.le_refl _) _
           have f234:=hide (nwb h235)
           have f236:=hide ((uh f224).keep f234b)
           clear f224
           have f237:=hide ((uh f225).keep f234b)
           clear f225
           have f238:=hide (((f234b).block _ (heap_lt (uh f226))).trans (uh f226))
           clear f226
           have f239:=hide ((uh f227).keep f234b)
           clear f227
           have f240:=hide (((f234b).block _ (heap_lt (uh f228))).trans (uh f228))
           clear f228
           have f241:=hide (((f234b).block _ (heap_lt (uh f229))).trans (uh f229))
           clear f229
           have f242:=hide ((uh f230).keep f234b)
           clear f230
           have f243:=hide ((uh f231).keep f234b)
           clear f231
           clear h235 f234b
           refine wpAnyH_ready (rs:=[10]) (by kernel_rfl) (by simp) ?_
           refine AllReadyH.cons (o:=⟨some 25,.call { callee:=.value (.func 14),args:=#[.tmp 24],argTypes:=#[26] },_,_,_,none⟩) rfl (fun K hK=>?_) ?_
           ·go_simp
            refine (cAnd (joinT 4 [TP,TQ]) (notT (joinT 3 [TQ,TP])) v10 v223 _ _ (uh f234) (uh f239).toIn (uh f243).toIn (by decide +kernel)).mono ?_
            rintro e w244 ⟨⟨v247,rfl,b245n⟩,b245⟩
            simp only [Nv.val]
            have R246:Below U.heap.size U w244:=below_sub R233 b245
            have b245z:=heap_lt (uh f241)
            have f248:=hide ((uh f236).keep b245)
            clear f236
            have f249:=hide ((uh f237).keep b245)
            clear f237
            have f250:=hide (((b245).block _ (heap_lt (uh f238))).trans (uh f238))
            clear f238
            have f251:=hide ((uh f239).keep b245)
            clear f239
            have f252:=hide (((b245).block _ (heap_lt (uh f240))).trans (uh f240))
            clear f240
            have f253:=hide (((b245).block _ (heap_lt (uh f241))).trans (uh f241))
            clear f241
            have f254:=hide ((uh f242).keep b245)
            clear f242
            have f255:=hide ((uh f243).keep b245)
            clear f243
            have f256:=hide (((b245).block _ (heap_lt (uh f234))).trans (uh f234))
            clear f234
            have f257:=hide b245n
            clear b245 b245n
            refine hK.out _ _ (KS _ R246) (fun hHeld=>?_)
            clear hK K
            refine wpAnyH_ready (rs:=[12]) (by kernel_rfl) (by simp) ?_
            refine AllReadyH.cons (o:=⟨none,.store 28 (.tmp 3) (.tmp 25),_,_,_,none⟩) rfl (fun K hK=>?_) ?_
            ·have z258g:U.heap.size≤V15.heap.size:=(R16).size
             obtain ⟨z258_0,z258_1,z258_2,z258_3,z258_4,z258_5,z258_6,z258_7⟩:=of8' (uh f253)
             have z258f:∀ o,World.frozen? w244 ⟨V15.heap.size,o,none⟩=false:=fun o=>frozen_free (uh f253)
             have z258l:=heap_lt (uh f253)
             go_simp
             refine hK.out _ _ (KS _ (set8_below (g:=V15.heap.size) R246 z258g (.int .i64 v247.kind) (.string v247.attr) (.slice v247.qi v247.ni v247.ci) (.slice v247.qw v247.nw v247.cw) (.int .i64 v247.lo) (.int .i64 v247.hi) (.int .i64 v247.op) (.slice v247.qk v247.nk v247.ck))) (fun hHeld=>?_)
             clear hK K
             refine wpAnyH_done (by kernel_rfl) ?_ _
             go_wp2
             go_meet
             case rel =>
               have q259g:U.heap.size≤V15.heap.size:=(R16).size
               have q259b:=set8_below (g:=V15.heap.size) R246 q259g (.int .i64 v247.kind) (.string v247.attr) (.slice v247.qi v247.ni v247.ci) (.slice v247.qw v247.nw v247.cw) (.int .i64 v247.lo) (.int .i64 v247.hi) (.int .i64 v247.op) (.slice v247.qk v247.nk v247.ck)
               refine ⟨V15.heap.size,v247,rfl,set8_blk (uh f253),q259b, ?_⟩
               exact ((uh f257).up (set8_up (g:=V15.heap.size) _ b245z (.int .i64 v247.kind) (.string v247.attr) (.slice v247.qi v247.ni v247.ci) (.slice v247.qw v247.nw v247.cw) (.int .i64 v247.lo) (.int .i64 v247.hi) (.int .i64 v247.op) (.slice v247.qk v247.nk v247.ck))).toIn
            exact AllReadyH.nil
           exact AllReadyH.nil
          exact AllReadyH.nil
         exact AllReadyH.nil
        exact AllReadyH.nil
       exact AllReadyH.nil
      refine AllReadyH.cons (o:=⟨some 3,.alloc 28,_,_,_,none⟩) rfl (fun K hK=>?_) ?_
      ·go_simp
       refine hK.out _ _ (KS _ ((R9).alloc (R9).size _)) (fun hHeld=>?_)
       clear hK K
       obtain ⟨V260,h263⟩:∃ V260,World.alloc w7 (.cells #[.int .i64 0,.string ⟨#[]⟩,.slice none 0 0,.slice none 0 0,.int .i64 0,.int .i64 0,.int .i64 0,.slice none 0 0] 28)=V260:=⟨_,rfl⟩
       rw [h263]
       have R261:Below U.heap.size U V260:=by rw [← h263];exact R9.alloc R9.size _
       have f262b:Below w7.heap.size w7 V260:=by rw [← h263];exact (Below.refl _ _).alloc (Nat.le_refl _) _
       have f262:=hide (nwb h263)
       have f264:=hide ((uh f11).keep f262b)
       clear f11
       have f265:=hide ((uh f12).keep f262b)
       clear f12
       have f266:=hide (((f262b).block _ (heap_lt (uh f13))).trans (uh f13))
       clear f13
       have f267:=hide ((uh f14).keep f262b)
       clear f14
       clear h263 f262b
       refine wpAnyH_ready (rs:=[6]) (by kernel_rfl) (by simp) ?_
       refine AllReadyH.cons (o:=⟨some 21,.buildSlice 26 2 #[(0,.tmp 19),(1,.tmp 20)],_,_,_,none⟩) rfl (fun K hK=>?_) ?_
       ·go_simp
        refine hK.out _ _ (KS _ ((R261).alloc (R261).size _)) (fun hHeld=>?_)
        clear hK K
        obtain ⟨V268,h271⟩:∃ V268,World.alloc V260 (.cells #[.int .i64 vq.kind,.string vq.attr,.slice vq.qi vq.ni vq.ci,.slice vq.qw vq.nw vq.cw,.int .i64 vq.lo,.int .i64 vq.hi,.int .i64 vq.op,.slice vq.qk vq.nk vq.ck,.int .i64 vp.kind,.string vp.attr,.slice vp.qi vp.ni vp.ci,.slice vp.qw vp.nw vp.cw,.int .i64 vp.lo,.int .i64 vp.hi,.int .i64 vp.op,.slice vp.qk vp.nk vp.ck] 28)=V268:=⟨_,rfl⟩
        rw [h271]
        have R269:Below U.heap.size U V268:=by rw [← h271];exact R261.alloc R261.size _
        have f270b:Below V260.heap.size V260 V268:=by rw [← h271];exact (Below.refl _ _).alloc (Nat.le_refl _) _
        have f270:=hide (nwb h271)
        have f272:=hide ((uh f264).keep f270b)
        clear f264
        have f273:=hide ((uh f265).keep f270b)
        clear f265
        have f274:=hide (((f270b).block _ (heap_lt (uh f266))).trans (uh f266))
        clear f266
        have f275:=hide ((uh f267).keep f270b)
        clear f267
        have f276:=hide (((f270b).block _ (heap_lt (uh f262))).trans (uh f262))
        clear f262
        clear h271 f270b
        refine wpAnyH_ready (rs:=[7]) (by kernel_rfl) (by simp) ?_
        refine AllReadyH.cons (o:=⟨some 22,.call { callee:=.value (.func 14),args:=#[.tmp 21],argTypes:=#[26] },_,_,_,none⟩) rfl (fun K hK=>?_) ?_
        ·go_simp
         refine (cAnd TQ TP vq vp _ _ (uh f270) (uh f273) (uh f272) (by decide +kernel)).mono ?_
         rintro e w277 ⟨⟨v280,rfl,b278n⟩,b278⟩
         simp only [Nv.val]
         have R279:Below U.heap.size U w277:=below_sub R269 b278
         have b278z:=heap_lt (uh f276)
         have f281:=hide ((uh f272).keep b278)
         clear f272
         have f282:=hide ((uh f273).keep b278)
         clear f273
         have f283:=hide (((b278).block _ (heap_lt (uh f274))).trans (uh f274))
         clear f274
         have f284:=hide ((uh f275).keep b278)
         clear f275
         have f285:=hide (((b278).block _ (heap_lt (uh f276))).trans (uh f276))
         clear f276
         have f286:=hide (((b278).block _ (heap_lt (uh f270))).trans (uh f270))
         clear f270
         have f287:=hide b278n
         clear b278 b278n
         refine hK.out _ _ (KS _ R279) (fun hHeld=>?_)
         clear hK K
         refine wpAnyH_ready (rs:=[8]) (by kernel_rfl) (by simp) ?_
         refine AllReadyH.cons (o:=⟨some 23,.call { callee:=.value (.func 16),args:=#[.tmp 22],argTypes:=#[28] },_,_,_,none⟩) rfl (fun K hK=>?_) ?_
         ·go_simp
          refine (cNot (joinT 3 [TQ,TP]) v280 _ (uh f287).toIn (by decide +kernel)).mono ?_
          rintro e w288 ⟨⟨v291,rfl,b289n⟩,b289⟩
          simp only [Nv.val]
          have R290:Below U.heap.size U w288:=below_sub R279 b289
          have b289z:=heap_lt (uh f285)
          have f292:=hide ((uh f281).keep b289)
          clear f281
          have f293:=hide ((uh f282).keep b289)
          clear f282
          have f294:=hide (((b289).block _ (heap_lt (uh f283))).trans (uh f283))
          clear f283
          have f295:=hide ((uh f284).keep b289)
          clear f284
          have f296:=hide (((b289).block _ (heap_lt (uh f285))).trans (uh f285))
          clear f285
          have f297:=hide (((b289).block _ (heap_lt (uh f286))).trans (uh f286))
          clear f286
          have f298:=hide ((uh f287).keep b289)
          clear f287
          have f299:=hide b289n
          clear b289 b289n
          refine hK.out _ _ (KS _ R290) (fun hHeld=>?_)
          clear hK K
          refine wpAnyH_ready (rs:=[9]) (by kernel_rfl) (by simp) ?_
          refine AllReadyH.cons (o:=⟨some 24,.buildSlice 26 2 #[(0,.tmp 18),(1,.tmp 23)],_,_,_,none⟩) rfl (fun K hK=>?_) ?_
          ·go_simp
           refine hK.out _ _ (KS _ ((R290).alloc (R290).size _)) (fun hHeld=>?_)
           clear hK K
           obtain ⟨V300,h303⟩:∃ V300,World.alloc w288 (.cells #[.int .i64 v10.kind,.string v10.attr,.slice v10.qi v10.ni v10.ci,.slice v10.qw v10.nw v10.cw,.int .i64 v10.lo,.int .i64 v10.hi,.int .i64 v10.op,.slice v10.qk v10.nk v10.ck,.int .i64 v291.kind,.string v291.attr,.slice v291.qi v291.ni v291.ci,.slice v291.qw v291.nw v291.cw,.int .i64 v291.lo,.int .i64 v291.hi,.int .i64 v291.op,.slice v291.qk v291.nk v291.ck] 28)=V300:=⟨_,rfl⟩
           rw [h303]
           have R301:Below U.heap.size U V300:=by rw [← h303];exact R290.alloc R290.size _
           have f302b:Below w288.heap.size w288 V300:=by rw [← h303];exact (Below.refl _ _).alloc (Nat.le_refl _) _
           have f302:=hide (nwb h303)
           have f304:=hide ((uh f292).keep f302b)
           clear f292
           have f305:=hide ((uh f293).keep f302b)
           clear f293
           have f306:=hide (((f302b).block _ (heap_lt (uh f294))).trans (uh f294))
           clear f294
           have f307:=hide ((uh f295).keep f302b)
           clear f295
           have f308:=hide (((f302b).block _ (heap_lt (uh f296))).trans (uh f296))
           clear f296
           have f309:=hide (((f302b).block _ (heap_lt (uh f297))).trans (uh f297))
           clear f297
           have f310:=hide ((uh f298).keep f302b)
           clear f298
           have f311:=hide ((uh f299).keep f302b)
           clear f299
           clear h303 f302b
           refine wpAnyH_ready (rs:=[10]) (by kernel_rfl) (by simp) ?_
           refine AllReadyH.cons (o:=⟨some 25,.call { callee:=.value (.func 14),args:=#[.tmp 24],argTypes:=#[26] },_,_,_,none⟩) rfl (fun K hK=>?_) ?_
           ·go_simp
            refine (cAnd (joinT 4 [TP,TQ]) (notT (joinT 3 [TQ,TP])) v10 v291 _ _ (uh f302) (uh f307).toIn (uh f311).toIn (by decide +kernel)).mono ?_
            rintro e w312 ⟨⟨v315,rfl,b313n⟩,b313⟩
            simp only [Nv.val]
            have R314:Below U.heap.size U w312:=below_sub R301 b313
            have b313z:=heap_lt (uh f308)
            have f316:=hide ((uh f304).keep b313)
            clear f304
            have f317:=hide ((uh f305).keep b313)
            clear f305
            have f318:=hide (((b313).block _ (heap_lt (uh f306))).trans (uh f306))
            clear f306
            have f319:=hide ((uh f307).keep b313)
            clear f307
            have f320:=hide (((b313).block _ (heap_lt (uh f308))).trans (uh f308))
            clear f308
            have f321:=hide (((b313).block _ (heap_lt (uh f309))).trans (uh f309))
            clear f309
            have f322:=hide ((uh f310).keep b313)
            clear f310
            have f323:=hide ((uh f311).keep b313)
            clear f311
            have f324:=hide (((b313).block _ (heap_lt (uh f302))).trans (uh f302))
            clear f302
            have f325:=hide b313n
            clear b313 b313n
            refine hK.out _ _ (KS _ R314) (fun hHeld=>?_)
            clear hK K
            refine wpAnyH_ready (rs:=[12]) (by kernel_rfl) (by simp) ?_
            refine AllReadyH.cons (o:=⟨none,.store 28 (.tmp 3) (.tmp 25),_,_,_,none⟩) rfl (fun K hK=>?_) ?_
            ·have z326g:U.heap.size≤w7.heap.size:=(R9).size
             obtain ⟨z326_0,z326_1,z326_2,z326_3,z326_4,z326_5,z326_6,z326_7⟩:=of8' (uh f320)
             have z326f:∀ o,World.frozen? w312 ⟨w7.heap.size,o,none⟩=false:=fun o=>frozen_free (uh f320)
             have z326l:=heap_lt (uh f320)
             go_simp
             refine hK.out _ _ (KS _ (set8_below (g:=w7.heap.size) R314 z326g (.int .i64 v315.kind) (.string v315.attr) (.slice v315.qi v315.ni v315.ci) (.slice v315.qw v315.nw v315.cw) (.int .i64 v315.lo) (.int .i64 v315.hi) (.int .i64 v315.op) (.slice v315.qk v315.nk v315.ck))) (fun hHeld=>?_)
             clear hK K
             refine wpAnyH_done (by kernel_rfl) ?_ _
             go_wp2
             go_meet
             case rel =>
               have q327g:U.heap.size≤w7.heap.size:=(R9).size
               have q327b:=set8_below (g:=w7.heap.size) R314 q327g (.int .i64 v315.kind) (.string v315.attr) (.slice v315.qi v315.ni v315.ci) (.slice v315.qw v315.nw v315.cw) (.int .i64 v315.lo) (.int .i64 v315.hi) (.int .i64 v315.op) (.slice v315.qk v315.nk v315.ck)
               refine ⟨w7.heap.size,v315,rfl,set8_blk (uh f320),q327b, ?_⟩
               exact ((uh f325).up (set8_up (g:=w7.heap.size) _ b313z (.int .i64 v315.kind) (.string v315.attr) (.slice v315.qi v315.ni v315.ci) (.slice v315.qw v315.nw v315.cw) (.int .i64 v315.lo) (.int .i64 v315.hi) (.int .i64 v315.op) (.slice v315.qk v315.nk v315.ck))).toIn
            exact AllReadyH.nil
           exact AllReadyH.nil
          exact AllReadyH.nil
         exact AllReadyH.nil
        exact AllReadyH.nil
       exact AllReadyH.nil
      exact AllReadyH.nil
     refine AllReadyH.cons (o:=⟨some 21,.buildSlice 26 2 #[(0,.tmp 19),(1,.tmp 20)],_,_,_,none⟩) rfl (fun K hK=>?_) ?_
     ·go_simp
      refine hK.out _ _ (KS _ ((R2).alloc (R2).size _)) (fun hHeld=>?_)
      clear hK K
      obtain ⟨V328,h331⟩:∃ V328,World.alloc V1 (.cells #[.int .i64 vq.kind,.string vq.attr,.slice vq.qi vq.ni vq.ci,.slice vq.qw vq.nw vq.cw,.int .i64 vq.lo,.int .i64 vq.hi,.int .i64 vq.op,.slice vq.qk vq.nk vq.ck,.int .i64 vp.kind,.string vp.attr,.slice vp.qi vp.ni vp.ci,.slice vp.qw vp.nw vp.cw,.int .i64 vp.lo,.int .i64 vp.hi,.int .i64 vp.op,.slice vp.qk vp.nk vp.ck] 28)=V328:=⟨_,rfl⟩
      rw [h331]
      have R329:Below U.heap.size U V328:=by rw [← h331];exact R2.alloc R2.size _
      have f330b:Below V1.heap.size V1 V328:=by rw [← h331];exact (Below.refl _ _).alloc (Nat.le_refl _) _
      have f330:=hide (nwb h331)
      have f332:=hide ((uh f5).keep f330b)
      clear f5
      have f333:=hide ((uh f6).keep f330b)
      clear f6
      have f334:=hide (((f330b).block _ (heap_lt (uh f3))).trans (uh f3))
      clear f3
      clear h331 f330b
      refine wpAnyH_ready (rs:=[3,11]) (by kernel_rfl) (by simp) ?_
      refine AllReadyH.cons (o:=⟨some 18,.call { callee:=.value (.func 15),args:=#[.tmp 17],argTypes:=#[26] },_,_,_,none⟩) rfl (fun K hK=>?_) ?_
      ·go_simp
       refine (cOr TP TQ vp vq _ _ (uh f334) (uh f332) (uh f333) (by decide +kernel)).mono ?_
       rintro e w335 ⟨⟨v338,rfl,b336n⟩,b336⟩
       simp only [Nv.val]
       have R337:Below U.heap.size U w335:=below_sub R329 b336
       have f339:=hide ((uh f332).keep b336)
       clear f332
       have f340:=hide ((uh f333).keep b336)
       clear f333
       have f341:=hide (((b336).block _ (heap_lt (uh f334))).trans (uh f334))
       clear f334
       have f342:=hide (((b336).block _ (heap_lt (uh f330))).trans (uh f330))
       clear f330
       have f343:=hide b336n
       clear b336 b336n
       refine hK.out _ _ (KS _ R337) (fun hHeld=>?_)
       clear hK K
       refine wpAnyH_ready (rs:=[7,11]) (by kernel_rfl) (by simp) ?_
       refine AllReadyH.cons (o:=⟨some 22,.call { callee:=.value (.func 14),args:=#[.tmp 21],argTypes:=#[26] },_,_,_,none⟩) rfl (fun K hK=>?_) ?_
       ·go_simp
        refine (cAnd TQ TP vq vp _ _ (uh f342) (uh f340) (uh f339) (by decide +kernel)).mono ?_
        rintro e w344 ⟨⟨v347,rfl,b345n⟩,b345⟩
        simp only [Nv.val]
        have R346:Below U.heap.size U w344:=below_sub R337 b345
        have f348:=hide ((uh f339).keep b345)
        clear f339
        have f349:=hide ((uh f340).keep b345)
        clear f340
        have f350:=hide (((b345).block _ (heap_lt (uh f341))).trans (uh f341))
        clear f341
        have f351:=hide (((b345).block _ (heap_lt (uh f342))).trans (uh f342))
        clear f342
        have f352:=hide ((uh f343).keep b345)
        clear f343
        have f353:=hide b345n
        clear b345 b345n
        refine hK.out _ _ (KS _ R346) (fun hHeld=>?_)
        clear hK K
        refine wpAnyH_ready (rs:=[8,11]) (by kernel_rfl) (by simp) ?_
        refine AllReadyH.cons (o:=⟨some 23,.call { callee:=.value (.func 16),args:=#[.tmp 22],argTypes:=#[28] },_,_,_,none⟩) rfl (fun K hK=>?_) ?_
        ·go_simp
         refine (cNot (joinT 3 [TQ,TP]) v347 _ (uh f353).toIn (by decide +kernel)).mono ?_
         rintro e w354 ⟨⟨v357,rfl,b355n⟩,b355⟩
         simp only [Nv.val]
         have R356:Below U.heap.size U w354:=below_sub R346 b355
         have f358:=hide ((uh f348).keep b355)
         clear f348
         have f359:=hide ((uh f349).keep b355)
         clear f349
         have f360:=hide (((b355).block _ (heap_lt (uh f350))).trans (uh f350))
         clear f350
         have f361:=hide (((b355).block _ (heap_lt (uh f351))).trans (uh f351))
         clear f351
         have f362:=hide ((uh f352).keep b355)
         clear f352
         have f363:=hide ((uh f353).keep b355)
         clear f353
         have f364:=hide b355n
         clear b355 b355n
         refine hK.out _ _ (KS _ R356) (fun hHeld=>?_)
         clear hK K
         refine wpAnyH_ready (rs:=[9,11]) (by kernel_rfl) (by simp) ?_
         refine AllReadyH.cons (o:=⟨some 24,.buildSlice 26 2 #[(0,.tmp 18),(1,.tmp 23)],_,_,_,none⟩) rfl (fun K hK=>?_) ?_
         ·go_simp
          refine hK.out _ _ (KS _ ((R356).alloc (R356).size _)) (fun hHeld=>?_)
          clear hK K
          obtain ⟨V365,h368⟩:∃ V365,World.alloc w354 (.cells #[.int .i64 v338.kind,.string v338.attr,.slice v338.qi v338.ni v338.ci,.slice v338.qw v338.nw v338.cw,.int .i64 v338.lo,.int .i64 v338.hi,.int .i64 v338.op,.slice v338.qk v338.nk v338.ck,.int .i64 v357.kind,.string v357.attr,.slice v357.qi v357.ni v357.ci,.slice v357.qw v357.nw v357.cw,.int .i64 v357.lo,.int .i64 v357.hi,.int .i64 v357.op,.slice v357.qk v357.nk v357.ck] 28)=V365:=⟨_,rfl⟩
          rw [h368]
          have R366:Below U.heap.size U V365:=by rw [← h368];exact R356.alloc R356.size _
          have f367b:Below w354.heap.size w354 V365:=by rw [← h368];exact (Below.refl _ _).alloc (Nat.le_refl _) _
          have f367:=hide (nwb h368)
          have f369:=hide ((uh f358).keep f367b)
          clear f358
          have f370:=hide ((uh f359).keep f367b)
          clear f359
          have f371:=hide (((f367b).block _ (heap_lt (uh f360))).trans (uh f360))
          clear f360
          have f372:=hide (((f367b).block _ (heap_lt (uh f361))).trans (uh f361))
          clear f361
          have f373:=hide ((uh f362).keep f367b)
          clear f362
          have f374:=hide ((uh f363).keep f367b)
          clear f363
          have f375:=hide ((uh f364).keep f367b)
          clear f364
          clear h368 f367b
          refine wpAnyH_ready (rs:=[10,11]) (by kernel_rfl) (by simp) ?_
          refine AllReadyH.cons (o:=⟨some 25,.call { callee:=.value (.func 14),args:=#[.tmp 24],argTypes:=#[26] },_,_,_,none⟩) rfl (fun K hK=>?_) ?_
          ·go_simp
           refine (cAnd (joinT 4 [TP,TQ]) (notT (joinT 3 [TQ,TP])) v338 v357 _ _ (uh f367) (uh f373).toIn (uh f375).toIn (by decide +kernel)).mono ?_
           rintro e w376 ⟨⟨v379,rfl,b377n⟩,b377⟩
           simp only [Nv.val]
           have R378:Below U.heap.size U w376:=below_sub R366 b377
           have f380:=hide ((uh f369).keep b377)
           clear f369
           have f381:=hide ((uh f370).keep b377)
           clear f370
           have f382:=hide (((b377).block _ (heap_lt (uh f371))).trans (uh f371))
           clear f371
           have f383:=hide (((b377).block _ (heap_lt (uh f372))).trans (uh f372))
           clear f372
           have f384:=hide ((uh f373).keep b377)
           clear f373
           have f385:=hide ((uh f374).keep b377)
           clear f374
           have f386:=hide ((uh f375).keep b377)
           clear f375
           have f387:=hide (((b377).block _ (heap_lt (uh f367))).trans (uh f367))
           clear f367
           have f388:=hide b377n
           clear b377 b377n
           refine hK.out _ _ (KS _ R378) (fun hHeld=>?_)
           clear hK K
           refine wpAnyH_ready (rs:=[11]) (by kernel_rfl) (by simp) ?_
           refine AllReadyH.cons (o:=⟨some 3,.alloc 28,_,_,_,none⟩) rfl (fun K hK=>?_) ?_
           ·go_simp
            refine hK.out _ _ (KS _ ((R378).alloc (R378).size _)) (fun hHeld=>?_)
            clear hK K
            obtain ⟨V389,h392⟩:∃ V389,World.alloc w376 (.cells #[.int .i64 0,.string ⟨#[]⟩,.slice none 0 0,.slice none 0 0,.int .i64 0,.int .i64 0,.int .i64 0,.slice none 0 0] 28)=V389:=⟨_,rfl⟩
            rw [h392]
            have R390:Below U.heap.size U V389:=by rw [← h392];exact R378.alloc R378.size _
            have f391b:Below w376.heap.size w376 V389:=by rw [← h392];exact (Below.refl _ _).alloc (Nat.le_refl _) _
            have f391:=hide (nwb h392)
            have zm:=f388
            have zb:=hide f391b
            have f393:=hide ((uh f380).keep f391b)
            clear f380
            have f394:=hide ((uh f381).keep f391b)
            clear f381
            have f395:=hide (((f391b).block _ (heap_lt (uh f382))).trans (uh f382))
            clear f382
            have f396:=hide (((f391b).block _ (heap_lt (uh f383))).trans (uh f383))
            clear f383
            have f397:=hide ((uh f384).keep f391b)
            clear f384
            have f398:=hide ((uh f385).keep f391b)
            clear f385
            have f399:=hide ((uh f386).keep f391b)
            clear f386
            have f400:=hide (((f391b).block _ (heap_lt (uh f387))).trans (uh f387))
            clear f387
            have f401:=hide ((uh f388).keep f391b)
            clear h392 f391b
            refine wpAnyH_ready (rs:=[12]) (by kernel_rfl) (by simp) ?_
            refine AllReadyH.cons (o:=⟨none,.store 28 (.tmp 3) (.tmp 25),_,_,_,none⟩) rfl (fun K hK=>?_) ?_
            ·have z402g:U.heap.size≤w376.heap.size:=(R378).size
             obtain ⟨z402_0,z402_1,z402_2,z402_3,z402_4,z402_5,z402_6,z402_7⟩:=of8' (uh f391)
             have z402f:∀ o,World.frozen? V389 ⟨w376.heap.size,o,none⟩=false:=fun o=>frozen_free (uh f391)
             have z402l:=heap_lt (uh f391)
             go_simp
             refine hK.out _ _ (KS _ (set8_below (g:=w376.heap.size) R390 z402g (.int .i64 v379.kind) (.string v379.attr) (.slice v379.qi v379.ni v379.ci) (.slice v379.qw v379.nw v379.cw) (.int .i64 v379.lo) (.int .i64 v379.hi) (.int .i64 v379.op) (.slice v379.qk v379.nk v379.ck))) (fun hHeld=>?_)
             clear hK K
             refine wpAnyH_done (by kernel_rfl) ?_ _
             go_wp2
             go_meet
             case rel =>
               have q403g:U.heap.size≤w376.heap.size:=(R378).size
               have q403b:=set8_below (g:=w376.heap.size) R390 q403g (.int .i64 v379.kind) (.string v379.attr) (.slice v379.qi v379.ni v379.ci) (.slice v379.qw v379.nw v379.cw) (.int .i64 v379.lo) (.int .i64 v379.hi) (.int .i64 v379.op) (.slice v379.qk v379.nk v379.ck)
               refine ⟨w376.heap.size,v379,rfl,set8_blk (uh f391),q403b, ?_⟩
               exact ((uh zm).toIn).keep (set8_below (g:=w376.heap.size) (uh zb) (Nat.le_refl _) (.int .i64 v379.kind) (.string v379.attr) (.slice v379.qi v379.ni v379.ci) (.slice v379.qw v379.nw v379.cw) (.int .i64 v379.lo) (.int .i64 v379.hi) (.int .i64 v379.op) (.slice v379.qk v379.nk v379.ck))
            exact AllReadyH.nil
           exact AllReadyH.nil
          refine AllReadyH.cons (o:=⟨some 3,.alloc 28,_,_,_,none⟩) rfl (fun K hK=>?_) ?_
          ·go_simp
           refine hK.out _ _ (KS _ ((R366).alloc (R366).size _)) (fun hHeld=>?_)
           clear hK K
           obtain ⟨V404,h407⟩:∃ V404,World.alloc V365 (.cells #[.int .i64 0,.string ⟨#[]⟩,.slice none 0 0,.slice none 0 0,.int .i64 0,.int .i64 0,.int .i64 0,.slice none 0 0] 28)=V404:=⟨_,rfl⟩
           rw [h407]
           have R405:Below U.heap.size U V404:=by rw [← h407];exact R366.alloc R366.size _
           have f406b:Below V365.heap.size V365 V404:=by rw [← h407];exact (Below.refl _ _).alloc (Nat.le_refl _) _
           have f406:=hide (nwb h407)
           have f408:=hide ((uh f369).keep f406b)
           clear f369
           have f409:=hide ((uh f370).keep f406b)
           clear f370
           have f410:=hide (((f406b).block _ (heap_lt (uh f371))).trans (uh f371))
           clear f371
           have f411:=hide (((f406b).block _ (heap_lt (uh f372))).trans (uh f372))
           clear f372
           have f412:=hide ((uh f373).keep f406b)
           clear f373
           have f413:=hide ((uh f374).keep f406b)
           clear f374
           have f414:=hide ((uh f375).keep f406b)
           clear f375
           have f415:=hide (((f406b).block _ (heap_lt (uh f367))).trans (uh f367))
           clear f367
           clear h407 f406b
           refine wpAnyH_ready (rs:=[10]) (by kernel_rfl) (by simp) ?_
           refine AllReadyH.cons (o:=⟨some 25,.call { callee:=.value (.func 14),args:=#[.tmp 24],argTypes:=#[26] },_,_,_,none⟩) rfl (fun K hK=>?_) ?_
           ·go_simp
            refine (cAnd (joinT 4 [TP,TQ]) (notT (joinT 3 [TQ,TP])) v338 v357 _ _ (uh f415) (uh f412).toIn (uh f414).toIn (by decide +kernel)).mono ?_
            rintro e w416 ⟨⟨v419,rfl,b417n⟩,b417⟩
            simp only [Nv.val]
            have R418:Below U.heap.size U w416:=below_sub R405 b417
            have b417z:=heap_lt (uh f406)
            have f420:=hide ((uh f408).keep b417)
            clear f408
            have f421:=hide ((uh f409).keep b417)
            clear f409
            have f422:=hide (((b417).block _ (heap_lt (uh f410))).trans (uh f410))
            clear f410
            have f423:=hide (((b417).block _ (heap_lt (uh f411))).trans (uh f411))
            clear f411
            have f424:=hide ((uh f412).keep b417)
            clear f412
            have f425:=hide ((uh f413).keep b417)
            clear f413
            have f426:=hide ((uh f414).keep b417)
            clear f414
            have f427:=hide (((b417).block _ (heap_lt (uh f415))).trans (uh f415))
            clear f415
            have f428:=hide (((b417).block _ (heap_lt (uh f406))).trans (uh f406))
            clear f406
            have f429:=hide b417n
            clear b417 b417n
            refine hK.out _ _ (KS _ R418) (fun hHeld=>?_)
            clear hK K
            refine wpAnyH_ready (rs:=[12]) (by kernel_rfl) (by simp) ?_
            refine AllReadyH.cons (o:=⟨none,.store 28 (.tmp 3) (.tmp 25),_,_,_,none⟩) rfl (fun K hK=>?_) ?_
            ·have z430g:U.heap.size≤V365.heap.size:=(R366).size
             obtain ⟨z430_0,z430_1,z430_2,z430_3,z430_4,z430_5,z430_6,z430_7⟩:=of8' (uh f428)
             have z430f:∀ o,World.frozen? w416 ⟨V365.heap.size,o,none⟩=false:=fun o=>frozen_free (uh f428)
             have z430l:=heap_lt (uh f428)
             go_simp
             refine hK.out _ _ (KS _ (set8_below (g:=V365.heap.size) R418 z430g (.int .i64 v419.kind) (.string v419.attr) (.slice v419.qi v419.ni v419.ci) (.slice v419.qw v419.nw v419.cw) (.int .i64 v419.lo) (.int .i64 v419.hi) (.int .i64 v419.op) (.slice v419.qk v419.nk v419.ck))) (fun hHeld=>?_)
             clear hK K
             refine wpAnyH_done (by kernel_rfl) ?_ _
             go_wp2
             go_meet
             case rel =>
               have q431g:U.heap.size≤V365.heap.size:=(R366).size
               have q431b:=set8_below (g:=V365.heap.size) R418 q431g (.int .i64 v419.kind) (.string v419.attr) (.slice v419.qi v419.ni v419.ci) (.slice v419.qw v419.nw v419.cw) (.int .i64 v419.lo) (.int .i64 v419.hi) (.int .i64 v419.op) (.slice v419.qk v419.nk v419.ck)
               refine ⟨V365.heap.size,v419,rfl,set8_blk (uh f428),q431b, ?_⟩
               exact ((uh f429).up (set8_up (g:=V365.heap.size) _ b417z (.int .i64 v419.kind) (.string v419.attr) (.slice v419.qi v419.ni v419.ci) (.slice v419.qw v419.nw v419.cw) (.int .i64 v419.lo) (.int .i64 v419.hi) (.int .i64 v419.op) (.slice v419.qk v419.nk v419.ck))).toIn
            exact AllReadyH.nil
           exact AllReadyH.nil
          exact AllReadyH.nil
         refine AllReadyH.cons (o:=⟨some 3,.alloc 28,_,_,_,none⟩) rfl (fun K hK=>?_) ?_
         ·go_simp
          refine hK.out _ _ (KS _ ((R356).alloc (R356).size _)) (fun hHeld=>?_)
          clear hK K
          obtain ⟨V432,h435⟩:∃ V432,World.alloc w354 (.cells #[.int .i64 0,.string ⟨#[]⟩,.slice none 0 0,.slice none 0 0,.int .i64 0,.int .i64 0,.int .i64 0,.slice none 0 0] 28)=V432:=⟨_,rfl⟩
          rw [h435]
          have R433:Below U.heap.size U V432:=by rw [← h435];exact R356.alloc R356.size _
          have f434b:Below w354.heap.size w354 V432:=by rw [← h435];exact (Below.refl _ _).alloc (Nat.le_refl _) _
          have f434:=hide (nwb h435)
          have f436:=hide ((uh f358).keep f434b)
          clear f358
          have f437:=hide ((uh f359).keep f434b)
          clear f359
          have f438:=hide (((f434b).block _ (heap_lt (uh f360))).trans (uh f360))
          clear f360
          have f439:=hide (((f434b).block _ (heap_lt (uh f361))).trans (uh f361))
          clear f361
          have f440:=hide ((uh f362).keep f434b)
          clear f362
          have f441:=hide ((uh f363).keep f434b)
          clear f363
          have f442:=hide ((uh f364).keep f434b)
          clear f364
          clear h435 f434b
          refine wpAnyH_ready (rs:=[9]) (by kernel_rfl) (by simp) ?_
          refine AllReadyH.cons (o:=⟨some 24,.buildSlice 26 2 #[(0,.tmp 18),(1,.tmp 23)],_,_,_,none⟩) rfl (fun K hK=>?_) ?_
          ·go_simp
           refine hK.out _ _ (KS _ ((R433).alloc (R433).size _)) (fun hHeld=>?_)
           clear hK K
           obtain ⟨V443,h446⟩:∃ V443,World.alloc V432 (.cells #[.int .i64 v338.kind,.string v338.attr,.slice v338.qi v338.ni v338.ci,.slice v338.qw v338.nw v338.cw,.int .i64 v338.lo,.int .i64 v338.hi,.int .i64 v338.op,.slice v338.qk v338.nk v338.ck,.int .i64 v357.kind,.string v357.attr,.slice v357.qi v357.ni v357.ci,.slice v357.qw v357.nw v357.cw,.int .i64 v357.lo,.int .i64 v357.hi,.int .i64 v357.op,.slice v357.qk v357.nk v357.ck] 28)=V443:=⟨_,rfl⟩
           rw [h446]
           have R444:Below U.heap.size U V443:=by rw [← h446];exact R433.alloc R433.size _
           have f445b:Below V432.heap.size V432 V443:=by rw [← h446];exact (Below.refl _ _).alloc (Nat.le_refl _) _
           have f445:=hide (nwb h446)
           have f447:=hide ((uh f436).keep f445b)
           clear f436
           have f448:=hide ((uh f437).keep f445b)
           clear f437
           have f449:=hide (((f445b).block _ (heap_lt (uh f438))).trans (uh f438))
           clear f438
           have f450:=hide (((f445b).block _ (heap_lt (uh f439))).trans (uh f439))
           clear f439
           have f451:=hide ((uh f440).keep f445b)
           clear f440
           have f452:=hide ((uh f441).keep f445b)
           clear f441
           have f453:=hide ((uh f442).keep f445b)
           clear f442
           have f454:=hide (((f445b).block _ (heap_lt (uh f434))).trans (uh f434))
           clear f434
           clear h446 f445b
           refine wpAnyH_ready (rs:=[10]) (by kernel_rfl) (by simp) ?_
           refine AllReadyH.cons (o:=⟨some 25,.call { callee:=.value (.func 14),args:=#[.tmp 24],argTypes:=#[26] },_,_,_,none⟩) rfl (fun K hK=>?_) ?_
           ·go_simp
            refine (cAnd (joinT 4 [TP,TQ]) (notT (joinT 3 [TQ,TP])) v338 v357 _ _ (uh f445) (uh f451).toIn (uh f453).toIn (by decide +kernel)).mono ?_
            rintro e w455 ⟨⟨v458,rfl,b456n⟩,b456⟩
            simp only [Nv.val]
            have R457:Below U.heap.size U w455:=below_sub R444 b456
            have b456z:=heap_lt (uh f454)
            have f459:=hide ((uh f447).keep b456)
            clear f447
            have f460:=hide ((uh f448).keep b456)
            clear f448
            have f461:=hide (((b456).block _ (heap_lt (uh f449))).trans (uh f449))
            clear f449
            have f462:=hide (((b456).block _ (heap_lt (uh f450))).trans (uh f450))
            clear f450
            have f463:=hide ((uh f451).keep b456)
            clear f451
            have f464:=hide ((uh f452).keep b456)
            clear f452
            have f465:=hide ((uh f453).keep b456)
            clear f453
            have f466:=hide (((b456).block _ (heap_lt (uh f454))).trans (uh f454))
            clear f454
            have f467:=hide (((b456).block _ (heap_lt (uh f445))).trans (uh f445))
            clear f445
            have f468:=hide b456n
            clear b456 b456n
            refine hK.out _ _ (KS _ R457) (fun hHeld=>?_)
            clear hK K
            refine wpAnyH_ready (rs:=[12]) (by kernel_rfl) (by simp) ?_
            refine AllReadyH.cons (o:=⟨none,.store 28 (.tmp 3) (.tmp 25),_,_,_,none⟩) rfl (fun K hK=>?_) ?_
            ·have z469g:U.heap.size≤w354.heap.size:=(R356).size
             obtain ⟨z469_0,z469_1,z469_2,z469_3,z469_4,z469_5,z469_6,z469_7⟩:=of8' (uh f466)
             have z469f:∀ o,World.frozen? w455 ⟨w354.heap.size,o,none⟩=false:=fun o=>frozen_free (uh f466)
             have z469l:=heap_lt (uh f466)
             go_simp
             refine hK.out _ _ (KS _ (set8_below (g:=w354.heap.size) R457 z469g (.int .i64 v458.kind) (.string v458.attr) (.slice v458.qi v458.ni v458.ci) (.slice v458.qw v458.nw v458.cw) (.int .i64 v458.lo) (.int .i64 v458.hi) (.int .i64 v458.op) (.slice v458.qk v458.nk v458.ck))) (fun hHeld=>?_)
             clear hK K
             refine wpAnyH_done (by kernel_rfl) ?_ _
             go_wp2
             go_meet
             case rel =>
               have q470g:U.heap.size≤w354.heap.size:=(R356).size
               have q470b:=set8_below (g:=w354.heap.size) R457 q470g (.int .i64 v458.kind) (.string v458.attr) (.slice v458.qi v458.ni v458.ci) (.slice v458.qw v458.nw v458.cw) (.int .i64 v458.lo) (.int .i64 v458.hi) (.int .i64 v458.op) (.slice v458.qk v458.nk v458.ck)
               refine ⟨w354.heap.size,v458,rfl,set8_blk (uh f466),q470b, ?_⟩
               exact ((uh f468).up (set8_up (g:=w354.heap.size) _ b456z (.int .i64 v458.kind) (.string v458.attr) (.slice v458.qi v458.ni v458.ci) (.slice v458.qw v458.nw v458.cw) (.int .i64 v458.lo) (.int .i64 v458.hi) (.int .i64 v458.op) (.slice v458.qk v458.nk v458.ck))).toIn
            exact AllReadyH.nil
           exact AllReadyH.nil
          exact AllReadyH.nil
         exact AllReadyH.nil
        refine AllReadyH.cons (o:=⟨some 3,.alloc 28,_,_,_,none⟩) rfl (fun K hK=>?_) ?_
        ·go_simp
         refine hK.out _ _ (KS _ ((R346).alloc (R346).size _)) (fun hHeld=>?_)
         clear hK K
         obtain ⟨V471,h474⟩:∃ V471,World.alloc w344 (.cells #[.int .i64 0,.string ⟨#[]⟩,.slice none 0 0,.slice none 0 0,.int .i64 0,.int .i64 0,.int .i64 0,.slice none 0 0] 28)=V471:=⟨_,rfl⟩
         rw [h474]
         have R472:Below U.heap.size U V471:=by rw [← h474];exact R346.alloc R346.size _
         have f473b:Below w344.heap.size w344 V471:=by rw [← h474];exact (Below.refl _ _).alloc (Nat.le_refl _) _
         have f473:=hide (nwb h474)
         have f475:=hide ((uh f348).keep f473b)
         clear f348
         have f476:=hide ((uh f349).keep f473b)
         clear f349
         have f477:=hide (((f473b).block _ (heap_lt (uh f350))).trans (uh f350))
         clear f350
         have f478:=hide (((f473b).block _ (heap_lt (uh f351))).trans (uh f351))
         clear f351
         have f479:=hide ((uh f352).keep f473b)
         clear f352
         have f480:=hide ((uh f353).keep f473b)
         clear f353
         clear h474 f473b
         refine wpAnyH_ready (rs:=[8]) (by kernel_rfl) (by simp) ?_
         refine AllReadyH.cons (o:=⟨some 23,.call { callee:=.value (.func 16),args:=#[.tmp 22],argTypes:=#[28] },_,_,_,none⟩) rfl (fun K hK=>?_) ?_
         ·go_simp
          refine (cNot (joinT 3 [TQ,TP]) v347 _ (uh f480).toIn (by decide +kernel)).mono ?_
          rintro e w481 ⟨⟨v484,rfl,b482n⟩,b482⟩
          simp only [Nv.val]
          have R483:Below U.heap.size U w481:=below_sub R472 b482
          have b482z:=heap_lt (uh f473)
          have f485:=hide ((uh f475).keep b482)
          clear f475
          have f486:=hide ((uh f476).keep b482)
          clear f476
          have f487:=hide (((b482).block _ (heap_lt (uh f477))).trans (uh f477))
          clear f477
          have f488:=hide (((b482).block _ (heap_lt (uh f478))).trans (uh f478))
          clear f478
          have f489:=hide ((uh f479).keep b482)
          clear f479
          have f490:=hide ((uh f480).keep b482)
          clear f480
          have f491:=hide (((b482).block _ (heap_lt (uh f473))).trans (uh f473))
          clear f473
          have f492:=hide b482n
          clear b482 b482n
          refine hK.out _ _ (KS _ R483) (fun hHeld=>?_)
          clear hK K
          refine wpAnyH_ready (rs:=[9]) (by kernel_rfl) (by simp) ?_
          refine AllReadyH.cons (o:=⟨some 24,.buildSlice 26 2 #[(0,.tmp 18),(1,.tmp 23)],_,_,_,none⟩) rfl (fun K hK=>?_) ?_
          ·go_simp
           refine hK.out _ _ (KS _ ((R483).alloc (R483).size _)) (fun hHeld=>?_)
           clear hK K
           obtain ⟨V493,h496⟩:∃ V493,World.alloc w481 (.cells #[.int .i64 v338.kind,.string v338.attr,.slice v338.qi v338.ni v338.ci,.slice v338.qw v338.nw v338.cw,.int .i64 v338.lo,.int .i64 v338.hi,.int .i64 v338.op,.slice v338.qk v338.nk v338.ck,.int .i64 v484.kind,.string v484.attr,.slice v484.qi v484.ni v484.ci,.slice v484.qw v484.nw v484.cw,.int .i64 v484.lo,.int .i64 v484.hi,.int .i64 v484.op,.slice v484.qk v484.nk v484.ck] 28)=V493:=⟨_,rfl⟩
           rw [h496]
           have R494:Below U.heap.size U V493:=by rw [← h496];exact R483.alloc R483.size _
           have f495b:Below w481.heap.size w481 V493:=by rw [← h496];exact (Below.refl _ _).alloc (Nat.le_refl _) _
           have f495:=hide (nwb h496)
           have f497:=hide ((uh f485).keep f495b)
           clear f485
           have f498:=hide ((uh f486).keep f495b)
           clear f486
           have f499:=hide (((f495b).block _ (heap_lt (uh f487))).trans (uh f487))
           clear f487
           have f500:=hide (((f495b).block _ (heap_lt (uh f488))).trans (uh f488))
           clear f488
           have f501:=hide ((uh f489).keep f495b)
           clear f489
           have f502:=hide ((uh f490).keep f495b)
           clear f490
           have f503:=hide (((f495b).block _ (heap_lt (uh f491))).trans (uh f491))
           clear f491
           have f504:=hide ((uh f492).keep f495b)
           clear f492
           clear h496 f495b
           refine wpAnyH_ready (rs:=[10]) (by kernel_rfl) (by simp) ?_
           refine AllReadyH.cons (o:=⟨some 25,.call { callee:=.value (.func 14),args:=#[.tmp 24],argTypes:=#[26] },_,_,_,none⟩) rfl (fun K hK=>?_) ?_
           ·go_simp
            refine (cAnd (joinT 4 [TP,TQ]) (notT (joinT 3 [TQ,TP])) v338 v484 _ _ (uh f495) (uh f501).toIn (uh f504).toIn (by decide +kernel)).mono ?_
            rintro e w505 ⟨⟨v508,rfl,b506n⟩,b506⟩
            simp only [Nv.val]
            have R507:Below U.heap.size U w505:=below_sub R494 b506
            have b506z:=heap_lt (uh f503)
            have f509:=hide ((uh f497).keep b506)
            clear f497
            have f510:=hide ((uh f498).keep b506)
            clear f498
            have f511:=hide (((b506).block _ (heap_lt (uh f499))).trans (uh f499))
            clear f499
            have f512:=hide (((b506).block _ (heap_lt (uh f500))).trans (uh f500))
            clear f500
            have f513:=hide ((uh f501).keep b506)
            clear f501
            have f514:=hide ((uh f502).keep b506)
            clear f502
            have f515:=hide (((b506).block _ (heap_lt (uh f503))).trans (uh f503))
            clear f503
            have f516:=hide ((uh f504).keep b506)
            clear f504
            have f517:=hide (((b506).block _ (heap_lt (uh f495))).trans (uh f495))
            clear f495
            have f518:=hide b506n
            clear b506 b506n
            refine hK.out _ _ (KS _ R507) (fun hHeld=>?_)
            clear hK K
            refine wpAnyH_ready (rs:=[12]) (by kernel_rfl) (by simp) ?_
            refine AllReadyH.cons (o:=⟨none,.store 28 (.tmp 3) (.tmp 25),_,_,_,none⟩) rfl (fun K hK=>?_) ?_
            ·have z519g:U.heap.size≤w344.heap.size:=(R346).size
             obtain ⟨z519_0,z519_1,z519_2,z519_3,z519_4,z519_5,z519_6,z519_7⟩:=of8' (uh f515)
             have z519f:∀ o,World.frozen? w505 ⟨w344.heap.size,o,none⟩=false:=fun o=>frozen_free (uh f515)
             have z519l:=heap_lt (uh f515)
             go_simp
             refine hK.out _ _ (KS _ (set8_below (g:=w344.heap.size) R507 z519g (.int .i64 v508.kind) (.string v508.attr) (.slice v508.qi v508.ni v508.ci) (.slice v508.qw v508.nw v508.cw) (.int .i64 v508.lo) (.int .i64 v508.hi) (.int .i64 v508.op) (.slice v508.qk v508.nk v508.ck))) (fun hHeld=>?_)
             clear hK K
             refine wpAnyH_done (by kernel_rfl) ?_ _
             go_wp2
             go_meet
             case rel =>
               have q520g:U.heap.size≤w344.heap.size:=(R346).size
               have q520b:=set8_below (g:=w344.heap.size) R507 q520g (.int .i64 v508.kind) (.string v508.attr) (.slice v508.qi v508.ni v508.ci) (.slice v508.qw v508.nw v508.cw) (.int .i64 v508.lo) (.int .i64 v508.hi) (.int .i64 v508.op) (.slice v508.qk v508.nk v508.ck)
               refine ⟨w344.heap.size,v508,rfl,set8_blk (uh f515),q520b, ?_⟩
               exact ((uh f518).up (set8_up (g:=w344.heap.size) _ b506z (.int .i64 v508.kind) (.string v508.attr) (.slice v508.qi v508.ni v508.ci) (.slice v508.qw v508.nw v508.cw) (.int .i64 v508.lo) (.int .i64 v508.hi) (.int .i64 v508.op) (.slice v508.qk v508.nk v508.ck))).toIn
            exact AllReadyH.nil
           exact AllReadyH.nil
          exact AllReadyH.nil
         exact AllReadyH.nil
        exact AllReadyH.nil
       refine AllReadyH.cons (o:=⟨some 3,.alloc 28,_,_,_,none⟩) rfl (fun K hK=>?_) ?_
       ·go_simp
        refine hK.out _ _ (KS _ ((R337).alloc (R337).size _)) (fun hHeld=>?_)
        clear hK K
        obtain ⟨V521,h524⟩:∃ V521,World.alloc w335 (.cells #[.int .i64 0,.string ⟨#[]⟩,.slice none 0 0,.slice none 0 0,.int .i64 0,.int .i64 0,.int .i64 0,.slice none 0 0] 28)=V521:=⟨_,rfl⟩
        rw [h524]
        have R522:Below U.heap.size U V521:=by rw [← h524];exact R337.alloc R337.size _
        have f523b:Below w335.heap.size w335 V521:=by rw [← h524];exact (Below.refl _ _).alloc (Nat.le_refl _) _
        have f523:=hide (nwb h524)
        have f525:=hide ((uh f339).keep f523b)
        clear f339
        have f526:=hide ((uh f340).keep f523b)
        clear f340
        have f527:=hide (((f523b).block _ (heap_lt (uh f341))).trans (uh f341))
        clear f341
        have f528:=hide (((f523b).block _ (heap_lt (uh f342))).trans (uh f342))
        clear f342
        have f529:=hide ((uh f343).keep f523b)
        clear f343
        clear h524 f523b
        refine wpAnyH_ready (rs:=[7]) (by kernel_rfl) (by simp) ?_
        refine AllReadyH.cons (o:=⟨some 22,.call { callee:=.value (.func 14),args:=#[.tmp 21],argTypes:=#[26] },_,_,_,none⟩) rfl (fun K hK=>?_) ?_
        ·go_simp
         refine (cAnd TQ TP vq vp _ _ (uh f528) (uh f526) (uh f525) (by decide +kernel)).mono ?_
         rintro e w530 ⟨⟨v533,rfl,b531n⟩,b531⟩
         simp only [Nv.val]
         have R532:Below U.heap.size U w530:=below_sub R522 b531
         have b531z:=heap_lt (uh f523)
         have f534:=hide ((uh f525).keep b531)
         clear f525
         have f535:=hide ((uh f526).keep b531)
         clear f526
         have f536:=hide (((b531).block _ (heap_lt (uh f527))).trans (uh f527))
         clear f527
         have f537:=hide (((b531).block _ (heap_lt (uh f528))).trans (uh f528))
         clear f528
         have f538:=hide ((uh f529).keep b531)
         clear f529
         have f539:=hide (((b531).block _ (heap_lt (uh f523))).trans (uh f523))
         clear f523
         have f540:=hide b531n
         clear b531 b531n
         refine hK.out _ _ (KS _ R532) (fun hHeld=>?_)
         clear hK K
         refine wpAnyH_ready (rs:=[8]) (by kernel_rfl) (by simp) ?_
         refine AllReadyH.cons (o:=⟨some 23,.call { callee:=.value (.func 16),args:=#[.tmp 22],argTypes:=#[28] },_,_,_,none⟩) rfl (fun K hK=>?_) ?_
         ·go_simp
          refine (cNot (joinT 3 [TQ,TP]) v533 _ (uh f540).toIn (by decide +kernel)).mono ?_
          rintro e w541 ⟨⟨v544,rfl,b542n⟩,b542⟩
          simp only [Nv.val]
          have R543:Below U.heap.size U w541:=below_sub R532 b542
          have b542z:=heap_lt (uh f539)
          have f545:=hide ((uh f534).keep b542)
          clear f534
          have f546:=hide ((uh f535).keep b542)
          clear f535
          have f547:=hide (((b542).block _ (heap_lt (uh f536))).trans (uh f536))
          clear f536
          have f548:=hide (((b542).block _ (heap_lt (uh f537))).trans (uh f537))
          clear f537
          have f549:=hide ((uh f538).keep b542)
          clear f538
          have f550:=hide (((b542).block _ (heap_lt (uh f539))).trans (uh f539))
          clear f539
          have f551:=hide ((uh f540).keep b542)
          clear f540
          have f552:=hide b542n
          clear b542 b542n
          refine hK.out _ _ (KS _ R543) (fun hHeld=>?_)
          clear hK K
          refine wpAnyH_ready (rs:=[9]) (by kernel_rfl) (by simp) ?_
          refine AllReadyH.cons (o:=⟨some 24,.buildSlice 26 2 #[(0,.tmp 18),(1,.tmp 23)],_,_,_,none⟩) rfl (fun K hK=>?_) ?_
          ·go_simp
           refine hK.out _ _ (KS _ ((R543).alloc (R543).size _)) (fun hHeld=>?_)
           clear hK K
           obtain ⟨V553,h556⟩:∃ V553,World.alloc w541 (.cells #[.int .i64 v338.kind,.string v338.attr,.slice v338.qi v338.ni v338.ci,.slice v338.qw v338.nw v338.cw,.int .i64 v338.lo,.int .i64 v338.hi,.int .i64 v338.op,.slice v338.qk v338.nk v338.ck,.int .i64 v544.kind,.string v544.attr,.slice v544.qi v544.ni v544.ci,.slice v544.qw v544.nw v544.cw,.int .i64 v544.lo,.int .i64 v544.hi,.int .i64 v544.op,.slice v544.qk v544.nk v544.ck] 28)=V553:=⟨_,rfl⟩
           rw [h556]
           have R554:Below U.heap.size U V553:=by rw [← h556];exact R543.alloc R543.size _
           have f555b:Below w541.heap.size w541 V553:=by rw [← h556];exact (Below.refl _ _).alloc (Nat.le_refl _) _
           have f555:=hide (nwb h556)
           have f557:=hide ((uh f545).keep f555b)
           clear f545
           have f558:=hide ((uh f546).keep f555b)
           clear f546
           have f559:=hide (((f555b).block _ (heap_lt (uh f547))).trans (uh f547))
           clear f547
           have f560:=hide (((f555b).block _ (heap_lt (uh f548))).trans (uh f548))
           clear f548
           have f561:=hide ((uh f549).keep f555b)
           clear f549
           have f562:=hide (((f555b).block _ (heap_lt (uh f550))).trans (uh f550))
           clear f550
           have f563:=hide ((uh f551).keep f555b)
           clear f551
           have f564:=hide ((uh f552).keep f555b)
           clear f552
           clear h556 f555b
           refine wpAnyH_ready (rs:=[10]) (by kernel_rfl) (by simp) ?_
           refine AllReadyH.cons (o:=⟨some 25,.call { callee:=.value (.func 14),args:=#[.tmp 24],argTypes:=#[26] },_,_,_,none⟩) rfl (fun K hK=>?_) ?_
           ·go_simp
            refine (cAnd (joinT 4 [TP,TQ]) (notT (joinT 3 [TQ,TP])) v338 v544 _ _ (uh f555) (uh f561).toIn (uh f564).toIn (by decide +kernel)).mono ?_
            rintro e w565 ⟨⟨v568,rfl,b566n⟩,b566⟩
            simp only [Nv.val]
            have R567:Below U.heap.size U w565:=below_sub R554 b566
            have b566z:=heap_lt (uh f562)
            have f569:=hide ((uh f557).keep b566)
            clear f557
            have f570:=hide ((uh f558).keep b566)
            clear f558
            have f571:=hide (((b566).block _ (heap_lt (uh f559))).trans (uh f559))
            clear f559
            have f572:=hide (((b566).block _ (heap_lt (uh f560))).trans (uh f560))
            clear f560
            have f573:=hide ((uh f561).keep b566)
            clear f561
            have f574:=hide (((b566).block _ (heap_lt (uh f562))).trans (uh f562))
            clear f562
            have f575:=hide ((uh f563).keep b566)
            clear f563
            have f576:=hide ((uh f564).keep b566)
            clear f564
            have f577:=hide (((b566).block _ (heap_lt (uh f555))).trans (uh f555))
            clear f555
            have f578:=hide b566n
            clear b566 b566n
            refine hK.out _ _ (KS _ R567) (fun hHeld=>?_)
            clear hK K
            refine wpAnyH_ready (rs:=[12]) (by kernel_rfl) (by simp) ?_
            refine AllReadyH.cons (o:=⟨none,.store 28 (.tmp 3) (.tmp 25),_,_,_,none⟩) rfl (fun K hK=>?_) ?_
            ·have z579g:U.heap.size≤w335.heap.size:=(R337).size
             obtain ⟨z579_0,z579_1,z579_2,z579_3,z579_4,z579_5,z579_6,z579_7⟩:=of8' (uh f574)
             have z579f:∀ o,World.frozen? w565 ⟨w335.heap.size,o,none⟩=false:=fun o=>frozen_free (uh f574)
             have z579l:=heap_lt (uh f574)
             go_simp
             refine hK.out _ _ (KS _ (set8_below (g:=w335.heap.size) R567 z579g (.int .i64 v568.kind) (.string v568.attr) (.slice v568.qi v568.ni v568.ci) (.slice v568.qw v568.nw v568.cw) (.int .i64 v568.lo) (.int .i64 v568.hi) (.int .i64 v568.op) (.slice v568.qk v568.nk v568.ck))) (fun hHeld=>?_)
             clear hK K
             refine wpAnyH_done (by kernel_rfl) ?_ _
             go_wp2
             go_meet
             case rel =>
               have q580g:U.heap.size≤w335.heap.size:=(R337).size
               have q580b:=set8_below (g:=w335.heap.size) R567 q580g (.int .i64 v568.kind) (.string v568.attr) (.slice v568.qi v568.ni v568.ci) (.slice v568.qw v568.nw v568.cw) (.int .i64 v568.lo) (.int .i64 v568.hi) (.int .i64 v568.op) (.slice v568.qk v568.nk v568.ck)
               refine ⟨w335.heap.size,v568,rfl,set8_blk (uh f574),q580b, ?_⟩
               exact ((uh f578).up (set8_up (g:=w335.heap.size) _ b566z (.int .i64 v568.kind) (.string v568.attr) (.slice v568.qi v568.ni v568.ci) (.slice v568.qw v568.nw v568.cw) (.int .i64 v568.lo) (.int .i64 v568.hi) (.int .i64 v568.op) (.slice v568.qk v568.nk v568.ck))).toIn
            exact AllReadyH.nil
           exact AllReadyH.nil
          exact AllReadyH.nil
         exact AllReadyH.nil
        exact AllReadyH.nil
       exact AllReadyH.nil
      refine AllReadyH.cons (o:=⟨some 3,.alloc 28,_,_,_,none⟩) rfl (fun K hK=>?_) ?_
      ·go_simp
       refine hK.out _ _ (KS _ ((R329).alloc (R329).size _)) (fun hHeld=>?_)
       clear hK K
       obtain ⟨V581,h584⟩:∃ V581,World.alloc V328 (.cells #[.int .i64 0,.string ⟨#[]⟩,.slice none 0 0,.slice none 0 0,.int .i64 0,.int .i64 0,.int .i64 0,.slice none 0 0] 28)=V581:=⟨_,rfl⟩
       rw [h584]
       have R582:Below U.heap.size U V581:=by rw [← h584];exact R329.alloc R329.size _
       have f583b:Below V328.heap.size V328 V581:=by rw [← h584];exact (Below.refl _ _).alloc (Nat.le_refl _) _
       have f583:=hide (nwb h584)
       have f585:=hide ((uh f332).keep f583b)
       clear f332
       have f586:=hide ((uh f333).keep f583b)
       clear f333
       have f587:=hide (((f583b).block _ (heap_lt (uh f334))).trans (uh f334))
       clear f334
       have f588:=hide (((f583b).block _ (heap_lt (uh f330))).trans (uh f330))
       clear f330
       clear h584 f583b
       refine wpAnyH_ready (rs:=[3]) (by kernel_rfl) (by simp) ?_
       refine AllReadyH.cons (o:=⟨some 18,.call { callee:=.value (.func 15),args:=#[.tmp 17],argTypes:=#[26] },_,_,_,none⟩) rfl (fun K hK=>?_) ?_
       ·go_simp
        refine (cOr TP TQ vp vq _ _ (uh f587) (uh f585) (uh f586) (by decide +kernel)).mono ?_
        rintro e w589 ⟨⟨v592,rfl,b590n⟩,b590⟩
        simp only [Nv.val]
        have R591:Below U.heap.size U w589:=below_sub R582 b590
        have b590z:=heap_lt (uh f583)
        have f593:=hide ((uh f585).keep b590)
        clear f585
        have f594:=hide ((uh f586).keep b590)
        clear f586
        have f595:=hide (((b590).block _ (heap_lt (uh f587))).trans (uh f587))
        clear f587
        have f596:=hide (((b590).block _ (heap_lt (uh f588))).trans (uh f588))
        clear f588
        have f597:=hide (((b590).block _ (heap_lt (uh f583))).trans (uh f583))
        clear f583
        have f598:=hide b590n
        clear b590 b590n
        refine hK.out _ _ (KS _ R591) (fun hHeld=>?_)
        clear hK K
        refine wpAnyH_ready (rs:=[7]) (by kernel_rfl) (by simp) ?_
        refine AllReadyH.cons (o:=⟨some 22,.call { callee:=.value (.func 14),args:=#[.tmp 21],argTypes:=#[26] },_,_,_,none⟩) rfl (fun K hK=>?_) ?_
        ·go_simp
         refine (cAnd TQ TP vq vp _ _ (uh f596) (uh f594) (uh f593) (by decide +kernel)).mono ?_
         rintro e w599 ⟨⟨v602,rfl,b600n⟩,b600⟩
         simp only [Nv.val]
         have R601:Below U.heap.size U w599:=below_sub R591 b600
         have b600z:=heap_lt (uh f597)
         have f603:=hide ((uh f593).keep b600)
         clear f593
         have f604:=hide ((uh f594).keep b600)
         clear f594
         have f605:=hide (((b600).block _ (heap_lt (uh f595))).trans (uh f595))
         clear f595
         have f606:=hide (((b600).block _ (heap_lt (uh f596))).trans (uh f596))
         clear f596
         have f607:=hide (((b600).block _ (heap_lt (uh f597))).trans (uh f597))
         clear f597
         have f608:=hide ((uh f598).keep b600)
         clear f598
         have f609:=hide b600n
         clear b600 b600n
         refine hK.out _ _ (KS _ R601) (fun hHeld=>?_)
         clear hK K
         refine wpAnyH_ready (rs:=[8]) (by kernel_rfl) (by simp) ?_
         refine AllReadyH.cons (o:=⟨some 23,.call { callee:=.value (.func 16),args:=#[.tmp 22],argTypes:=#[28] },_,_,_,none⟩) rfl (fun K hK=>?_) ?_
         ·go_simp
          refine (cNot (joinT 3 [TQ,TP]) v602 _ (uh f609).toIn (by decide +kernel)).mono ?_
          rintro e w610 ⟨⟨v613,rfl,b611n⟩,b611⟩
          simp only [Nv.val]
          have R612:Below U.heap.size U w610:=below_sub R601 b611
          have b611z:=heap_lt (uh f607)
          have f614:=hide ((uh f603).keep b611)
          clear f603
          have f615:=hide ((uh f604).keep b611)
          clear f604
          have f616:=hide (((b611).block _ (heap_lt (uh f605))).trans (uh f605))
          clear f605
          have f617:=hide (((b611).block _ (heap_lt (uh f606))).trans (uh f606))
          clear f606
          have f618:=hide (((b611).block _ (heap_lt (uh f607))).trans (uh f607))
          clear f607
          have f619:=hide ((uh f608).keep b611)
          clear f608
          have f620:=hide ((uh f609).keep b611)
          clear f609
          have f621:=hide b611n
          clear b611 b611n
          refine hK.out _ _ (KS _ R612) (fun hHeld=>?_)
          clear hK K
          refine wpAnyH_ready (rs:=[9]) (by kernel_rfl) (by simp) ?_
          refine AllReadyH.cons (o:=⟨some 24,.buildSlice 26 2 #[(0,.tmp 18),(1,.tmp 23)],_,_,_,none⟩) rfl (fun K hK=>?_) ?_
          ·go_simp
           refine hK.out _ _ (KS _ ((R612).alloc (R612).size _)) (fun hHeld=>?_)
           clear hK K
           obtain ⟨V622,h625⟩:∃ V622,World.alloc w610 (.cells #[.int .i64 v592.kind,.string v592.attr,.slice v592.qi v592.ni v592.ci,.slice v592.qw v592.nw v592.cw,.int .i64 v592.lo,.int .i64 v592.hi,.int .i64 v592.op,.slice v592.qk v592.nk v592.ck,.int .i64 v613.kind,.string v613.attr,.slice v613.qi v613.ni v613.ci,.slice v613.qw v613.nw v613.cw,.int .i64 v613.lo,.int .i64 v613.hi,.int .i64 v613.op,.slice v613.qk v613.nk v613.ck] 28)=V622:=⟨_,rfl⟩
           rw [h625]
           have R623:Below U.heap.size U V622:=by rw [← h625];exact R612.alloc R612.size _
           have f624b:Below w610.heap.size w610 V622:=by rw [← h625];exact (Below.refl _ _).alloc (Nat.le_refl _) _
           have f624:=hide (nwb h625)
           have f626:=hide ((uh f614).keep f624b)
           clear f614
           have f627:=hide ((uh f615).keep f624b)
           clear f615
           have f628:=hide (((f624b).block _ (heap_lt (uh f616))).trans (uh f616))
           clear f616
           have f629:=hide (((f624b).block _ (heap_lt (uh f617))).trans (uh f617))
           clear f617
           have f630:=hide (((f624b).block _ (heap_lt (uh f618))).trans (uh f618))
           clear f618
           have f631:=hide ((uh f619).keep f624b)
           clear f619
           have f632:=hide ((uh f620).keep f624b)
           clear f620
           have f633:=hide ((uh f621).keep f624b)
           clear f621
           clear h625 f624b
           refine wpAnyH_ready (rs:=[10]) (by kernel_rfl) (by simp) ?_
           refine AllReadyH.cons (o:=⟨some 25,.call { callee:=.value (.func 14),args:=#[.tmp 24],argTypes:=#[26] },_,_,_,none⟩) rfl (fun K hK=>?_) ?_
           ·go_simp
            refine (cAnd (joinT 4 [TP,TQ]) (notT (joinT 3 [TQ,TP])) v592 v613 _ _ (uh f624) (uh f631).toIn (uh f633).toIn (by decide +kernel)).mono ?_
            rintro e w634 ⟨⟨v637,rfl,b635n⟩,b635⟩
            simp only [Nv.val]
            have R636:Below U.heap.size U w634:=below_sub R623 b635
            have b635z:=heap_lt (uh f630)
            have f638:=hide ((uh f626).keep b635)
            clear f626
            have f639:=hide ((uh f627).keep b635)
            clear f627
            have f640:=hide (((b635).block _ (heap_lt (uh f628))).trans (uh f628))
            clear f628
            have f641:=hide (((b635).block _ (heap_lt (uh f629))).trans (uh f629))
            clear f629
            have f642:=hide (((b635).block _ (heap_lt (uh f630))).trans (uh f630))
            clear f630
            have f643:=hide ((uh f631).keep b635)
            clear f631
            have f644:=hide ((uh f632).keep b635)
            clear f632
            have f645:=hide ((uh f633).keep b635)
            clear f633
            have f646:=hide (((b635).block _ (heap_lt (uh f624))).trans (uh f624))
            clear f624
            have f647:=hide b635n
            clear b635 b635n
            refine hK.out _ _ (KS _ R636) (fun hHeld=>?_)
            clear hK K
            refine wpAnyH_ready (rs:=[12]) (by kernel_rfl) (by simp) ?_
            refine AllReadyH.cons (o:=⟨none,.store 28 (.tmp 3) (.tmp 25),_,_,_,none⟩) rfl (fun K hK=>?_) ?_
            ·have z648g:U.heap.size≤V328.heap.size:=(R329).size
             obtain ⟨z648_0,z648_1,z648_2,z648_3,z648_4,z648_5,z648_6,z648_7⟩:=of8' (uh f642)
             have z648f:∀ o,World.frozen? w634 ⟨V328.heap.size,o,none⟩=false:=fun o=>frozen_free (uh f642)
             have z648l:=heap_lt (uh f642)
             go_simp
             refine hK.out _ _ (KS _ (set8_below (g:=V328.heap.size) R636 z648g (.int .i64 v637.kind) (.string v637.attr) (.slice v637.qi v637.ni v637.ci) (.slice v637.qw v637.nw v637.cw) (.int .i64 v637.lo) (.int .i64 v637.hi) (.int .i64 v637.op) (.slice v637.qk v637.nk v637.ck))) (fun hHeld=>?_)
             clear hK K
             refine wpAnyH_done (by kernel_rfl) ?_ _
             go_wp2
             go_meet
             case rel =>
               have q649g:U.heap.size≤V328.heap.size:=(R329).size
               have q649b:=set8_below (g:=V328.heap.size) R636 q649g (.int .i64 v637.kind) (.string v637.attr) (.slice v637.qi v637.ni v637.ci) (.slice v637.qw v637.nw v637.cw) (.int .i64 v637.lo) (.int .i64 v637.hi) (.int .i64 v637.op) (.slice v637.qk v637.nk v637.ck)
               refine ⟨V328.heap.size,v637,rfl,set8_blk (uh f642),q649b, ?_⟩
               exact ((uh f647).up (set8_up (g:=V328.heap.size) _ b635z (.int .i64 v637.kind) (.string v637.attr) (.slice v637.qi v637.ni v637.ci) (.slice v637.qw v637.nw v637.cw) (.int .i64 v637.lo) (.int .i64 v637.hi) (.int .i64 v637.op) (.slice v637.qk v637.nk v637.ck))).toIn
            exact AllReadyH.nil
           exact AllReadyH.nil
          exact AllReadyH.nil
         exact AllReadyH.nil
        exact AllReadyH.nil
       exact AllReadyH.nil
      exact AllReadyH.nil
     refine AllReadyH.cons (o:=⟨some 3,.alloc 28,_,_,_,none⟩) rfl (fun K hK=>?_) ?_
     ·go_simp
      refine hK.out _ _ (KS _ ((R2).alloc (R2).size _)) (fun hHeld=>?_)
      clear hK K
      obtain ⟨V650,h653⟩:∃ V650,World.alloc V1 (.cells #[.int .i64 0,.string ⟨#[]⟩,.slice none 0 0,.slice none 0 0,.int .i64 0,.int .i64 0,.int .i64 0,.slice none 0 0] 28)=V650:=⟨_,rfl⟩
      rw [h653]
      have R651:Below U.heap.size U V650:=by rw [← h653];exact R2.alloc R2.size _
      have f652b:Below V1.heap.size V1 V650:=by rw [← h653];exact (Below.refl _ _).alloc (Nat.le_refl _) _
      have f652:=hide (nwb h653)
      have f654:=hide ((uh f5).keep f652b)
      clear f5
      have f655:=hide ((uh f6).keep f652b)
      clear f6
      have f656:=hide (((f652b).block _ (heap_lt (uh f3))).trans (uh f3))
      clear f3
      clear h653 f652b
      refine wpAnyH_ready (rs:=[3,6]) (by kernel_rfl) (by simp) ?_
      refine AllReadyH.cons (o:=⟨some 18,.call { callee:=.value (.func 15),args:=#[.tmp 17],argTypes:=#[26] },_,_,_,none⟩) rfl (fun K hK=>?_) ?_
      ·go_simp
       refine (cOr TP TQ vp vq _ _ (uh f656) (uh f654) (uh f655) (by decide +kernel)).mono ?_
       rintro e w657 ⟨⟨v660,rfl,b658n⟩,b658⟩
       simp only [Nv.val]
       have R659:Below U.heap.size U w657:=below_sub R651 b658
       have b658z:=heap_lt (uh f652)
       have f661:=hide ((uh f654).keep b658)
       clear f654
       have f662:=hide ((uh f655).keep b658)
       clear f655
       have f663:=hide (((b658).block _ (heap_lt (uh f656))).trans (uh f656))
       clear f656
       have f664:=hide (((b658).block _ (heap_lt (uh f652))).trans (uh f652))
       clear f652
       have f665:=hide b658n
       clear b658 b658n
       refine hK.out _ _ (KS _ R659) (fun hHeld=>?_)
       clear hK K
       refine wpAnyH_ready (rs:=[6]) (by kernel_rfl) (by simp) ?_
       refine AllReadyH.cons (o:=⟨some 21,.buildSlice 26 2 #[(0,.tmp 19),(1,.tmp 20)],_,_,_,none⟩) rfl (fun K hK=>?_) ?_
       ·go_simp
        refine hK.out _ _ (KS _ ((R659).alloc (R659).size _)) (fun hHeld=>?_)
        clear hK K
        obtain ⟨V666,h669⟩:∃ V666,World.alloc w657 (.cells #[.int .i64 vq.kind,.string vq.attr,.slice vq.qi vq.ni vq.ci,.slice vq.qw vq.nw vq.cw,.int .i64 vq.lo,.int .i64 vq.hi,.int .i64 vq.op,.slice vq.qk vq.nk vq.ck,.int .i64 vp.kind,.string vp.attr,.slice vp.qi vp.ni vp.ci,.slice vp.qw vp.nw vp.cw,.int .i64 vp.lo,.int .i64 vp.hi,.int .i64 vp.op,.slice vp.qk vp.nk vp.ck] 28)=V666:=⟨_,rfl⟩
        rw [h669]
        have R667:Below U.heap.size U V666:=by rw [← h669];exact R659.alloc R659.size _
        have f668b:Below w657.heap.size w657 V666:=by rw [← h669];exact (Below.refl _ _).alloc (Nat.le_refl _) _
        have f668:=hide (nwb h669)
        have f670:=hide ((uh f661).keep f668b)
        clear f661
        have f671:=hide ((uh f662).keep f668b)
        clear f662
        have f672:=hide (((f668b).block _ (heap_lt (uh f663))).trans (uh f663))
        clear f663
        have f673:=hide (((f668b).block _ (heap_lt (uh f664))).trans (uh f664))
        clear f664
        have f674:=hide ((uh f665).keep f668b)
        clear f665
        clear h669 f668b
        refine wpAnyH_ready (rs:=[7]) (by kernel_rfl) (by simp) ?_
        refine AllReadyH.cons (o:=⟨some 22,.call { callee:=.value (.func 14),args:=#[.tmp 21],argTypes:=#[26] },_,_,_,none⟩) rfl (fun K hK=>?_) ?_
        ·go_simp
         refine (cAnd TQ TP vq vp _ _ (uh f668) (uh f671) (uh f670) (by decide +kernel)).mono ?_
         rintro e w675 ⟨⟨v678,rfl,b676n⟩,b676⟩
         simp only [Nv.val]
         have R677:Below U.heap.size U w675:=below_sub R667 b676
         have b676z:=heap_lt (uh f673)
         have f679:=hide ((uh f670).keep b676)
         clear f670
         have f680:=hide ((uh f671).keep b676)
         clear f671
         have f681:=hide (((b676).block _ (heap_lt (uh f672))).trans (uh f672))
         clear f672
         have f682:=hide (((b676).block _ (heap_lt (uh f673))).trans (uh f673))
         clear f673
         have f683:=hide ((uh f674).keep b676)
         clear f674
         have f684:=hide (((b676).block _ (heap_lt (uh f668))).trans (uh f668))
         clear f668
         have f685:=hide b676n
         clear b676 b676n
         refine hK.out _ _ (KS _ R677) (fun hHeld=>?_)
         clear hK K
         refine wpAnyH_ready (rs:=[8]) (by kernel_rfl) (by simp) ?_
         refine AllReadyH.cons (o:=⟨some 23,.call { callee:=.value (.func 16),args:=#[.tmp 22],argTypes:=#[28] },_,_,_,none⟩) rfl (fun K hK=>?_) ?_
         ·go_simp
          refine (cNot (joinT 3 [TQ,TP]) v678 _ (uh f685).toIn (by decide +kernel)).mono ?_
          rintro e w686 ⟨⟨v689,rfl,b687n⟩,b687⟩
          simp only [Nv.val]
          have R688:Below U.heap.size U w686:=below_sub R677 b687
          have b687z:=heap_lt (uh f682)
          have f690:=hide ((uh f679).keep b687)
          clear f679
          have f691:=hide ((uh f680).keep b687)
          clear f680
          have f692:=hide (((b687).block _ (heap_lt (uh f681))).trans (uh f681))
          clear f681
          have f693:=hide (((b687).block _ (heap_lt (uh f682))).trans (uh f682))
          clear f682
          have f694:=hide ((uh f683).keep b687)
          clear f683
          have f695:=hide (((b687).block _ (heap_lt (uh f684))).trans (uh f684))
          clear f684
          have f696:=hide ((uh f685).keep b687)
          clear f685
          have f697:=hide b687n
          clear b687 b687n
          refine hK.out _ _ (KS _ R688) (fun hHeld=>?_)
          clear hK K
          refine wpAnyH_ready (rs:=[9]) (by kernel_rfl) (by simp) ?_
          refine AllReadyH.cons (o:=⟨some 24,.buildSlice 26 2 #[(0,.tmp 18),(1,.tmp 23)],_,_,_,none⟩) rfl (fun K hK=>?_) ?_
          ·go_simp
           refine hK.out _ _ (KS _ ((R688).alloc (R688).size _)) (fun hHeld=>?_)
           clear hK K
           obtain ⟨V698,h701⟩:∃ V698,World.alloc w686 (.cells #[.int .i64 v660.kind,.string v660.attr,.slice v660.qi v660.ni v660.ci,.slice v660.qw v660.nw v660.cw,.int .i64 v660.lo,.int .i64 v660.hi,.int .i64 v660.op,.slice v660.qk v660.nk v660.ck,.int .i64 v689.kind,.string v689.attr,.slice v689.qi v689.ni v689.ci,.slice v689.qw v689.nw v689.cw,.int .i64 v689.lo,.int .i64 v689.hi,.int .i64 v689.op,.slice v689.qk v689.nk v689.ck] 28)=V698:=⟨_,rfl⟩
           rw [h701]
           have R699:Below U.heap.size U V698:=by rw [← h701];exact R688.alloc R688.size _
           have f700b:Below w686.heap.size w686 V698:=by rw [← h701];exact (Below.refl _ _).alloc (Nat.le_refl _) _
           have f700:=hide (nwb h701)
           have f702:=hide ((uh f690).keep f700b)
           clear f690
           have f703:=hide ((uh f691).keep f700b)
           clear f691
           have f704:=hide (((f700b).block _ (heap_lt (uh f692))).trans (uh f692))
           clear f692
           have f705:=hide (((f700b).block _ (heap_lt (uh f693))).trans (uh f693))
           clear f693
           have f706:=hide ((uh f694).keep f700b)
           clear f694
           have f707:=hide (((f700b).block _ (heap_lt (uh f695))).trans (uh f695))
           clear f695
           have f708:=hide ((uh f696).keep f700b)
           clear f696
           have f709:=hide ((uh f697).keep f700b)
           clear f697
           clear h701 f700b
           refine wpAnyH_ready (rs:=[10]) (by kernel_rfl) (by simp) ?_
           refine AllReadyH.cons (o:=⟨some 25,.call { callee:=.value (.func 14),args:=#[.tmp 24],argTypes:=#[26] },_,_,_,none⟩) rfl (fun K hK=>?_) ?_
           ·go_simp
            refine (cAnd (joinT 4 [TP,TQ]) (notT (joinT 3 [TQ,TP])) v660 v689 _ _ (uh f700) (uh f706).toIn (uh f709).toIn (by decide +kernel)).mono ?_
            rintro e w710 ⟨⟨v713,rfl,b711n⟩,b711⟩
            simp only [Nv.val]
            have R712:Below U.heap.size U w710:=below_sub R699 b711
            have b711z:=heap_lt (uh f705)
            have f714:=hide ((uh f702).keep b711)
            clear f702
            have f715:=hide ((uh f703).keep b711)
            clear f703
            have f716:=hide (((b711).block _ (heap_lt (uh f704))).trans (uh f704))
            clear f704
            have f717:=hide (((b711).block _ (heap_lt (uh f705))).trans (uh f705))
            clear f705
            have f718:=hide ((uh f706).keep b711)
            clear f706
            have f719:=hide (((b711).block _ (heap_lt (uh f707))).trans (uh f707))
            clear f707
            have f720:=hide ((uh f708).keep b711)
            clear f708
            have f721:=hide ((uh f709).keep b711)
            clear f709
            have f722:=hide (((b711).block _ (heap_lt (uh f700))).trans (uh f700))
            clear f700
            have f723:=hide b711n
            clear b711 b711n
            refine hK.out _ _ (KS _ R712) (fun hHeld=>?_)
            clear hK K
            refine wpAnyH_ready (rs:=[12]) (by kernel_rfl) (by simp) ?_
            refine AllReadyH.cons (o:=⟨none,.store 28 (.tmp 3) (.tmp 25),_,_,_,none⟩) rfl (fun K hK=>?_) ?_
            ·have z724g:U.heap.size≤V1.heap.size:=(R2).size
             obtain ⟨z724_0,z724_1,z724_2,z724_3,z724_4,z724_5,z724_6,z724_7⟩:=of8' (uh f717)
             have z724f:∀ o,World.frozen? w710 ⟨V1.heap.size,o,none⟩=false:=fun o=>frozen_free (uh f717)
             have z724l:=heap_lt (uh f717)
             go_simp
             refine hK.out _ _ (KS _ (set8_below (g:=V1.heap.size) R712 z724g (.int .i64 v713.kind) (.string v713.attr) (.slice v713.qi v713.ni v713.ci) (.slice v713.qw v713.nw v713.cw) (.int .i64 v713.lo) (.int .i64 v713.hi) (.int .i64 v713.op) (.slice v713.qk v713.nk v713.ck))) (fun hHeld=>?_)
             clear hK K
             refine wpAnyH_done (by kernel_rfl) ?_ _
             go_wp2
             go_meet
             case rel =>
               have q725g:U.heap.size≤V1.heap.size:=(R2).size
               have q725b:=set8_below (g:=V1.heap.size) R712 q725g (.int .i64 v713.kind) (.string v713.attr) (.slice v713.qi v713.ni v713.ci) (.slice v713.qw v713.nw v713.cw) (.int .i64 v713.lo) (.int .i64 v713.hi) (.int .i64 v713.op) (.slice v713.qk v713.nk v713.ck)
               refine ⟨V1.heap.size,v713,rfl,set8_blk (uh f717),q725b, ?_⟩
               exact ((uh f723).up (set8_up (g:=V1.heap.size) _ b711z (.int .i64 v713.kind) (.string v713.attr) (.slice v713.qi v713.ni v713.ci) (.slice v713.qw v713.nw v713.cw) (.int .i64 v713.lo) (.int .i64 v713.hi) (.int .i64 v713.op) (.slice v713.qk v713.nk v713.ck))).toIn
            exact AllReadyH.nil
           exact AllReadyH.nil
          exact AllReadyH.nil
         exact AllReadyH.nil
        exact AllReadyH.nil
       exact AllReadyH.nil
      refine AllReadyH.cons (o:=⟨some 21,.buildSlice 26 2 #[(0,.tmp 19),(1,.tmp 20)],_,_,_,none⟩) rfl (fun K hK=>?_) ?_
      ·go_simp
       refine hK.out _ _ (KS _ ((R651).alloc (R651).size _)) (fun hHeld=>?_)
       clear hK K
       obtain ⟨V726,h729⟩:∃ V726,World.alloc V650 (.cells #[.int .i64 vq.kind,.string vq.attr,.slice vq.qi vq.ni vq.ci,.slice vq.qw vq.nw vq.cw,.int .i64 vq.lo,.int .i64 vq.hi,.int .i64 vq.op,.slice vq.qk vq.nk vq.ck,.int .i64 vp.kind,.string vp.attr,.slice vp.qi vp.ni vp.ci,.slice vp.qw vp.nw vp.cw,.int .i64 vp.lo,.int .i64 vp.hi,.int .i64 vp.op,.slice vp.qk vp.nk vp.ck] 28)=V726:=⟨_,rfl⟩
       rw [h729]
       have R727:Below U.heap.size U V726:=by rw [← h729];exact R651.alloc R651.size _
       have f728b:Below V650.heap.size V650 V726:=by rw [← h729];exact (Below.refl _ _).alloc (Nat.le_refl _) _
       have f728:=hide (nwb h729)
       have f730:=hide ((uh f654).keep f728b)
       clear f654
       have f731:=hide ((uh f655).keep f728b)
       clear f655
       have f732:=hide (((f728b).block _ (heap_lt (uh f656))).trans (uh f656))
       clear f656
       have f733:=hide (((f728b).block _ (heap_lt (uh f652))).trans (uh f652))
       clear f652
       clear h729 f728b
       refine wpAnyH_ready (rs:=[3]) (by kernel_rfl) (by simp) ?_
       refine AllReadyH.cons (o:=⟨some 18,.call { callee:=.value (.func 15),args:=#[.tmp 17],argTypes:=#[26] },_,_,_,none⟩) rfl (fun K hK=>?_) ?_
       ·go_simp
        refine (cOr TP TQ vp vq _ _ (uh f732) (uh f730) (uh f731) (by decide +kernel)).mono ?_
        rintro e w734 ⟨⟨v737,rfl,b735n⟩,b735⟩
        simp only [Nv.val]
        have R736:Below U.heap.size U w734:=below_sub R727 b735
        have b735z:=heap_lt (uh f733)
        have f738:=hide ((uh f730).keep b735)
        clear f730
        have f739:=hide ((uh f731).keep b735)
        clear f731
        have f740:=hide (((b735).block _ (heap_lt (uh f732))).trans (uh f732))
        clear f732
        have f741:=hide (((b735).block _ (heap_lt (uh f733))).trans (uh f733))
        clear f733
        have f742:=hide (((b735).block _ (heap_lt (uh f728))).trans (uh f728))
        clear f728
        have f743:=hide b735n
        clear b735 b735n
        refine hK.out _ _ (KS _ R736) (fun hHeld=>?_)
        clear hK K
        refine wpAnyH_ready (rs:=[7]) (by kernel_rfl) (by simp) ?_
        refine AllReadyH.cons (o:=⟨some 22,.call { callee:=.value (.func 14),args:=#[.tmp 21],argTypes:=#[26] },_,_,_,none⟩) rfl (fun K hK=>?_) ?_
        ·go_simp
         refine (cAnd TQ TP vq vp _ _ (uh f742) (uh f739) (uh f738) (by decide +kernel)).mono ?_
         rintro e w744 ⟨⟨v747,rfl,b745n⟩,b745⟩
         simp only [Nv.val]
         have R746:Below U.heap.size U w744:=below_sub R736 b745
         have b745z:=heap_lt (uh f741)
         have f748:=hide ((uh f738).keep b745)
         clear f738
         have f749:=hide ((uh f739).keep b745)
         clear f739
         have f750:=hide (((b745).block _ (heap_lt (uh f740))).trans (uh f740))
         clear f740
         have f751:=hide (((b745).block _ (heap_lt (uh f741))).trans (uh f741))
         clear f741
         have f752:=hide (((b745).block _ (heap_lt (uh f742))).trans (uh f742))
         clear f742
         have f753:=hide ((uh f743).keep b745)
         clear f743
         have f754:=hide b745n
         clear b745 b745n
         refine hK.out _ _ (KS _ R746) (fun hHeld=>?_)
         clear hK K
         refine wpAnyH_ready (rs:=[8]) (by kernel_rfl) (by simp) ?_
         refine AllReadyH.cons (o:=⟨some 23,.call { callee:=.value (.func 16),args:=#[.tmp 22],argTypes:=#[28] },_,_,_,none⟩) rfl (fun K hK=>?_) ?_
         ·go_simp
          refine (cNot (joinT 3 [TQ,TP]) v747 _ (uh f754).toIn (by decide +kernel)).mono ?_
          rintro e w755 ⟨⟨v758,rfl,b756n⟩,b756⟩
          simp only [Nv.val]
          have R757:Below U.heap.size U w755:=below_sub R746 b756
          have b756z:=heap_lt (uh f751)
          have f759:=hide ((uh f748).keep b756)
          clear f748
          have f760:=hide ((uh f749).keep b756)
          clear f749
          have f761:=hide (((b756).block _ (heap_lt (uh f750))).trans (uh f750))
          clear f750
          have f762:=hide (((b756).block _ (heap_lt (uh f751))).trans (uh f751))
          clear f751
          have f763:=hide (((b756).block _ (heap_lt (uh f752))).trans (uh f752))
          clear f752
          have f764:=hide ((uh f753).keep b756)
          clear f753
          have f765:=hide ((uh f754).keep b756)
          clear f754
          have f766:=hide b756n
          clear b756 b756n
          refine hK.out _ _ (KS _ R757) (fun hHeld=>?_)
          clear hK K
          refine wpAnyH_ready (rs:=[9]) (by kernel_rfl) (by simp) ?_
          refine AllReadyH.cons (o:=⟨some 24,.buildSlice 26 2 #[(0,.tmp 18),(1,.tmp 23)],_,_,_,none⟩) rfl (fun K hK=>?_) ?_
          ·go_simp
           refine hK.out _ _ (KS _ ((R757).alloc (R757).size _)) (fun hHeld=>?_)
           clear hK K
           obtain ⟨V767,h770⟩:∃ V767,World.alloc w755 (.cells #[.int .i64 v737.kind,.string v737.attr,.slice v737.qi v737.ni v737.ci,.slice v737.qw v737.nw v737.cw,.int .i64 v737.lo,.int .i64 v737.hi,.int .i64 v737.op,.slice v737.qk v737.nk v737.ck,.int .i64 v758.kind,.string v758.attr,.slice v758.qi v758.ni v758.ci,.slice v758.qw v758.nw v758.cw,.int .i64 v758.lo,.int .i64 v758.hi,.int .i64 v758.op,.slice v758.qk v758.nk v758.ck] 28)=V767:=⟨_,rfl⟩
           rw [h770]
           have R768:Below U.heap.size U V767:=by rw [← h770];exact R757.alloc R757.size _
           have f769b:Below w755.heap.size w755 V767:=by rw [← h770];exact (Below.refl _ _).alloc (Nat.le_refl _) _
           have f769:=hide (nwb h770)
           have f771:=hide ((uh f759).keep f769b)
           clear f759
           have f772:=hide ((uh f760).keep f769b)
           clear f760
           have f773:=hide (((f769b).block _ (heap_lt (uh f761))).trans (uh f761))
           clear f761
           have f774:=hide (((f769b).block _ (heap_lt (uh f762))).trans (uh f762))
           clear f762
           have f775:=hide (((f769b).block _ (heap_lt (uh f763))).trans (uh f763))
           clear f763
           have f776:=hide ((uh f764).keep f769b)
           clear f764
           have f777:=hide ((uh f765).keep f769b)
           clear f765
           have f778:=hide ((uh f766).keep f769b)
           clear f766
           clear h770 f769b
           refine wpAnyH_ready (rs:=[10]) (by kernel_rfl) (by simp) ?_
           refine AllReadyH.cons (o:=⟨some 25,.call { callee:=.value (.func 14),args:=#[.tmp 24],argTypes:=#[26] },_,_,_,none⟩) rfl (fun K hK=>?_) ?_
           ·go_simp
            refine (cAnd (joinT 4 [TP,TQ]) (notT (joinT 3 [TQ,TP])) v737 v758 _ _ (uh f769) (uh f776).toIn (uh f778).toIn (by decide +kernel)).mono ?_
            rintro e w779 ⟨⟨v782,rfl,b780n⟩,b780⟩
            simp only [Nv.val]
            have R781:Below U.heap.size U w779:=below_sub R768 b780
            have b780z:=heap_lt (uh f774)
            have f783:=hide ((uh f771).keep b780)
            clear f771
            have f784:=hide ((uh f772).keep b780)
            clear f772
            have f785:=hide (((b780).block _ (heap_lt (uh f773))).trans (uh f773))
            clear f773
            have f786:=hide (((b780).block _ (heap_lt (uh f774))).trans (uh f774))
            clear f774
            have f787:=hide (((b780).block _ (heap_lt (uh f775))).trans (uh f775))
            clear f775
            have f788:=hide ((uh f776).keep b780)
            clear f776
            have f789:=hide ((uh f777).keep b780)
            clear f777
            have f790:=hide ((uh f778).keep b780)
            clear f778
            have f791:=hide (((b780).block _ (heap_lt (uh f769))).trans (uh f769))
            clear f769
            have f792:=hide b780n
            clear b780 b780n
            refine hK.out _ _ (KS _ R781) (fun hHeld=>?_)
            clear hK K
            refine wpAnyH_ready (rs:=[12]) (by kernel_rfl) (by simp) ?_
            refine AllReadyH.cons (o:=⟨none,.store 28 (.tmp 3) (.tmp 25),_,_,_,none⟩) rfl (fun K hK=>?_) ?_
            ·have z793g:U.heap.size≤V1.heap.size:=(R2).size
             obtain ⟨z793_0,z793_1,z793_2,z793_3,z793_4,z793_5,z793_6,z793_7⟩:=of8' (uh f786)
             have z793f:∀ o,World.frozen? w779 ⟨V1.heap.size,o,none⟩=false:=fun o=>frozen_free (uh f786)
             have z793l:=heap_lt (uh f786)
             go_simp
             refine hK.out _ _ (KS _ (set8_below (g:=V1.heap.size) R781 z793g (.int .i64 v782.kind) (.string v782.attr) (.slice v782.qi v782.ni v782.ci) (.slice v782.qw v782.nw v782.cw) (.int .i64 v782.lo) (.int .i64 v782.hi) (.int .i64 v782.op) (.slice v782.qk v782.nk v782.ck))) (fun hHeld=>?_)
             clear hK K
             refine wpAnyH_done (by kernel_rfl) ?_ _
             go_wp2
             go_meet
             case rel =>
               have q794g:U.heap.size≤V1.heap.size:=(R2).size
               have q794b:=set8_below (g:=V1.heap.size) R781 q794g (.int .i64 v782.kind) (.string v782.attr) (.slice v782.qi v782.ni v782.ci) (.slice v782.qw v782.nw v782.cw) (.int .i64 v782.lo) (.int .i64 v782.hi) (.int .i64 v782.op) (.slice v782.qk v782.nk v782.ck)
               refine ⟨V1.heap.size,v782,rfl,set8_blk (uh f786),q794b, ?_⟩
               exact ((uh f792).up (set8_up (g:=V1.heap.size) _ b780z (.int .i64 v782.kind) (.string v782.attr) (.slice v782.qi v782.ni v782.ci) (.slice v782.qw v782.nw v782.cw) (.int .i64 v782.lo) (.int .i64 v782.hi) (.int .i64 v782.op) (.slice v782.qk v782.nk v782.ck))).toIn
            exact AllReadyH.nil
           exact AllReadyH.nil
          exact AllReadyH.nil
         exact AllReadyH.nil
        exact AllReadyH.nil
       exact AllReadyH.nil
      exact AllReadyH.nil
     exact AllReadyH.nil
    refine AllReadyH.cons (o:=⟨some 21,.buildSlice 26 2 #[(0,.tmp 19),(1,.tmp 20)],_,_,_,none⟩) rfl (fun K hK=>?_) ?_
    ·go_simp
     refine hK.out _ _ (KS _ ((Below.refl _ _).alloc (Nat.le_refl _) _).drew) (fun hHeld=>?_)
     clear hK K
     obtain ⟨V795,h798⟩:∃ V795,(World.alloc U (.cells #[.int .i64 vq.kind,.string vq.attr,.slice vq.qi vq.ni vq.ci,.slice vq.qw vq.nw vq.cw,.int .i64 vq.lo,.int .i64 vq.hi,.int .i64 vq.op,.slice vq.qk vq.nk vq.ck,.int .i64 vp.kind,.string vp.attr,.slice vp.qi vp.ni vp.ci,.slice vp.qw vp.nw vp.cw,.int .i64 vp.lo,.int .i64 vp.hi,.int .i64 vp.op,.slice vp.qk vp.nk vp.ck] 28)).drew=V795:=⟨_,rfl⟩
     rw [h798]
     have R796:Below U.heap.size U V795:=by rw [← h798];exact (show Below U.heap.size U (World.alloc U.drew (.cells #[.int .i64 vq.kind,.string vq.attr,.slice vq.qi vq.ni vq.ci,.slice vq.qw vq.nw vq.cw,.int .i64 vq.lo,.int .i64 vq.hi,.int .i64 vq.op,.slice vq.qk vq.nk vq.ck,.int .i64 vp.kind,.string vp.attr,.slice vp.qi vp.ni vp.ci,.slice vp.qw vp.nw vp.cw,.int .i64 vp.lo,.int .i64 vp.hi,.int .i64 vp.op,.slice vp.qk vp.nk vp.ck] 28)) from (R0).alloc (R0).size _)
     have f797b:Below U.drew.heap.size U.drew V795:=by rw [← h798];exact (show Below U.drew.heap.size U.drew (World.alloc U.drew (.cells #[.int .i64 vq.kind,.string vq.attr,.slice vq.qi vq.ni vq.ci,.slice vq.qw vq.nw vq.cw,.int .i64 vq.lo,.int .i64 vq.hi,.int .i64 vq.op,.slice vq.qk vq.nk vq.ck,.int .i64 vp.kind,.string vp.attr,.slice vp.qi vp.ni vp.ci,.slice vp.qw vp.nw vp.cw,.int .i64 vp.lo,.int .i64 vp.hi,.int .i64 vp.op,.slice vp.qk vp.nk vp.ck] 28)) from (Below.refl _ _).alloc (Nat.le_refl _) _)
     have f797:=hide (show V795.heap[U.heap.size]? = some (.cells #[.int .i64 vq.kind,.string vq.attr,.slice vq.qi vq.ni vq.ci,.slice vq.qw vq.nw vq.cw,.int .i64 vq.lo,.int .i64 vq.hi,.int .i64 vq.op,.slice vq.qk vq.nk vq.ck,.int .i64 vp.kind,.string vp.attr,.slice vp.qi vp.ni vp.ci,.slice vp.qw vp.nw vp.cw,.int .i64 vp.lo,.int .i64 vp.hi,.int .i64 vp.op,.slice vp.qk vp.nk vp.ck] 28 (0,0)) by rw [← h798];exact box_nw _ _)
     have f799:=hide ((uh HP0).keep f797b)
     clear HP0
     have f800:=hide ((uh HQ0).keep f797b)
     clear HQ0
     clear h798 f797b
     refine wpAnyH_ready (rs:=[2,11]) (by kernel_rfl) (by simp) ?_
     refine AllReadyH.cons (o:=⟨some 17,.buildSlice 26 2 #[(0,.tmp 15),(1,.tmp 16)],_,_,_,none⟩) rfl (fun K hK=>?_) ?_
     ·go_simp
      refine hK.out _ _ (KS _ ((R796).alloc (R796).size _)) (fun hHeld=>?_)
      clear hK K
      obtain ⟨V801,h804⟩:∃ V801,World.alloc V795 (.cells #[.int .i64 vp.kind,.string vp.attr,.slice vp.qi vp.ni vp.ci,.slice vp.qw vp.nw vp.cw,.int .i64 vp.lo,.int .i64 vp.hi,.int .i64 vp.op,.slice vp.qk vp.nk vp.ck,.int .i64 vq.kind,.string vq.attr,.slice vq.qi vq.ni vq.ci,.slice vq.qw vq.nw vq.cw,.int .i64 vq.lo,.int .i64 vq.hi,.int .i64 vq.op,.slice vq.qk vq.nk vq.ck] 28)=V801:=⟨_,rfl⟩
      rw [h804]
      have R802:Below U.heap.size U V801:=by rw [← h804];exact R796.alloc R796.size _
      have f803b:Below V795.heap.size V795 V801:=by rw [← h804];exact (Below.refl _ _).alloc (Nat.le_refl _) _
      have f803:=hide (nwb h804)
      have f805:=hide ((uh f799).keep f803b)
      clear f799
      have f806:=hide ((uh f800).keep f803b)
      clear f800
      have f807:=hide (((f803b).block _ (heap_lt (uh f797))).trans (uh f797))
      clear f797
      clear h804 f803b
      refine wpAnyH_ready (rs:=[3,11]) (by kernel_rfl) (by simp) ?_
      refine AllReadyH.cons (o:=⟨some 18,.call { callee:=.value (.func 15),args:=#[.tmp 17],argTypes:=#[26] },_,_,_,none⟩) rfl (fun K hK=>?_) ?_
      ·go_simp
       refine (cOr TP TQ vp vq _ _ (uh f803) (uh f805) (uh f806) (by decide +kernel)).mono ?_
       rintro e w808 ⟨⟨v811,rfl,b809n⟩,b809⟩
       simp only [Nv.val]
       have R810:Below U.heap.size U w808:=below_sub R802 b809
       have f812:=hide ((uh f805).keep b809)
       clear f805
       have f813:=hide ((uh f806).keep b809)
       clear f806
       have f814:=hide (((b809).block _ (heap_lt (uh f807))).trans (uh f807))
       clear f807
       have f815:=hide (((b809).block _ (heap_lt (uh f803))).trans (uh f803))
       clear f803
       have f816:=hide b809n
       clear b809 b809n
       refine hK.out _ _ (KS _ R810) (fun hHeld=>?_)
       clear hK K
       refine wpAnyH_ready (rs:=[7,11]) (by kernel_rfl) (by simp) ?_
       refine AllReadyH.cons (o:=⟨some 22,.call { callee:=.value (.func 14),args:=#[.tmp 21],argTypes:=#[26] },_,_,_,none⟩) rfl (fun K hK=>?_) ?_
       ·go_simp
        refine (cAnd TQ TP vq vp _ _ (uh f814) (uh f813) (uh f812) (by decide +kernel)).mono ?_
        rintro e w817 ⟨⟨v820,rfl,b818n⟩,b818⟩
        simp only [Nv.val]
        have R819:Below U.heap.size U w817:=below_sub R810 b818
        have f821:=hide ((uh f812).keep b818)
        clear f812
        have f822:=hide ((uh f813).keep b818)
        clear f813
        have f823:=hide (((b818).block _ (heap_lt (uh f814))).trans (uh f814))
        clear f814
        have f824:=hide (((b818).block _ (heap_lt (uh f815))).trans (uh f815))
        clear f815
        have f825:=hide ((uh f816).keep b818)
        clear f816
        have f826:=hide b818n
        clear b818 b818n
        refine hK.out _ _ (KS _ R819) (fun hHeld=>?_)
        clear hK K
        refine wpAnyH_ready (rs:=[8,11]) (by kernel_rfl) (by simp) ?_
        refine AllReadyH.cons (o:=⟨some 23,.call { callee:=.value (.func 16),args:=#[.tmp 22],argTypes:=#[28] },_,_,_,none⟩) rfl (fun K hK=>?_) ?_
        ·go_simp
         refine (cNot (joinT 3 [TQ,TP]) v820 _ (uh f826).toIn (by decide +kernel)).mono ?_
         rintro e w827 ⟨⟨v830,rfl,b828n⟩,b828⟩
         simp only [Nv.val]
         have R829:Below U.heap.size U w827:=below_sub R819 b828
         have f831:=hide ((uh f821).keep b828)
         clear f821
         have f832:=hide ((uh f822).keep b828)
         clear f822
         have f833:=hide (((b828).block _ (heap_lt (uh f823))).trans (uh f823))
         clear f823
         have f834:=hide (((b828).block _ (heap_lt (uh f824))).trans (uh f824))
         clear f824
         have f835:=hide ((uh f825).keep b828)
         clear f825
         have f836:=hide ((uh f826).keep b828)
         clear f826
         have f837:=hide b828n
         clear b828 b828n
         refine hK.out _ _ (KS _ R829) (fun hHeld=>?_)
         clear hK K
         refine wpAnyH_ready (rs:=[9,11]) (by kernel_rfl) (by simp) ?_
         refine AllReadyH.cons (o:=⟨some 24,.buildSlice 26 2 #[(0,.tmp 18),(1,.tmp 23)],_,_,_,none⟩) rfl (fun K hK=>?_) ?_
         ·go_simp
          refine hK.out _ _ (KS _ ((R829).alloc (R829).size _)) (fun hHeld=>?_)
          clear hK K
          obtain ⟨V838,h841⟩:∃ V838,World.alloc w827 (.cells #[.int .i64 v811.kind,.string v811.attr,.slice v811.qi v811.ni v811.ci,.slice v811.qw v811.nw v811.cw,.int .i64 v811.lo,.int .i64 v811.hi,.int .i64 v811.op,.slice v811.qk v811.nk v811.ck,.int .i64 v830.kind,.string v830.attr,.slice v830.qi v830.ni v830.ci,.slice v830.qw v830.nw v830.cw,.int .i64 v830.lo,.int .i64 v830.hi,.int .i64 v830.op,.slice v830.qk v830.nk v830.ck] 28)=V838:=⟨_,rfl⟩
          rw [h841]
          have R839:Below U.heap.size U V838:=by rw [← h841];exact R829.alloc R829.size _
          have f840b:Below w827.heap.size w827 V838:=by rw [← h841];exact (Below.refl _ _).alloc (Nat.le_refl _) _
          have f840:=hide (nwb h841)
          have f842:=hide ((uh f831).keep f840b)
          clear f831
          have f843:=hide ((uh f832).keep f840b)
          clear f832
          have f844:=hide (((f840b).block _ (heap_lt (uh f833))).trans (uh f833))
          clear f833
          have f845:=hide (((f840b).block _ (heap_lt (uh f834))).trans (uh f834))
          clear f834
          have f846:=hide ((uh f835).keep f840b)
          clear f835
          have f847:=hide ((uh f836).keep f840b)
          clear f836
          have f848:=hide ((uh f837).keep f840b)
          clear f837
          clear h841 f840b
          refine wpAnyH_ready (rs:=[10,11]) (by kernel_rfl) (by simp) ?_
          refine AllReadyH.cons (o:=⟨some 25,.call { callee:=.value (.func 14),args:=#[.tmp 24],argTypes:=#[26] },_,_,_,none⟩) rfl (fun K hK=>?_) ?_
          ·go_simp
           refine (cAnd (joinT 4 [TP,TQ]) (notT (joinT 3 [TQ,TP])) v811 v830 _ _ (uh f840) (uh f846).toIn (uh f848).toIn (by decide +kernel)).mono ?_
           rintro e w849 ⟨⟨v852,rfl,b850n⟩,b850⟩
           simp only [Nv.val]
           have R851:Below U.heap.size U w849:=below_sub R839 b850
           have f853:=hide ((uh f842).keep b850)
           clear f842
           have f854:=hide ((uh f843).keep b850)
           clear f843
           have f855:=hide (((b850).block _ (heap_lt (uh f844))).trans (uh f844))
           clear f844
           have f856:=hide (((b850).block _ (heap_lt (uh f845))).trans (uh f845))
           clear f845
           have f857:=hide ((uh f846).keep b850)
           clear f846
           have f858:=hide ((uh f847).keep b850)
           clear f847
           have f859:=hide ((uh f848).keep b850)
           clear f848
           have f860:=hide (((b850).block _ (heap_lt (uh f840))).trans (uh f840))
           clear f840
           have f861:=hide b850n
           clear b850 b850n
           refine hK.out _ _ (KS _ R851) (fun hHeld=>?_)
           clear hK K
           refine wpAnyH_ready (rs:=[11]) (by kernel_rfl) (by simp) ?_
           refine AllReadyH.cons (o:=⟨some 3,.alloc 28,_,_,_,none⟩) rfl (fun K hK=>?_) ?_
           ·go_simp
            refine hK.out _ _ (KS _ ((R851).alloc (R851).size _)) (fun hHeld=>?_)
            clear hK K
            obtain ⟨V862,h865⟩:∃ V862,World.alloc w849 (.cells #[.int .i64 0,.string ⟨#[]⟩,.slice none 0 0,.slice none 0 0,.int .i64 0,.int .i64 0,.int .i64 0,.slice none 0 0] 28)=V862:=⟨_,rfl⟩
            rw [h865]
            have R863:Below U.heap.size U V862:=by rw [← h865];exact R851.alloc R851.size _
            have f864b:Below w849.heap.size w849 V862:=by rw [← h865];exact (Below.refl _ _).alloc (Nat.le_refl _) _
            have f864:=hide (nwb h865)
            have zm:=f861
            have zb:=hide f864b
            have f866:=hide ((uh f853).keep f864b)
            clear f853
            have f867:=hide ((uh f854).keep f864b)
            clear f854
            have f868:=hide (((f864b).block _ (heap_lt (uh f855))).trans (uh f855))
            clear f855
            have f869:=hide (((f864b).block _ (heap_lt (uh f856))).trans (uh f856))
            clear f856
            have f870:=hide ((uh f857).keep f864b)
            clear f857
            have f871:=hide ((uh f858).keep f864b)
            clear f858
            have f872:=hide ((uh f859).keep f864b)
            clear f859
            have f873:=hide (((f864b).block _ (heap_lt (uh f860))).trans (uh f860))
            clear f860
            have f874:=hide ((uh f861).keep f864b)
            clear h865 f864b
            refine wpAnyH_ready (rs:=[12]) (by kernel_rfl) (by simp) ?_
            refine AllReadyH.cons (o:=⟨none,.store 28 (.tmp 3) (.tmp 25),_,_,_,none⟩) rfl (fun K hK=>?_) ?_
            ·have z875g:U.heap.size≤w849.heap.size:=(R851).size
             obtain ⟨z875_0,z875_1,z875_2,z875_3,z875_4,z875_5,z875_6,z875_7⟩:=of8' (uh f864)
             have z875f:∀ o,World.frozen? V862 ⟨w849.heap.size,o,none⟩=false:=fun o=>frozen_free (uh f864)
             have z875l:=heap_lt (uh f864)
             go_simp
             refine hK.out _ _ (KS _ (set8_below (g:=w849.heap.size) R863 z875g (.int .i64 v852.kind) (.string v852.attr) (.slice v852.qi v852.ni v852.ci) (.slice v852.qw v852.nw v852.cw) (.int .i64 v852.lo) (.int .i64 v852.hi) (.int .i64 v852.op) (.slice v852.qk v852.nk v852.ck))) (fun hHeld=>?_)
             clear hK K
             refine wpAnyH_done (by kernel_rfl) ?_ _
             go_wp2
             go_meet
             case rel =>
               have q876g:U.heap.size≤w849.heap.size:=(R851).size
               have q876b:=set8_below (g:=w849.heap.size) R863 q876g (.int .i64 v852.kind) (.string v852.attr) (.slice v852.qi v852.ni v852.ci) (.slice v852.qw v852.nw v852.cw) (.int .i64 v852.lo) (.int .i64 v852.hi) (.int .i64 v852.op) (.slice v852.qk v852.nk v852.ck)
               refine ⟨w849.heap.size,v852,rfl,set8_blk (uh f864),q876b, ?_⟩
               exact ((uh zm).toIn).keep (set8_below (g:=w849.heap.size) (uh zb) (Nat.le_refl _) (.int .i64 v852.kind) (.string v852.attr) (.slice v852.qi v852.ni v852.ci) (.slice v852.qw v852.nw v852.cw) (.int .i64 v852.lo) (.int .i64 v852.hi) (.int .i64 v852.op) (.slice v852.qk v852.nk v852.ck))
            exact AllReadyH.nil
           exact AllReadyH.nil
          refine AllReadyH.cons (o:=⟨some 3,.alloc 28,_,_,_,none⟩) rfl (fun K hK=>?_) ?_
          ·go_simp
           refine hK.out _ _ (KS _ ((R839).alloc (R839).size _)) (fun hHeld=>?_)
           clear hK K
           obtain ⟨V877,h880⟩:∃ V877,World.alloc V838 (.cells #[.int .i64 0,.string ⟨#[]⟩,.slice none 0 0,.slice none 0 0,.int .i64 0,.int .i64 0,.int .i64 0,.slice none 0 0] 28)=V877:=⟨_,rfl⟩
           rw [h880]
           have R878:Below U.heap.size U V877:=by rw [← h880];exact R839.alloc R839.size _
           have f879b:Below V838.heap.size V838 V877:=by rw [← h880];exact (Below.refl _ _).alloc (Nat.le_refl _) _
           have f879:=hide (nwb h880)
           have f881:=hide ((uh f842).keep f879b)
           clear f842
           have f882:=hide ((uh f843).keep f879b)
           clear f843
           have f883:=hide (((f879b).block _ (heap_lt (uh f844))).trans (uh f844))
           clear f844
           have f884:=hide (((f879b).block _ (heap_lt (uh f845))).trans (uh f845))
           clear f845
           have f885:=hide ((uh f846).keep f879b)
           clear f846
           have f886:=hide ((uh f847).keep f879b)
           clear f847
           have f887:=hide ((uh f848).keep f879b)
           clear f848
           have f888:=hide (((f879b).block _ (heap_lt (uh f840))).trans (uh f840))
           clear f840
           clear h880 f879b
           refine wpAnyH_ready (rs:=[10]) (by kernel_rfl) (by simp) ?_
           refine AllReadyH.cons (o:=⟨some 25,.call { callee:=.value (.func 14),args:=#[.tmp 24],argTypes:=#[26] },_,_,_,none⟩) rfl (fun K hK=>?_) ?_
           ·go_simp
            refine (cAnd (joinT 4 [TP,TQ]) (notT (joinT 3 [TQ,TP])) v811 v830 _ _ (uh f888) (uh f885).toIn (uh f887).toIn (by decide +kernel)).mono ?_
            rintro e w889 ⟨⟨v892,rfl,b890n⟩,b890⟩
            simp only [Nv.val]
            have R891:Below U.heap.size U w889:=below_sub R878 b890
            have b890z:=heap_lt (uh f879)
            have f893:=hide ((uh f881).keep b890)
            clear f881
            have f894:=hide ((uh f882).keep b890)
            clear f882
            have f895:=hide (((b890).block _ (heap_lt (uh f883))).trans (uh f883))
            clear f883
            have f896:=hide (((b890).block _ (heap_lt (uh f884))).trans (uh f884))
            clear f884
            have f897:=hide ((uh f885).keep b890)
            clear f885
            have f898:=hide ((uh f886).keep b890)
            clear f886
            have f899:=hide ((uh f887).keep b890)
            clear f887
            have f900:=hide (((b890).block _ (heap_lt (uh f888))).trans (uh f888))
            clear f888
            have f901:=hide (((b890).block _ (heap_lt (uh f879))).trans (uh f879))
            clear f879
            have f902:=hide b890n
            clear b890 b890n
            refine hK.out _ _ (KS _ R891) (fun hHeld=>?_)
            clear hK K
            refine wpAnyH_ready (rs:=[12]) (by kernel_rfl) (by simp) ?_
            refine AllReadyH.cons (o:=⟨none,.store 28 (.tmp 3) (.tmp 25),_,_,_,none⟩) rfl (fun K hK=>?_) ?_
            ·have z903g:U.heap.size≤V838.heap.size:=(R839).size
             obtain ⟨z903_0,z903_1,z903_2,z903_3,z903_4,z903_5,z903_6,z903_7⟩:=of8' (uh f901)
             have z903f:∀ o,World.frozen? w889 ⟨V838.heap.size,o,none⟩=false:=fun o=>frozen_free (uh f901)
             have z903l:=heap_lt (uh f901)
             go_simp
             refine hK.out _ _ (KS _ (set8_below (g:=V838.heap.size) R891 z903g (.int .i64 v892.kind) (.string v892.attr) (.slice v892.qi v892.ni v892.ci) (.slice v892.qw v892.nw v892.cw) (.int .i64 v892.lo) (.int .i64 v892.hi) (.int .i64 v892.op) (.slice v892.qk v892.nk v892.ck))) (fun hHeld=>?_)
             clear hK K
             refine wpAnyH_done (by kernel_rfl) ?_ _
             go_wp2
             go_meet
             case rel =>
               have q904g:U.heap.size≤V838.heap.size:=(R839).size
               have q904b:=set8_below (g:=V838.heap.size) R891 q904g (.int .i64 v892.kind) (.string v892.attr) (.slice v892.qi v892.ni v892.ci) (.slice v892.qw v892.nw v892.cw) (.int .i64 v892.lo) (.int .i64 v892.hi) (.int .i64 v892.op) (.slice v892.qk v892.nk v892.ck)
               refine ⟨V838.heap.size,v892,rfl,set8_blk (uh f901),q904b, ?_⟩
               exact ((uh f902).up (set8_up (g:=V838.heap.size) _ b890z (.int .i64 v892.kind) (.string v892.attr) (.slice v892.qi v892.ni v892.ci) (.slice v892.qw v892.nw v892.cw) (.int .i64 v892.lo) (.int .i64 v892.hi) (.int .i64 v892.op) (.slice v892.qk v892.nk v892.ck))).toIn
            exact AllReadyH.nil
           exact AllReadyH.nil
          exact AllReadyH.nil
         refine AllReadyH.cons (o:=⟨some 3,.alloc 28,_,_,_,none⟩) rfl (fun K hK=>?_) ?_
         ·go_simp
          refine hK.out _ _ (KS _ ((R829).alloc (R829).size _)) (fun hHeld=>?_)
          clear hK K
          obtain ⟨V905,h908⟩:∃ V905,World.alloc w827 (.cells #[.int .i64 0,.string ⟨#[]⟩,.slice none 0 0,.slice none 0 0,.int .i64 0,.int .i64 0,.int .i64 0,.slice none 0 0] 28)=V905:=⟨_,rfl⟩
          rw [h908]
          have R906:Below U.heap.size U V905:=by rw [← h908];exact R829.alloc R829.size _
          have f907b:Below w827.heap.size w827 V905:=by rw [← h908];exact (Below.refl _ _).alloc (Nat.le_refl _) _
          have f907:=hide (nwb h908)
          have f909:=hide ((uh f831).keep f907b)
          clear f831
          have f910:=hide ((uh f832).keep f907b)
          clear f832
          have f911:=hide (((f907b).block _ (heap_lt (uh f833))).trans (uh f833))
          clear f833
          have f912:=hide (((f907b).block _ (heap_lt (uh f834))).trans (uh f834))
          clear f834
          have f913:=hide ((uh f835).keep f907b)
          clear f835
          have f914:=hide ((uh f836).keep f907b)
          clear f836
          have f915:=hide ((uh f837).keep f907b)
          clear f837
          clear h908 f907b
          refine wpAnyH_ready (rs:=[9]) (by kernel_rfl) (by simp) ?_
          refine AllReadyH.cons (o:=⟨some 24,.buildSlice 26 2 #[(0,.tmp 18),(1,.tmp 23)],_,_,_,none⟩) rfl (fun K hK=>?_) ?_
          ·go_simp
           refine hK.out _ _ (KS _ ((R906).alloc (R906).size _)) (fun hHeld=>?_)
           clear hK K
           obtain ⟨V916,h919⟩:∃ V916,World.alloc V905 (.cells #[.int .i64 v811.kind,.string v811.attr,.slice v811.qi v811.ni v811.ci,.slice v811.qw v811.nw v811.cw,.int .i64 v811.lo,.int .i64 v811.hi,.int .i64 v811.op,.slice v811.qk v811.nk v811.ck,.int .i64 v830.kind,.string v830.attr,.slice v830.qi v830.ni v830.ci,.slice v830.qw v830.nw v830.cw,.int .i64 v830.lo,.int .i64 v830.hi,.int .i64 v830.op,.slice v830.qk v830.nk v830.ck] 28)=V916:=⟨_,rfl⟩
           rw [h919]
           have R917:Below U.heap.size U V916:=by rw [← h919];exact R906.alloc R906.size _
           have f918b:Below V905.heap.size V905 V916:=by rw [← h919];exact (Below.refl _ _).alloc (Nat.le_refl _) _
           have f918:=hide (nwb h919)
           have f920:=hide ((uh f909).keep f918b)
           clear f909
           have f921:=hide ((uh f910).keep f918b)
           clear f910
           have f922:=hide (((f918b).block _ (heap_lt (uh f911))).trans (uh f911))
           clear f911
           have f923:=hide (((f918b).block _ (heap_lt (uh f912))).trans (uh f912))
           clear f912
           have f924:=hide ((uh f913).keep f918b)
           clear f913
           have f925:=hide ((uh f914).keep f918b)
           clear f914
           have f926:=hide ((uh f915).keep f918b)
           clear f915
           have f927:=hide (((f918b).block _ (heap_lt (uh f907))).trans (uh f907))
           clear f907
           clear h919 f918b
           refine wpAnyH_ready (rs:=[10]) (by kernel_rfl) (by simp) ?_
           refine AllReadyH.cons (o:=⟨some 25,.call { callee:=.value (.func 14),args:=#[.tmp 24],argTypes:=#[26] },_,_,_,none⟩) rfl (fun K hK=>?_) ?_
           ·go_simp
            refine (cAnd (joinT 4 [TP,TQ]) (notT (joinT 3 [TQ,TP])) v811 v830 _ _ (uh f918) (uh f924).toIn (uh f926).toIn (by decide +kernel)).mono ?_
            rintro e w928 ⟨⟨v931,rfl,b929n⟩,b929⟩
            simp only [Nv.val]
            have R930:Below U.heap.size U w928:=below_sub R917 b929
            have b929z:=heap_lt (uh f927)
            have f932:=hide ((uh f920).keep b929)
            clear f920
            have f933:=hide ((uh f921).keep b929)
            clear f921
            have f934:=hide (((b929).block _ (heap_lt (uh f922))).trans (uh f922))
            clear f922
            have f935:=hide (((b929).block _ (heap_lt (uh f923))).trans (uh f923))
            clear f923
            have f936:=hide ((uh f924).keep b929)
            clear f924
            have f937:=hide ((uh f925).keep b929)
            clear f925
            have f938:=hide ((uh f926).keep b929)
            clear f926
            have f939:=hide (((b929).block _ (heap_lt (uh f927))).trans (uh f927))
            clear f927
            have f940:=hide (((b929).block _ (heap_lt (uh f918))).trans (uh f918))
            clear f918
            have f941:=hide b929n
            clear b929 b929n
            refine hK.out _ _ (KS _ R930) (fun hHeld=>?_)
            clear hK K
            refine wpAnyH_ready (rs:=[12]) (by kernel_rfl) (by simp) ?_
            refine AllReadyH.cons (o:=⟨none,.store 28 (.tmp 3) (.tmp 25),_,_,_,none⟩) rfl (fun K hK=>?_) ?_
            ·have z942g:U.heap.size≤w827.heap.size:=(R829).size
             obtain ⟨z942_0,z942_1,z942_2,z942_3,z942_4,z942_5,z942_6,z942_7⟩:=of8' (uh f939)
             have z942f:∀ o,World.frozen? w928 ⟨w827.heap.size,o,none⟩=false:=fun o=>frozen_free (uh f939)
             have z942l:=heap_lt (uh f939)
             go_simp
             refine hK.out _ _ (KS _ (set8_below (g:=w827.heap.size) R930 z942g (.int .i64 v931.kind) (.string v931.attr) (.slice v931.qi v931.ni v931.ci) (.slice v931.qw v931.nw v931.cw) (.int .i64 v931.lo) (.int .i64 v931.hi) (.int .i64 v931.op) (.slice v931.qk v931.nk v931.ck))) (fun hHeld=>?_)
             clear hK K
             refine wpAnyH_done (by kernel_rfl) ?_ _
             go_wp2
             go_meet
             case rel =>
               have q943g:U.heap.size≤w827.heap.size:=(R829).size
               have q943b:=set8_below (g:=w827.heap.size) R930 q943g (.int .i64 v931.kind) (.string v931.attr) (.slice v931.qi v931.ni v931.ci) (.slice v931.qw v931.nw v931.cw) (.int .i64 v931.lo) (.int .i64 v931.hi) (.int .i64 v931.op) (.slice v931.qk v931.nk v931.ck)
               refine ⟨w827.heap.size,v931,rfl,set8_blk (uh f939),q943b, ?_⟩
               exact ((uh f941).up (set8_up (g:=w827.heap.size) _ b929z (.int .i64 v931.kind) (.string v931.attr) (.slice v931.qi v931.ni v931.ci) (.slice v931.qw v931.nw v931.cw) (.int .i64 v931.lo) (.int .i64 v931.hi) (.int .i64 v931.op) (.slice v931.qk v931.nk v931.ck))).toIn
            exact AllReadyH.nil
           exact AllReadyH.nil
          exact AllReadyH.nil
         exact AllReadyH.nil
        refine AllReadyH.cons (o:=⟨some 3,.alloc 28,_,_,_,none⟩) rfl (fun K hK=>?_) ?_
        ·go_simp
         refine hK.out _ _ (KS _ ((R819).alloc (R819).size _)) (fun hHeld=>?_)
         clear hK K
         obtain ⟨V944,h947⟩:∃ V944,World.alloc w817 (.cells #[.int .i64 0,.string ⟨#[]⟩,.slice none 0 0,.slice none 0 0,.int .i64 0,.int .i64 0,.int .i64 0,.slice none 0 0] 28)=V944:=⟨_,rfl⟩
         rw [h947]
         have R945:Below U.heap.size U V944:=by rw [← h947];exact R819.alloc R819.size _
         have f946b:Below w817.heap.size w817 V944:=by rw [← h947];exact (Below.refl _ _).alloc (Nat.le_refl _) _
         have f946:=hide (nwb h947)
         have f948:=hide ((uh f821).keep f946b)
         clear f821
         have f949:=hide ((uh f822).keep f946b)
         clear f822
         have f950:=hide (((f946b).block _ (heap_lt (uh f823))).trans (uh f823))
         clear f823
         have f951:=hide (((f946b).block _ (heap_lt (uh f824))).trans (uh f824))
         clear f824
         have f952:=hide ((uh f825).keep f946b)
         clear f825
         have f953:=hide ((uh f826).keep f946b)
         clear f826
         clear h947 f946b
         refine wpAnyH_ready (rs:=[8]) (by kernel_rfl) (by simp) ?_
         refine AllReadyH.cons (o:=⟨some 23,.call { callee:=.value (.func 16),args:=#[.tmp 22],argTypes:=#[28] },_,_,_,none⟩) rfl (fun K hK=>?_) ?_
         ·go_simp
          refine (cNot (joinT 3 [TQ,TP]) v820 _ (uh f953).toIn (by decide +kernel)).mono ?_
          rintro e w954 ⟨⟨v957,rfl,b955n⟩,b955⟩
          simp only [Nv.val]
          have R956:Below U.heap.size U w954:=below_sub R945 b955
          have b955z:=heap_lt (uh f946)
          have f958:=hide ((uh f948).keep b955)
          clear f948
          have f959:=hide ((uh f949).keep b955)
          clear f949
          have f960:=hide (((b955).block _ (heap_lt (uh f950))).trans (uh f950))
          clear f950
          have f961:=hide (((b955).block _ (heap_lt (uh f951))).trans (uh f951))
          clear f951
          have f962:=hide ((uh f952).keep b955)
          clear f952
          have f963:=hide ((uh f953).keep b955)
          clear f953
          have f964:=hide (((b955).block _ (heap_lt (uh f946))).trans (uh f946))
          clear f946
          have f965:=hide b955n
          clear b955 b955n
          refine hK.out _ _ (KS _ R956) (fun hHeld=>?_)
          clear hK K
          refine wpAnyH_ready (rs:=[9]) (by kernel_rfl) (by simp) ?_
          refine AllReadyH.cons (o:=⟨some 24,.buildSlice 26 2 #[(0,.tmp 18),(1,.tmp 23)],_,_,_,none⟩) rfl (fun K hK=>?_) ?_
          ·go_simp
           refine hK.out _ _ (KS _ ((R956).alloc (R956).size _)) (fun hHeld=>?_)
           clear hK K
           obtain ⟨V966,h969⟩:∃ V966,World.alloc w954 (.cells #[.int .i64 v811.kind,.string v811.attr,.slice v811.qi v811.ni v811.ci,.slice v811.qw v811.nw v811.cw,.int .i64 v811.lo,.int .i64 v811.hi,.int .i64 v811.op,.slice v811.qk v811.nk v811.ck,.int .i64 v957.kind,.string v957.attr,.slice v957.qi v957.ni v957.ci,.slice v957.qw v957.nw v957.cw,.int .i64 v957.lo,.int .i64 v957.hi,.int .i64 v957.op,.slice v957.qk v957.nk v957.ck] 28)=V966:=⟨_,rfl⟩
           rw [h969]
           have R967:Below U.heap.size U V966:=by rw [← h969];exact R956.alloc R956.size _
           have f968b:Below w954.heap.size w954 V966:=by rw [← h969];exact (Below.refl _ _).alloc (Nat.le_refl _) _
           have f968:=hide (nwb h969)
           have f970:=hide ((uh f958).keep f968b)
           clear f958
           have f971:=hide ((uh f959).keep f968b)
           clear f959
           have f972:=hide (((f968b).block _ (heap_lt (uh f960))).trans (uh f960))
           clear f960
           have f973:=hide (((f968b).block _ (heap_lt (uh f961))).trans (uh f961))
           clear f961
           have f974:=hide ((uh f962).keep f968b)
           clear f962
           have f975:=hide ((uh f963).keep f968b)
           clear f963
           have f976:=hide (((f968b).block _ (heap_lt (uh f964))).trans (uh f964))
           clear f964
           have f977:=hide ((uh f965).keep f968b)
           clear f965
           clear h969 f968b
           refine wpAnyH_ready (rs:=[10]) (by kernel_rfl) (by simp) ?_
           refine AllReadyH.cons (o:=⟨some 25,.call { callee:=.value (.func 14),args:=#[.tmp 24],argTypes:=#[26] },_,_,_,none⟩) rfl (fun K hK=>?_) ?_
           ·go_simp
            refine (cAnd (joinT 4 [TP,TQ]) (notT (joinT 3 [TQ,TP])) v811 v957 _ _ (uh f968) (uh f974).toIn (uh f977).toIn (by decide +kernel)).mono ?_
            rintro e w978 ⟨⟨v981,rfl,b979n⟩,b979⟩
            simp only [Nv.val]
            have R980:Below U.heap.size U w978:=below_sub R967 b979
            have b979z:=heap_lt (uh f976)
            have f982:=hide ((uh f970).keep b979)
            clear f970
            have f983:=hide ((uh f971).keep b979)
            clear f971
            have f984:=hide (((b979).block _ (heap_lt (uh f972))).trans (uh f972))
            clear f972
            have f985:=hide (((b979).block _ (heap_lt (uh f973))).trans (uh f973))
            clear f973
            have f986:=hide ((uh f974).keep b979)
            clear f974
            have f987:=hide ((uh f975).keep b979)
            clear f975
            have f988:=hide (((b979).block _ (heap_lt (uh f976))).trans (uh f976))
            clear f976
            have f989:=hide ((uh f977).keep b979)
            clear f977
            have f990:=hide (((b979).block _ (heap_lt (uh f968))).trans (uh f968))
            clear f968
            have f991:=hide b979n
            clear b979 b979n
            refine hK.out _ _ (KS _ R980) (fun hHeld=>?_)
            clear hK K
            refine wpAnyH_ready (rs:=[12]) (by kernel_rfl) (by simp) ?_
            refine AllReadyH.cons (o:=⟨none,.store 28 (.tmp 3) (.tmp 25),_,_,_,none⟩) rfl (fun K hK=>?_) ?_
            ·have z992g:U.heap.size≤w817.heap.size:=(R819).size
             obtain ⟨z992_0,z992_1,z992_2,z992_3,z992_4,z992_5,z992_6,z992_7⟩:=of8' (uh f988)
             have z992f:∀ o,World.frozen? w978 ⟨w817.heap.size,o,none⟩=false:=fun o=>frozen_free (uh f988)
             have z992l:=heap_lt (uh f988)
             go_simp
             refine hK.out _ _ (KS _ (set8_below (g:=w817.heap.size) R980 z992g (.int .i64 v981.kind) (.string v981.attr) (.slice v981.qi v981.ni v981.ci) (.slice v981.qw v981.nw v981.cw) (.int .i64 v981.lo) (.int .i64 v981.hi) (.int .i64 v981.op) (.slice v981.qk v981.nk v981.ck))) (fun hHeld=>?_)
             clear hK K
             refine wpAnyH_done (by kernel_rfl) ?_ _
             go_wp2
             go_meet
             case rel =>
               have q993g:U.heap.size≤w817.heap.size:=(R819).size
               have q993b:=set8_below (g:=w817.heap.size) R980 q993g (.int .i64 v981.kind) (.string v981.attr) (.slice v981.qi v981.ni v981.ci) (.slice v981.qw v981.nw v981.cw) (.int .i64 v981.lo) (.int .i64 v981.hi) (.int .i64 v981.op) (.slice v981.qk v981.nk v981.ck)
               refine ⟨w817.heap.size,v981,rfl,set8_blk (uh f988),q993b, ?_⟩
               exact ((uh f991).up (set8_up (g:=w817.heap.size) _ b979z (.int .i64 v981.kind) (.string v981.attr) (.slice v981.qi v981.ni v981.ci) (.slice v981.qw v981.nw v981.cw) (.int .i64 v981.lo) (.int .i64 v981.hi) (.int .i64 v981.op) (.slice v981.qk v981.nk v981.ck))).toIn
            exact AllReadyH.nil
           exact AllReadyH.nil
          exact AllReadyH.nil
         exact AllReadyH.nil
        exact AllReadyH.nil
       refine AllReadyH.cons (o:=⟨some 3,.alloc 28,_,_,_,none⟩) rfl (fun K hK=>?_) ?_
       ·go_simp
        refine hK.out _ _ (KS _ ((R810).alloc (R810).size _)) (fun hHeld=>?_)
        clear hK K
        obtain ⟨V994,h997⟩:∃ V994,World.alloc w808 (.cells #[.int .i64 0,.string ⟨#[]⟩,.slice none 0 0,.slice none 0 0,.int .i64 0,.int .i64 0,.int .i64 0,.slice none 0 0] 28)=V994:=⟨_,rfl⟩
        rw [h997]
        have R995:Below U.heap.size U V994:=by rw [← h997];exact R810.alloc R810.size _
        have f996b:Below w808.heap.size w808 V994:=by rw [← h997];exact (Below.refl _ _).alloc (Nat.le_refl _) _
        have f996:=hide (nwb h997)
        have f998:=hide ((uh f812).keep f996b)
        clear f812
        have f999:=hide ((uh f813).keep f996b)
        clear f813
        have f1000:=hide (((f996b).block _ (heap_lt (uh f814))).trans (uh f814))
        clear f814
        have f1001:=hide (((f996b).block _ (heap_lt (uh f815))).trans (uh f815))
        clear f815
        have f1002:=hide ((uh f816).keep f996b)
        clear f816
        clear h997 f996b
        refine wpAnyH_ready (rs:=[7]) (by kernel_rfl) (by simp) ?_
        refine AllReadyH.cons (o:=⟨some 22,.call { callee:=.value (.func 14),args:=#[.tmp 21],argTypes:=#[26] },_,_,_,none⟩) rfl (fun K hK=>?_) ?_
        ·go_simp
         refine (cAnd TQ TP vq vp _ _ (uh f1000) (uh f999) (uh f998) (by decide +kernel)).mono ?_
         rintro e w1003 ⟨⟨v1006,rfl,b1004n⟩,b1004⟩
         simp only [Nv.val]
         have R1005:Below U.heap.size U w1003:=below_sub R995 b1004
         have b1004z:=heap_lt (uh f996)
         have f1007:=hide ((uh f998).keep b1004)
         clear f998
         have f1008:=hide ((uh f999).keep b1004)
         clear f999
         have f1009:=hide (((b1004).block _ (heap_lt (uh f1000))).trans (uh f1000))
         clear f1000
         have f1010:=hide (((b1004).block _ (heap_lt (uh f1001))).trans (uh f1001))
         clear f1001
         have f1011:=hide ((uh f1002).keep b1004)
         clear f1002
         have f1012:=hide (((b1004).block _ (heap_lt (uh f996))).trans (uh f996))
         clear f996
         have f1013:=hide b1004n
         clear b1004 b1004n
         refine hK.out _ _ (KS _ R1005) (fun hHeld=>?_)
         clear hK K
         refine wpAnyH_ready (rs:=[8]) (by kernel_rfl) (by simp) ?_
         refine AllReadyH.cons (o:=⟨some 23,.call { callee:=.value (.func 16),args:=#[.tmp 22],argTypes:=#[28] },_,_,_,none⟩) rfl (fun K hK=>?_) ?_
         ·go_simp
          refine (cNot (joinT 3 [TQ,TP]) v1006 _ (uh f1013).toIn (by decide +kernel)).mono ?_
          rintro e w1014 ⟨⟨v1017,rfl,b1015n⟩,b1015⟩
          simp only [Nv.val]
          have R1016:Below U.heap.size U w1014:=below_sub R1005 b1015
          have b1015z:=heap_lt (uh f1012)
          have f1018:=hide ((uh f1007).keep b1015)
          clear f1007
          have f1019:=hide ((uh f1008).keep b1015)
          clear f1008
          have f1020:=hide (((b1015).block _ (heap_lt (uh f1009))).trans (uh f1009))
          clear f1009
          have f1021:=hide (((b1015).block _ (heap_lt (uh f1010))).trans (uh f1010))
          clear f1010
          have f1022:=hide ((uh f1011).keep b1015)
          clear f1011
          have f1023:=hide (((b1015).block _ (heap_lt (uh f1012))).trans (uh f1012))
          clear f1012
          have f1024:=hide ((uh f1013).keep b1015)
          clear f1013
          have f1025:=hide b1015n
          clear b1015 b1015n
          refine hK.out _ _ (KS _ R1016) (fun hHeld=>?_)
          clear hK K
          refine wpAnyH_ready (rs:=[9]) (by kernel_rfl) (by simp) ?_
          refine AllReadyH.cons (o:=⟨some 24,.buildSlice 26 2 #[(0,.tmp 18),(1,.tmp 23)],_,_,_,none⟩) rfl (fun K hK=>?_) ?_
          ·go_simp
           refine hK.out _ _ (KS _ ((R1016).alloc (R1016).size _)) (fun hHeld=>?_)
           clear hK K
           obtain ⟨V1026,h1029⟩:∃ V1026,World.alloc w1014 (.cells #[.int .i64 v811.kind,.string v811.attr,.slice v811.qi v811.ni v811.ci,.slice v811.qw v811.nw v811.cw,.int .i64 v811.lo,.int .i64 v811.hi,.int .i64 v811.op,.slice v811.qk v811.nk v811.ck,.int .i64 v1017.kind,.string v1017.attr,.slice v1017.qi v1017.ni v1017.ci,.slice v1017.qw v1017.nw v1017.cw,.int .i64 v1017.lo,.int .i64 v1017.hi,.int .i64 v1017.op,.slice v1017.qk v1017.nk v1017.ck] 28)=V1026:=⟨_,rfl⟩
           rw [h1029]
           have R1027:Below U.heap.size U V1026:=by rw [← h1029];exact R1016.alloc R1016.size _
           have f1028b:Below w1014.heap.size w1014 V1026:=by rw [← h1029];exact (Below.refl _ _).alloc (Nat.le_refl _) _
           have f1028:=hide (nwb h1029)
           have f1030:=hide ((uh f1018).keep f1028b)
           clear f1018
           have f1031:=hide ((uh f1019).keep f1028b)
           clear f1019
           have f1032:=hide (((f1028b).block _ (heap_lt (uh f1020))).trans (uh f1020))
           clear f1020
           have f1033:=hide (((f1028b).block _ (heap_lt (uh f1021))).trans (uh f1021))
           clear f1021
           have f1034:=hide ((uh f1022).keep f1028b)
           clear f1022
           have f1035:=hide (((f1028b).block _ (heap_lt (uh f1023))).trans (uh f1023))
           clear f1023
           have f1036:=hide ((uh f1024).keep f1028b)
           clear f1024
           have f1037:=hide ((uh f1025).keep f1028b)
           clear f1025
           clear h1029 f1028b
           refine wpAnyH_ready (rs:=[10]) (by kernel_rfl) (by simp) ?_
           refine AllReadyH.cons (o:=⟨some 25,.call { callee:=.value (.func 14),args:=#[.tmp 24],argTypes:=#[26] },_,_,_,none⟩) rfl (fun K hK=>?_) ?_
           ·go_simp
            refine (cAnd (joinT 4 [TP,TQ]) (notT (joinT 3 [TQ,TP])) v811 v1017 _ _ (uh f1028) (uh f1034).toIn (uh f1037).toIn (by decide +kernel)).mono ?_
            rintro e w1038 ⟨⟨v1041,rfl,b1039n⟩,b1039⟩
            simp only [Nv.val]
            have R1040:Below U.heap.size U w1038:=below_sub R1027 b1039
            have b1039z:=heap_lt (uh f1035)
            have f1042:=hide ((uh f1030).keep b1039)
            clear f1030
            have f1043:=hide ((uh f1031).keep b1039)
            clear f1031
            have f1044:=hide (((b1039).block _ (heap_lt (uh f1032))).trans (uh f1032))
            clear f1032
            have f1045:=hide (((b1039).block _ (heap_lt (uh f1033))).trans (uh f1033))
            clear f1033
            have f1046:=hide ((uh f1034).keep b1039)
            clear f1034
            have f1047:=hide (((b1039).block _ (heap_lt (uh f1035))).trans (uh f1035))
            clear f1035
            have f1048:=hide ((uh f1036).keep b1039)
            clear f1036
            have f1049:=hide ((uh f1037).keep b1039)
            clear f1037
            have f1050:=hide (((b1039).block _ (heap_lt (uh f1028))).trans (uh f1028))
            clear f1028
            have f1051:=hide b1039n
            clear b1039 b1039n
            refine hK.out _ _ (KS _ R1040) (fun hHeld=>?_)
            clear hK K
            refine wpAnyH_ready (rs:=[12]) (by kernel_rfl) (by simp) ?_
            refine AllReadyH.cons (o:=⟨none,.store 28 (.tmp 3) (.tmp 25),_,_,_,none⟩) rfl (fun K hK=>?_) ?_
            ·have z1052g:U.heap.size≤w808.heap.size:=(R810).size
             obtain ⟨z1052_0,z1052_1,z1052_2,z1052_3,z1052_4,z1052_5,z1052_6,z1052_7⟩:=of8' (uh f1047)
             have z1052f:∀ o,World.frozen? w1038 ⟨w808.heap.size,o,none⟩=false:=fun o=>frozen_free (uh f1047)
             have z1052l:=heap_lt (uh f1047)
             go_simp
             refine hK.out _ _ (KS _ (set8_below (g:=w808.heap.size) R1040 z1052g (.int .i64 v1041.kind) (.string v1041.attr) (.slice v1041.qi v1041.ni v1041.ci) (.slice v1041.qw v1041.nw v1041.cw) (.int .i64 v1041.lo) (.int .i64 v1041.hi) (.int .i64 v1041.op) (.slice v1041.qk v1041.nk v1041.ck))) (fun hHeld=>?_)
             clear hK K
             refine wpAnyH_done (by kernel_rfl) ?_ _
             go_wp2
             go_meet
             case rel =>
               have q1053g:U.heap.size≤w808.heap.size:=(R810).size
               have q1053b:=set8_below (g:=w808.heap.size) R1040 q1053g (.int .i64 v1041.kind) (.string v1041.attr) (.slice v1041.qi v1041.ni v1041.ci) (.slice v1041.qw v1041.nw v1041.cw) (.int .i64 v1041.lo) (.int .i64 v1041.hi) (.int .i64 v1041.op) (.slice v1041.qk v1041.nk v1041.ck)
               refine ⟨w808.heap.size,v1041,rfl,set8_blk (uh f1047),q1053b, ?_⟩
               exact ((uh f1051).up (set8_up (g:=w808.heap.size) _ b1039z (.int .i64 v1041.kind) (.string v1041.attr) (.slice v1041.qi v1041.ni v1041.ci) (.slice v1041.qw v1041.nw v1041.cw) (.int .i64 v1041.lo) (.int .i64 v1041.hi) (.int .i64 v1041.op) (.slice v1041.qk v1041.nk v1041.ck))).toIn
            exact AllReadyH.nil
           exact AllReadyH.nil
          exact AllReadyH.nil
         exact AllReadyH.nil
        exact AllReadyH.nil
       exact AllReadyH.nil
      refine AllReadyH.cons (o:=⟨some 3,.alloc 28,_,_,_,none⟩) rfl (fun K hK=>?_) ?_
      ·go_simp
       refine hK.out _ _ (KS _ ((R802).alloc (R802).size _)) (fun hHeld=>?_)
       clear hK K
       obtain ⟨V1054,h1057⟩:∃ V1054,World.alloc V801 (.cells #[.int .i64 0,.string ⟨#[]⟩,.slice none 0 0,.slice none 0 0,.int .i64 0,.int .i64 0,.int .i64 0,.slice none 0 0] 28)=V1054:=⟨_,rfl⟩
       rw [h1057]
       have R1055:Below U.heap.size U V1054:=by rw [← h1057];exact R802.alloc R802.size _
       have f1056b:Below V801.heap.size V801 V1054:=by rw [← h1057];exact (Below.refl _ _).alloc (Nat.le_refl _) _
       have f1056:=hide (nwb h1057)
       have f1058:=hide ((uh f805).keep f1056b)
       clear f805
       have f1059:=hide ((uh f806).keep f1056b)
       clear f806
       have f1060:=hide (((f1056b).block _ (heap_lt (uh f807))).trans (uh f807))
       clear f807
       have f1061:=hide (((f1056b).block _ (heap_lt (uh f803))).trans (uh f803))
       clear f803
       clear h1057 f1056b
       refine wpAnyH_ready (rs:=[3]) (by kernel_rfl) (by simp) ?_
       refine AllReadyH.cons (o:=⟨some 18,.call { callee:=.value (.func 15),args:=#[.tmp 17],argTypes:=#[26] },_,_,_,none⟩) rfl (fun K hK=>?_) ?_
       ·go_simp
        refine (cOr TP TQ vp vq _ _ (uh f1061) (uh f1058) (uh f1059) (by decide +kernel)).mono ?_
        rintro e w1062 ⟨⟨v1065,rfl,b1063n⟩,b1063⟩
        simp only [Nv.val]
        have R1064:Below U.heap.size U w1062:=below_sub R1055 b1063
        have b1063z:=heap_lt (uh f1056)
        have f1066:=hide ((uh f1058).keep b1063)
        clear f1058
        have f1067:=hide ((uh f1059).keep b1063)
        clear f1059
        have f1068:=hide (((b1063).block _ (heap_lt (uh f1060))).trans (uh f1060))
        clear f1060
        have f1069:=hide (((b1063).block _ (heap_lt (uh f1061))).trans (uh f1061))
        clear f1061
        have f1070:=hide (((b1063).block _ (heap_lt (uh f1056))).trans (uh f1056))
        clear f1056
        have f1071:=hide b1063n
        clear b1063 b1063n
        refine hK.out _ _ (KS _ R1064) (fun hHeld=>?_)
        clear hK K
        refine wpAnyH_ready (rs:=[7]) (by kernel_rfl) (by simp) ?_
        refine AllReadyH.cons (o:=⟨some 22,.call { callee:=.value (.func 14),args:=#[.tmp 21],argTypes:=#[26] },_,_,_,none⟩) rfl (fun K hK=>?_) ?_
        ·go_simp
         refine (cAnd TQ TP vq vp _ _ (uh f1068) (uh f1067) (uh f1066) (by decide +kernel)).mono ?_
         rintro e w1072 ⟨⟨v1075,rfl,b1073n⟩,b1073⟩
         simp only [Nv.val]
         have R1074:Below U.heap.size U w1072:=below_sub R1064 b1073
         have b1073z:=heap_lt (uh f1070)
         have f1076:=hide ((uh f1066).keep b1073)
         clear f1066
         have f1077:=hide ((uh f1067).keep b1073)
         clear f1067
         have f1078:=hide (((b1073).block _ (heap_lt (uh f1068))).trans (uh f1068))
         clear f1068
         have f1079:=hide (((b1073).block _ (heap_lt (uh f1069))).trans (uh f1069))
         clear f1069
         have f1080:=hide (((b1073).block _ (heap_lt (uh f1070))).trans (uh f1070))
         clear f1070
         have f1081:=hide ((uh f1071).keep b1073)
         clear f1071
         have f1082:=hide b1073n
         clear b1073 b1073n
         refine hK.out _ _ (KS _ R1074) (fun hHeld=>?_)
         clear hK K
         refine wpAnyH_ready (rs:=[8]) (by kernel_rfl) (by simp) ?_
         refine AllReadyH.cons (o:=⟨some 23,.call { callee:=.value (.func 16),args:=#[.tmp 22],argTypes:=#[28] },_,_,_,none⟩) rfl (fun K hK=>?_) ?_
         ·go_simp
          refine (cNot (joinT 3 [TQ,TP]) v1075 _ (uh f1082).toIn (by decide +kernel)).mono ?_
          rintro e w1083 ⟨⟨v1086,rfl,b1084n⟩,b1084⟩
          simp only [Nv.val]
          have R1085:Below U.heap.size U w1083:=below_sub R1074 b1084
          have b1084z:=heap_lt (uh f1080)
          have f1087:=hide ((uh f1076).keep b1084)
          clear f1076
          have f1088:=hide ((uh f1077).keep b1084)
          clear f1077
          have f1089:=hide (((b1084).block _ (heap_lt (uh f1078))).trans (uh f1078))
          clear f1078
          have f1090:=hide (((b1084).block _ (heap_lt (uh f1079))).trans (uh f1079))
          clear f1079
          have f1091:=hide (((b1084).block _ (heap_lt (uh f1080))).trans (uh f1080))
          clear f1080
          have f1092:=hide ((uh f1081).keep b1084)
          clear f1081
          have f1093:=hide ((uh f1082).keep b1084)
          clear f1082
          have f1094:=hide b1084n
          clear b1084 b1084n
          refine hK.out _ _ (KS _ R1085) (fun hHeld=>?_)
          clear hK K
          refine wpAnyH_ready (rs:=[9]) (by kernel_rfl) (by simp) ?_
          refine AllReadyH.cons (o:=⟨some 24,.buildSlice 26 2 #[(0,.tmp 18),(1,.tmp 23)],_,_,_,none⟩) rfl (fun K hK=>?_) ?_
          ·go_simp
           refine hK.out _ _ (KS _ ((R1085).alloc (R1085).size _)) (fun hHeld=>?_)
           clear hK K
           obtain ⟨V1095,h1098⟩:∃ V1095,World.alloc w1083 (.cells #[.int .i64 v1065.kind,.string v1065.attr,.slice v1065.qi v1065.ni v1065.ci,.slice v1065.qw v1065.nw v1065.cw,.int .i64 v1065.lo,.int .i64 v1065.hi,.int .i64 v1065.op,.slice v1065.qk v1065.nk v1065.ck,.int .i64 v1086.kind,.string v1086.attr,.slice v1086.qi v1086.ni v1086.ci,.slice v1086.qw v1086.nw v1086.cw,.int .i64 v1086.lo,.int .i64 v1086.hi,.int .i64 v1086.op,.slice v1086.qk v1086.nk v1086.ck] 28)=V1095:=⟨_,rfl⟩
           rw [h1098]
           have R1096:Below U.heap.size U V1095:=by rw [← h1098];exact R1085.alloc R1085.size _
           have f1097b:Below w1083.heap.size w1083 V1095:=by rw [← h1098];exact (Below.refl _ _).alloc (Nat.le_refl _) _
           have f1097:=hide (nwb h1098)
           have f1099:=hide ((uh f1087).keep f1097b)
           clear f1087
           have f1100:=hide ((uh f1088).keep f1097b)
           clear f1088
           have f1101:=hide (((f1097b).block _ (heap_lt (uh f1089))).trans (uh f1089))
           clear f1089
           have f1102:=hide (((f1097b).block _ (heap_lt (uh f1090))).trans (uh f1090))
           clear f1090
           have f1103:=hide (((f1097b).block _ (heap_lt (uh f1091))).trans (uh f1091))
           clear f1091
           have f1104:=hide ((uh f1092).keep f1097b)
           clear f1092
           have f1105:=hide ((uh f1093).keep f1097b)
           clear f1093
           have f1106:=hide ((uh f1094).keep f1097b)
           clear f1094
           clear h1098 f1097b
           refine wpAnyH_ready (rs:=[10]) (by kernel_rfl) (by simp) ?_
           refine AllReadyH.cons (o:=⟨some 25,.call { callee:=.value (.func 14),args:=#[.tmp 24],argTypes:=#[26] },_,_,_,none⟩) rfl (fun K hK=>?_) ?_
           ·go_simp
            refine (cAnd (joinT 4 [TP,TQ]) (notT (joinT 3 [TQ,TP])) v1065 v1086 _ _ (uh f1097) (uh f1104).toIn (uh f1106).toIn (by decide +kernel)).mono ?_
            rintro e w1107 ⟨⟨v1110,rfl,b1108n⟩,b1108⟩
            simp only [Nv.val]
            have R1109:Below U.heap.size U w1107:=below_sub R1096 b1108
            have b1108z:=heap_lt (uh f1103)
            have f1111:=hide ((uh f1099).keep b1108)
            clear f1099
            have f1112:=hide ((uh f1100).keep b1108)
            clear f1100
            have f1113:=hide (((b1108).block _ (heap_lt (uh f1101))).trans (uh f1101))
            clear f1101
            have f1114:=hide (((b1108).block _ (heap_lt (uh f1102))).trans (uh f1102))
            clear f1102
            have f1115:=hide (((b1108).block _ (heap_lt (uh f1103))).trans (uh f1103))
            clear f1103
            have f1116:=hide ((uh f1104).keep b1108)
            clear f1104
            have f1117:=hide ((uh f1105).keep b1108)
            clear f1105
            have f1118:=hide ((uh f1106).keep b1108)
            clear f1106
            have f1119:=hide (((b1108).block _ (heap_lt (uh f1097))).trans (uh f1097))
            clear f1097
            have f1120:=hide b1108n
            clear b1108 b1108n
            refine hK.out _ _ (KS _ R1109) (fun hHeld=>?_)
            clear hK K
            refine wpAnyH_ready (rs:=[12]) (by kernel_rfl) (by simp) ?_
            refine AllReadyH.cons (o:=⟨none,.store 28 (.tmp 3) (.tmp 25),_,_,_,none⟩) rfl (fun K hK=>?_) ?_
            ·have z1121g:U.heap.size≤V801.heap.size:=(R802).size
             obtain ⟨z1121_0,z1121_1,z1121_2,z1121_3,z1121_4,z1121_5,z1121_6,z1121_7⟩:=of8' (uh f1115)
             have z1121f:∀ o,World.frozen? w1107 ⟨V801.heap.size,o,none⟩=false:=fun o=>frozen_free (uh f1115)
             have z1121l:=heap_lt (uh f1115)
             go_simp
             refine hK.out _ _ (KS _ (set8_below (g:=V801.heap.size) R1109 z1121g (.int .i64 v1110.kind) (.string v1110.attr) (.slice v1110.qi v1110.ni v1110.ci) (.slice v1110.qw v1110.nw v1110.cw) (.int .i64 v1110.lo) (.int .i64 v1110.hi) (.int .i64 v1110.op) (.slice v1110.qk v1110.nk v1110.ck))) (fun hHeld=>?_)
             clear hK K
             refine wpAnyH_done (by kernel_rfl) ?_ _
             go_wp2
             go_meet
             case rel =>
               have q1122g:U.heap.size≤V801.heap.size:=(R802).size
               have q1122b:=set8_below (g:=V801.heap.size) R1109 q1122g (.int .i64 v1110.kind) (.string v1110.attr) (.slice v1110.qi v1110.ni v1110.ci) (.slice v1110.qw v1110.nw v1110.cw) (.int .i64 v1110.lo) (.int .i64 v1110.hi) (.int .i64 v1110.op) (.slice v1110.qk v1110.nk v1110.ck)
               refine ⟨V801.heap.size,v1110,rfl,set8_blk (uh f1115),q1122b, ?_⟩
               exact ((uh f1120).up (set8_up (g:=V801.heap.size) _ b1108z (.int .i64 v1110.kind) (.string v1110.attr) (.slice v1110.qi v1110.ni v1110.ci) (.slice v1110.qw v1110.nw v1110.cw) (.int .i64 v1110.lo) (.int .i64 v1110.hi) (.int .i64 v1110.op) (.slice v1110.qk v1110.nk v1110.ck))).toIn
            exact AllReadyH.nil
           exact AllReadyH.nil
          exact AllReadyH.nil
         exact AllReadyH.nil
        exact AllReadyH.nil
       exact AllReadyH.nil
      exact AllReadyH.nil
     refine AllReadyH.cons (o:=⟨some 3,.alloc 28,_,_,_,none⟩) rfl (fun K hK=>?_) ?_
     ·go_simp
      refine hK.out _ _ (KS _ ((R796).alloc (R796).size _)) (fun hHeld=>?_)
      clear hK K
      obtain ⟨V1123,h1126⟩:∃ V1123,World.alloc V795 (.cells #[.int .i64 0,.string ⟨#[]⟩,.slice none 0 0,.slice none 0 0,.int .i64 0,.int .i64 0,.int .i64 0,.slice none 0 0] 28)=V1123:=⟨_,rfl⟩
      rw [h1126]
      have R1124:Below U.heap.size U V1123:=by rw [← h1126];exact R796.alloc R796.size _
      have f1125b:Below V795.heap.size V795 V1123:=by rw [← h1126];exact (Below.refl _ _).alloc (Nat.le_refl _) _
      have f1125:=hide (nwb h1126)
      have f1127:=hide ((uh f799).keep f1125b)
      clear f799
      have f1128:=hide ((uh f800).keep f1125b)
      clear f800
      have f1129:=hide (((f1125b).block _ (heap_lt (uh f797))).trans (uh f797))
      clear f797
      clear h1126 f1125b
      refine wpAnyH_ready (rs:=[2]) (by kernel_rfl) (by simp) ?_
      refine AllReadyH.cons (o:=⟨some 17,.buildSlice 26 2 #[(0,.tmp 15),(1,.tmp 16)],_,_,_,none⟩) rfl (fun K hK=>?_) ?_
      ·go_simp
       refine hK.out _ _ (KS _ ((R1124).alloc (R1124).size _)) (fun hHeld=>?_)
       clear hK K
       obtain ⟨V1130,h1133⟩:∃ V1130,World.alloc V1123 (.cells #[.int .i64 vp.kind,.string vp.attr,.slice vp.qi vp.ni vp.ci,.slice vp.qw vp.nw vp.cw,.int .i64 vp.lo,.int .i64 vp.hi,.int .i64 vp.op,.slice vp.qk vp.nk vp.ck,.int .i64 vq.kind,.string vq.attr,.slice vq.qi vq.ni vq.ci,.slice vq.qw vq.nw vq.cw,.int .i64 vq.lo,.int .i64 vq.hi,.int .i64 vq.op,.slice vq.qk vq.nk vq.ck] 28)=V1130:=⟨_,rfl⟩
       rw [h1133]
       have R1131:Below U.heap.size U V1130:=by rw [← h1133];exact R1124.alloc R1124.size _
       have f1132b:Below V1123.heap.size V1123 V1130:=by rw [← h1133];exact (Below.refl _ _).alloc (Nat.le_refl _) _
       have f1132:=hide (nwb h1133)
       have f1134:=hide ((uh f1127).keep f1132b)
       clear f1127
       have f1135:=hide ((uh f1128).keep f1132b)
       clear f1128
       have f1136:=hide (((f1132b).block _ (heap_lt (uh f1129))).trans (uh f1129))
       clear f1129
       have f1137:=hide (((f1132b).block _ (heap_lt (uh f1125))).trans (uh f1125))
       clear f1125
       clear h1133 f1132b
       refine wpAnyH_ready (rs:=[3]) (by kernel_rfl) (by simp) ?_
       refine AllReadyH.cons (o:=⟨some 18,.call { callee:=.value (.func 15),args:=#[.tmp 17],argTypes:=#[26] },_,_,_,none⟩) rfl (fun K hK=>?_) ?_
       ·go_simp
        refine (cOr TP TQ vp vq _ _ (uh f1132) (uh f1134) (uh f1135) (by decide +kernel)).mono ?_
        rintro e w1138 ⟨⟨v1141,rfl,b1139n⟩,b1139⟩
        simp only [Nv.val]
        have R1140:Below U.heap.size U w1138:=below_sub R1131 b1139
        have b1139z:=heap_lt (uh f1137)
        have f1142:=hide ((uh f1134).keep b1139)
        clear f1134
        have f1143:=hide ((uh f1135).keep b1139)
        clear f1135
        have f1144:=hide (((b1139).block _ (heap_lt (uh f1136))).trans (uh f1136))
        clear f1136
        have f1145:=hide (((b1139).block _ (heap_lt (uh f1137))).trans (uh f1137))
        clear f1137
        have f1146:=hide (((b1139).block _ (heap_lt (uh f1132))).trans (uh f1132))
        clear f1132
        have f1147:=hide b1139n
        clear b1139 b1139n
        refine hK.out _ _ (KS _ R1140) (fun hHeld=>?_)
        clear hK K
        refine wpAnyH_ready (rs:=[7]) (by kernel_rfl) (by simp) ?_
        refine AllReadyH.cons (o:=⟨some 22,.call { callee:=.value (.func 14),args:=#[.tmp 21],argTypes:=#[26] },_,_,_,none⟩) rfl (fun K hK=>?_) ?_
        ·go_simp
         refine (cAnd TQ TP vq vp _ _ (uh f1144) (uh f1143) (uh f1142) (by decide +kernel)).mono ?_
         rintro e w1148 ⟨⟨v1151,rfl,b1149n⟩,b1149⟩
         simp only [Nv.val]
         have R1150:Below U.heap.size U w1148:=below_sub R1140 b1149
         have b1149z:=heap_lt (uh f1145)
         have f1152:=hide ((uh f1142).keep b1149)
         clear f1142
         have f1153:=hide ((uh f1143).keep b1149)
         clear f1143
         have f1154:=hide (((b1149).block _ (heap_lt (uh f1144))).trans (uh f1144))
         clear f1144
         have f1155:=hide (((b1149).block _ (heap_lt (uh f1145))).trans (uh f1145))
         clear f1145
         have f1156:=hide (((b1149).block _ (heap_lt (uh f1146))).trans (uh f1146))
         clear f1146
         have f1157:=hide ((uh f1147).keep b1149)
         clear f1147
         have f1158:=hide b1149n
         clear b1149 b1149n
         refine hK.out _ _ (KS _ R1150) (fun hHeld=>?_)
         clear hK K
         refine wpAnyH_ready (rs:=[8]) (by kernel_rfl) (by simp) ?_
         refine AllReadyH.cons (o:=⟨some 23,.call { callee:=.value (.func 16),args:=#[.tmp 22],argTypes:=#[28] },_,_,_,none⟩) rfl (fun K hK=>?_) ?_
         ·go_simp
          refine (cNot (joinT 3 [TQ,TP]) v1151 _ (uh f1158).toIn (by decide +kernel)).mono ?_
          rintro e w1159 ⟨⟨v1162,rfl,b1160n⟩,b1160⟩
          simp only [Nv.val]
          have R1161:Below U.heap.size U w1159:=below_sub R1150 b1160
          have b1160z:=heap_lt (uh f1155)
          have f1163:=hide ((uh f1152).keep b1160)
          clear f1152
          have f1164:=hide ((uh f1153).keep b1160)
          clear f1153
          have f1165:=hide (((b1160).block _ (heap_lt (uh f1154))).trans (uh f1154))
          clear f1154
          have f1166:=hide (((b1160).block _ (heap_lt (uh f1155))).trans (uh f1155))
          clear f1155
          have f1167:=hide (((b1160).block _ (heap_lt (uh f1156))).trans (uh f1156))
          clear f1156
          have f1168:=hide ((uh f1157).keep b1160)
          clear f1157
          have f1169:=hide ((uh f1158).keep b1160)
          clear f1158
          have f1170:=hide b1160n
          clear b1160 b1160n
          refine hK.out _ _ (KS _ R1161) (fun hHeld=>?_)
          clear hK K
          refine wpAnyH_ready (rs:=[9]) (by kernel_rfl) (by simp) ?_
          refine AllReadyH.cons (o:=⟨some 24,.buildSlice 26 2 #[(0,.tmp 18),(1,.tmp 23)],_,_,_,none⟩) rfl (fun K hK=>?_) ?_
          ·go_simp
           refine hK.out _ _ (KS _ ((R1161).alloc (R1161).size _)) (fun hHeld=>?_)
           clear hK K
           obtain ⟨V1171,h1174⟩:∃ V1171,World.alloc w1159 (.cells #[.int .i64 v1141.kind,.string v1141.attr,.slice v1141.qi v1141.ni v1141.ci,.slice v1141.qw v1141.nw v1141.cw,.int .i64 v1141.lo,.int .i64 v1141.hi,.int .i64 v1141.op,.slice v1141.qk v1141.nk v1141.ck,.int .i64 v1162.kind,.string v1162.attr,.slice v1162.qi v1162.ni v1162.ci,.slice v1162.qw v1162.nw v1162.cw,.int .i64 v1162.lo,.int .i64 v1162.hi,.int .i64 v1162.op,.slice v1162.qk v1162.nk v1162.ck] 28)=V1171:=⟨_,rfl⟩
           rw [h1174]
           have R1172:Below U.heap.size U V1171:=by rw [← h1174];exact R1161.alloc R1161.size _
           have f1173b:Below w1159.heap.size w1159 V1171:=by rw [← h1174];exact (Below.refl _ _).alloc (Nat.le_refl _) _
           have f1173:=hide (nwb h1174)
           have f1175:=hide ((uh f1163).keep f1173b)
           clear f1163
           have f1176:=hide ((uh f1164).keep f1173b)
           clear f1164
           have f1177:=hide (((f1173b).block _ (heap_lt (uh f1165))).trans (uh f1165))
           clear f1165
           have f1178:=hide (((f1173b).block _ (heap_lt (uh f1166))).trans (uh f1166))
           clear f1166
           have f1179:=hide (((f1173b).block _ (heap_lt (uh f1167))).trans (uh f1167))
           clear f1167
           have f1180:=hide ((uh f1168).keep f1173b)
           clear f1168
           have f1181:=hide ((uh f1169).keep f1173b)
           clear f1169
           have f1182:=hide ((uh f1170).keep f1173b)
           clear f1170
           clear h1174 f1173b
           refine wpAnyH_ready (rs:=[10]) (by kernel_rfl) (by simp) ?_
           refine AllReadyH.cons (o:=⟨some 25,.call { callee:=.value (.func 14),args:=#[.tmp 24],argTypes:=#[26] },_,_,_,none⟩) rfl (fun K hK=>?_) ?_
           ·go_simp
            refine (cAnd (joinT 4 [TP,TQ]) (notT (joinT 3 [TQ,TP])) v1141 v1162 _ _ (uh f1173) (uh f1180).toIn (uh f1182).toIn (by decide +kernel)).mono ?_
            rintro e w1183 ⟨⟨v1186,rfl,b1184n⟩,b1184⟩
            simp only [Nv.val]
            have R1185:Below U.heap.size U w1183:=below_sub R1172 b1184
            have b1184z:=heap_lt (uh f1178)
            have f1187:=hide ((uh f1175).keep b1184)
            clear f1175
            have f1188:=hide ((uh f1176).keep b1184)
            clear f1176
            have f1189:=hide (((b1184).block _ (heap_lt (uh f1177))).trans (uh f1177))
            clear f1177
            have f1190:=hide (((b1184).block _ (heap_lt (uh f1178))).trans (uh f1178))
            clear f1178
            have f1191:=hide (((b1184).block _ (heap_lt (uh f1179))).trans (uh f1179))
            clear f1179
            have f1192:=hide ((uh f1180).keep b1184)
            clear f1180
            have f1193:=hide ((uh f1181).keep b1184)
            clear f1181
            have f1194:=hide ((uh f1182).keep b1184)
            clear f1182
            have f1195:=hide (((b1184).block _ (heap_lt (uh f1173))).trans (uh f1173))
            clear f1173
            have f1196:=hide b1184n
            clear b1184 b1184n
            refine hK.out _ _ (KS _ R1185) (fun hHeld=>?_)
            clear hK K
            refine wpAnyH_ready (rs:=[12]) (by kernel_rfl) (by simp) ?_
            refine AllReadyH.cons (o:=⟨none,.store 28 (.tmp 3) (.tmp 25),_,_,_,none⟩) rfl (fun K hK=>?_) ?_
            ·have z1197g:U.heap.size≤V795.heap.size:=(R796).size
             obtain ⟨z1197_0,z1197_1,z1197_2,z1197_3,z1197_4,z1197_5,z1197_6,z1197_7⟩:=of8' (uh f1190)
             have z1197f:∀ o,World.frozen? w1183 ⟨V795.heap.size,o,none⟩=false:=fun o=>frozen_free (uh f1190)
             have z1197l:=heap_lt (uh f1190)
             go_simp
             refine hK.out _ _ (KS _ (set8_below (g:=V795.heap.size) R1185 z1197g (.int .i64 v1186.kind) (.string v1186.attr) (.slice v1186.qi v1186.ni v1186.ci) (.slice v1186.qw v1186.nw v1186.cw) (.int .i64 v1186.lo) (.int .i64 v1186.hi) (.int .i64 v1186.op) (.slice v1186.qk v1186.nk v1186.ck))) (fun hHeld=>?_)
             clear hK K
             refine wpAnyH_done (by kernel_rfl) ?_ _
             go_wp2
             go_meet
             case rel =>
               have q1198g:U.heap.size≤V795.heap.size:=(R796).size
               have q1198b:=set8_below (g:=V795.heap.size) R1185 q1198g (.int .i64 v1186.kind) (.string v1186.attr) (.slice v1186.qi v1186.ni v1186.ci) (.slice v1186.qw v1186.nw v1186.cw) (.int .i64 v1186.lo) (.int .i64 v1186.hi) (.int .i64 v1186.op) (.slice v1186.qk v1186.nk v1186.ck)
               refine ⟨V795.heap.size,v1186,rfl,set8_blk (uh f1190),q1198b, ?_⟩
               exact ((uh f1196).up (set8_up (g:=V795.heap.size) _ b1184z (.int .i64 v1186.kind) (.string v1186.attr) (.slice v1186.qi v1186.ni v1186.ci) (.slice v1186.qw v1186.nw v1186.cw) (.int .i64 v1186.lo) (.int .i64 v1186.hi) (.int .i64 v1186.op) (.slice v1186.qk v1186.nk v1186.ck))).toIn
            exact AllReadyH.nil
           exact AllReadyH.nil
          exact AllReadyH.nil
         exact AllReadyH.nil
        exact AllReadyH.nil
       exact AllReadyH.nil
      exact AllReadyH.nil
     exact AllReadyH.nil
    refine AllReadyH.cons (o:=⟨some 3,.alloc 28,_,_,_,none⟩) rfl (fun K hK=>?_) ?_
    ·go_simp
     refine hK.out _ _ (KS _ ((Below.refl _ _).alloc (Nat.le_refl _) _).drew) (fun hHeld=>?_)
     clear hK K
     obtain ⟨V1199,h1202⟩:∃ V1199,(World.alloc U (.cells #[.int .i64 0,.string ⟨#[]⟩,.slice none 0 0,.slice none 0 0,.int .i64 0,.int .i64 0,.int .i64 0,.slice none 0 0] 28)).drew=V1199:=⟨_,rfl⟩
     rw [h1202]
     have R1200:Below U.heap.size U V1199:=by rw [← h1202];exact (show Below U.heap.size U (World.alloc U.drew (.cells #[.int .i64 0,.string ⟨#[]⟩,.slice none 0 0,.slice none 0 0,.int .i64 0,.int .i64 0,.int .i64 0,.slice none 0 0] 28)) from (R0).alloc (R0).size _)
     have f1201b:Below U.drew.heap.size U.drew V1199:=by rw [← h1202];exact (show Below U.drew.heap.size U.drew (World.alloc U.drew (.cells #[.int .i64 0,.string ⟨#[]⟩,.slice none 0 0,.slice none 0 0,.int .i64 0,.int .i64 0,.int .i64 0,.slice none 0 0] 28)) from (Below.refl _ _).alloc (Nat.le_refl _) _)
     have f1201:=hide (show V1199.heap[U.heap.size]? = some (.cells #[.int .i64 0,.string ⟨#[]⟩,.slice none 0 0,.slice none 0 0,.int .i64 0,.int .i64 0,.int .i64 0,.slice none 0 0] 28 (0,0)) by rw [← h1202];exact box_nw _ _)
     have f1203:=hide ((uh HP0).keep f1201b)
     clear HP0
     have f1204:=hide ((uh HQ0).keep f1201b)
     clear HQ0
     clear h1202 f1201b
     refine wpAnyH_ready (rs:=[2,6]) (by kernel_rfl) (by simp) ?_
     refine AllReadyH.cons (o:=⟨some 17,.buildSlice 26 2 #[(0,.tmp 15),(1,.tmp 16)],_,_,_,none⟩) rfl (fun K hK=>?_) ?_
     ·go_simp
      refine hK.out _ _ (KS _ ((R1200).alloc (R1200).size _)) (fun hHeld=>?_)
      clear hK K
      obtain ⟨V1205,h1208⟩:∃ V1205,World.alloc V1199 (.cells #[.int .i64 vp.kind,.string vp.attr,.slice vp.qi vp.ni vp.ci,.slice vp.qw vp.nw vp.cw,.int .i64 vp.lo,.int .i64 vp.hi,.int .i64 vp.op,.slice vp.qk vp.nk vp.ck,.int .i64 vq.kind,.string vq.attr,.slice vq.qi vq.ni vq.ci,.slice vq.qw vq.nw vq.cw,.int .i64 vq.lo,.int .i64 vq.hi,.int .i64 vq.op,.slice vq.qk vq.nk vq.ck] 28)=V1205:=⟨_,rfl⟩
      rw [h1208]
      have R1206:Below U.heap.size U V1205:=by rw [← h1208];exact R1200.alloc R1200.size _
      have f1207b:Below V1199.heap.size V1199 V1205:=by rw [← h1208];exact (Below.refl _ _).alloc (Nat.le_refl _) _
      have f1207:=hide (nwb h1208)
      have f1209:=hide ((uh f1203).keep f1207b)
      clear f1203
      have f1210:=hide ((uh f1204).keep f1207b)
      clear f1204
      have f1211:=hide (((f1207b).block _ (heap_lt (uh f1201))).trans (uh f1201))
      clear f1201
      clear h1208 f1207b
      refine wpAnyH_ready (rs:=[3,6]) (by kernel_rfl) (by simp) ?_
      refine AllReadyH.cons (o:=⟨some 18,.call { callee:=.value (.func 15),args:=#[.tmp 17],argTypes:=#[26] },_,_,_,none⟩) rfl (fun K hK=>?_) ?_
      ·go_simp
       refine (cOr TP TQ vp vq _ _ (uh f1207) (uh f1209) (uh f1210) (by decide +kernel)).mono ?_
       rintro e w1212 ⟨⟨v1215,rfl,b1213n⟩,b1213⟩
       simp only [Nv.val]
       have R1214:Below U.heap.size U w1212:=below_sub R1206 b1213
       have b1213z:=heap_lt (uh f1211)
       have f1216:=hide ((uh f1209).keep b1213)
       clear f1209
       have f1217:=hide ((uh f1210).keep b1213)
       clear f1210
       have f1218:=hide (((b1213).block _ (heap_lt (uh f1211))).trans (uh f1211))
       clear f1211
       have f1219:=hide (((b1213).block _ (heap_lt (uh f1207))).trans (uh f1207))
       clear f1207
       have f1220:=hide b1213n
       clear b1213 b1213n
       refine hK.out _ _ (KS _ R1214) (fun hHeld=>?_)
       clear hK K
       refine wpAnyH_ready (rs:=[6]) (by kernel_rfl) (by simp) ?_
       refine AllReadyH.cons (o:=⟨some 21,.buildSlice 26 2 #[(0,.tmp 19),(1,.tmp 20)],_,_,_,none⟩) rfl (fun K hK=>?_) ?_
       ·go_simp
        refine hK.out _ _ (KS _ ((R1214).alloc (R1214).size _)) (fun hHeld=>?_)
        clear hK K
        obtain ⟨V1221,h1224⟩:∃ V1221,World.alloc w1212 (.cells #[.int .i64 vq.kind,.string vq.attr,.slice vq.qi vq.ni vq.ci,.slice vq.qw vq.nw vq.cw,.int .i64 vq.lo,.int .i64 vq.hi,.int .i64 vq.op,.slice vq.qk vq.nk vq.ck,.int .i64 vp.kind,.string vp.attr,.slice vp.qi vp.ni vp.ci,.slice vp.qw vp.nw vp.cw,.int .i64 vp.lo,.int .i64 vp.hi,.int .i64 vp.op,.slice vp.qk vp.nk vp.ck] 28)=V1221:=⟨_,rfl⟩
        rw [h1224]
        have R1222:Below U.heap.size U V1221:=by rw [← h1224];exact R1214.alloc R1214.size _
        have f1223b:Below w1212.heap.size w1212 V1221:=by rw [← h1224];exact (Below.refl _ _).alloc (Nat.le_refl _) _
        have f1223:=hide (nwb h1224)
        have f1225:=hide ((uh f1216).keep f1223b)
        clear f1216
        have f1226:=hide ((uh f1217).keep f1223b)
        clear f1217
        have f1227:=hide (((f1223b).block _ (heap_lt (uh f1218))).trans (uh f1218))
        clear f1218
        have f1228:=hide (((f1223b).block _ (heap_lt (uh f1219))).trans (uh f1219))
        clear f1219
        have f1229:=hide ((uh f1220).keep f1223b)
        clear f1220
        clear h1224 f1223b
        refine wpAnyH_ready (rs:=[7]) (by kernel_rfl) (by simp) ?_
        refine AllReadyH.cons (o:=⟨some 22,.call { callee:=.value (.func 14),args:=#[.tmp 21],argTypes:=#[26] },_,_,_,none⟩) rfl (fun K hK=>?_) ?_
        ·go_simp
         refine (cAnd TQ TP vq vp _ _ (uh f1223) (uh f1226) (uh f1225) (by decide +kernel)).mono ?_
         rintro e w1230 ⟨⟨v1233,rfl,b1231n⟩,b1231⟩
         simp only [Nv.val]
         have R1232:Below U.heap.size U w1230:=below_sub R1222 b1231
         have b1231z:=heap_lt (uh f1227)
         have f1234:=hide ((uh f1225).keep b1231)
         clear f1225
         have f1235:=hide ((uh f1226).keep b1231)
         clear f1226
         have f1236:=hide (((b1231).block _ (heap_lt (uh f1227))).trans (uh f1227))
         clear f1227
         have f1237:=hide (((b1231).block _ (heap_lt (uh f1228))).trans (uh f1228))
         clear f1228
         have f1238:=hide ((uh f1229).keep b1231)
         clear f1229
         have f1239:=hide (((b1231).block _ (heap_lt (uh f1223))).trans (uh f1223))
         clear f1223
         have f1240:=hide b1231n
         clear b1231 b1231n
         refine hK.out _ _ (KS _ R1232) (fun hHeld=>?_)
         clear hK K
         refine wpAnyH_ready (rs:=[8]) (by kernel_rfl) (by simp) ?_
         refine AllReadyH.cons (o:=⟨some 23,.call { callee:=.value (.func 16),args:=#[.tmp 22],argTypes:=#[28] },_,_,_,none⟩) rfl (fun K hK=>?_) ?_
         ·go_simp
          refine (cNot (joinT 3 [TQ,TP]) v1233 _ (uh f1240).toIn (by decide +kernel)).mono ?_
          rintro e w1241 ⟨⟨v1244,rfl,b1242n⟩,b1242⟩
          simp only [Nv.val]
          have R1243:Below U.heap.size U w1241:=below_sub R1232 b1242
          have b1242z:=heap_lt (uh f1236)
          have f1245:=hide ((uh f1234).keep b1242)
          clear f1234
          have f1246:=hide ((uh f1235).keep b1242)
          clear f1235
          have f1247:=hide (((b1242).block _ (heap_lt (uh f1236))).trans (uh f1236))
          clear f1236
          have f1248:=hide (((b1242).block _ (heap_lt (uh f1237))).trans (uh f1237))
          clear f1237
          have f1249:=hide ((uh f1238).keep b1242)
          clear f1238
          have f1250:=hide (((b1242).block _ (heap_lt (uh f1239))).trans (uh f1239))
          clear f1239
          have f1251:=hide ((uh f1240).keep b1242)
          clear f1240
          have f1252:=hide b1242n
          clear b1242 b1242n
          refine hK.out _ _ (KS _ R1243) (fun hHeld=>?_)
          clear hK K
          refine wpAnyH_ready (rs:=[9]) (by kernel_rfl) (by simp) ?_
          refine AllReadyH.cons (o:=⟨some 24,.buildSlice 26 2 #[(0,.tmp 18),(1,.tmp 23)],_,_,_,none⟩) rfl (fun K hK=>?_) ?_
          ·go_simp
           refine hK.out _ _ (KS _ ((R1243).alloc (R1243).size _)) (fun hHeld=>?_)
           clear hK K
           obtain ⟨V1253,h1256⟩:∃ V1253,World.alloc w1241 (.cells #[.int .i64 v1215.kind,.string v1215.attr,.slice v1215.qi v1215.ni v1215.ci,.slice v1215.qw v1215.nw v1215.cw,.int .i64 v1215.lo,.int .i64 v1215.hi,.int .i64 v1215.op,.slice v1215.qk v1215.nk v1215.ck,.int .i64 v1244.kind,.string v1244.attr,.slice v1244.qi v1244.ni v1244.ci,.slice v1244.qw v1244.nw v1244.cw,.int .i64 v1244.lo,.int .i64 v1244.hi,.int .i64 v1244.op,.slice v1244.qk v1244.nk v1244.ck] 28)=V1253:=⟨_,rfl⟩
           rw [h1256]
           have R1254:Below U.heap.size U V1253:=by rw [← h1256];exact R1243.alloc R1243.size _
           have f1255b:Below w1241.heap.size w1241 V1253:=by rw [← h1256];exact (Below.refl _ _).alloc (Nat.le_refl _) _
           have f1255:=hide (nwb h1256)
           have f1257:=hide ((uh f1245).keep f1255b)
           clear f1245
           have f1258:=hide ((uh f1246).keep f1255b)
           clear f1246
           have f1259:=hide (((f1255b).block _ (heap_lt (uh f1247))).trans (uh f1247))
           clear f1247
           have f1260:=hide (((f1255b).block _ (heap_lt (uh f1248))).trans (uh f1248))
           clear f1248
           have f1261:=hide ((uh f1249).keep f1255b)
           clear f1249
           have f1262:=hide (((f1255b).block _ (heap_lt (uh f1250))).trans (uh f1250))
           clear f1250
           have f1263:=hide ((uh f1251).keep f1255b)
           clear f1251
           have f1264:=hide ((uh f1252).keep f1255b)
           clear f1252
           clear h1256 f1255b
           refine wpAnyH_ready (rs:=[10]) (by kernel_rfl) (by simp) ?_
           refine AllReadyH.cons (o:=⟨some 25,.call { callee:=.value (.func 14),args:=#[.tmp 24],argTypes:=#[26] },_,_,_,none⟩) rfl (fun K hK=>?_) ?_
           ·go_simp
            refine (cAnd (joinT 4 [TP,TQ]) (notT (joinT 3 [TQ,TP])) v1215 v1244 _ _ (uh f1255) (uh f1261).toIn (uh f1264).toIn (by decide +kernel)).mono ?_
            rintro e w1265 ⟨⟨v1268,rfl,b1266n⟩,b1266⟩
            simp only [Nv.val]
            have R1267:Below U.heap.size U w1265:=below_sub R1254 b1266
            have b1266z:=heap_lt (uh f1259)
            have f1269:=hide ((uh f1257).keep b1266)
            clear f1257
            have f1270:=hide ((uh f1258).keep b1266)
            clear f1258
            have f1271:=hide (((b1266).block _ (heap_lt (uh f1259))).trans (uh f1259))
            clear f1259
            have f1272:=hide (((b1266).block _ (heap_lt (uh f1260))).trans (uh f1260))
            clear f1260
            have f1273:=hide ((uh f1261).keep b1266)
            clear f1261
            have f1274:=hide (((b1266).block _ (heap_lt (uh f1262))).trans (uh f1262))
            clear f1262
            have f1275:=hide ((uh f1263).keep b1266)
            clear f1263
            have f1276:=hide ((uh f1264).keep b1266)
            clear f1264
            have f1277:=hide (((b1266).block _ (heap_lt (uh f1255))).trans (uh f1255))
            clear f1255
            have f1278:=hide b1266n
            clear b1266 b1266n
            refine hK.out _ _ (KS _ R1267) (fun hHeld=>?_)
            clear hK K
            refine wpAnyH_ready (rs:=[12]) (by kernel_rfl) (by simp) ?_
            refine AllReadyH.cons (o:=⟨none,.store 28 (.tmp 3) (.tmp 25),_,_,_,none⟩) rfl (fun K hK=>?_) ?_
            ·have z1279g:U.heap.size≤U.heap.size:=(R0).size
             obtain ⟨z1279_0,z1279_1,z1279_2,z1279_3,z1279_4,z1279_5,z1279_6,z1279_7⟩:=of8' (uh f1271)
             have z1279f:∀ o,World.frozen? w1265 ⟨U.heap.size,o,none⟩=false:=fun o=>frozen_free (uh f1271)
             have z1279l:=heap_lt (uh f1271)
             go_simp
             refine hK.out _ _ (KS _ (set8_below (g:=U.heap.size) R1267 z1279g (.int .i64 v1268.kind) (.string v1268.attr) (.slice v1268.qi v1268.ni v1268.ci) (.slice v1268.qw v1268.nw v1268.cw) (.int .i64 v1268.lo) (.int .i64 v1268.hi) (.int .i64 v1268.op) (.slice v1268.qk v1268.nk v1268.ck))) (fun hHeld=>?_)
             clear hK K
             refine wpAnyH_done (by kernel_rfl) ?_ _
             go_wp2
             go_meet
             case rel =>
               have q1280g:U.heap.size≤U.heap.size:=(R0).size
               have q1280b:=set8_below (g:=U.heap.size) R1267 q1280g (.int .i64 v1268.kind) (.string v1268.attr) (.slice v1268.qi v1268.ni v1268.ci) (.slice v1268.qw v1268.nw v1268.cw) (.int .i64 v1268.lo) (.int .i64 v1268.hi) (.int .i64 v1268.op) (.slice v1268.qk v1268.nk v1268.ck)
               refine ⟨U.heap.size,v1268,rfl,set8_blk (uh f1271),q1280b, ?_⟩
               exact ((uh f1278).up (set8_up (g:=U.heap.size) _ b1266z (.int .i64 v1268.kind) (.string v1268.attr) (.slice v1268.qi v1268.ni v1268.ci) (.slice v1268.qw v1268.nw v1268.cw) (.int .i64 v1268.lo) (.int .i64 v1268.hi) (.int .i64 v1268.op) (.slice v1268.qk v1268.nk v1268.ck))).toIn
            exact AllReadyH.nil
           exact AllReadyH.nil
          exact AllReadyH.nil
         exact AllReadyH.nil
        exact AllReadyH.nil
       exact AllReadyH.nil
      refine AllReadyH.cons (o:=⟨some 21,.buildSlice 26 2 #[(0,.tmp 19),(1,.tmp 20)],_,_,_,none⟩) rfl (fun K hK=>?_) ?_
      ·go_simp
       refine hK.out _ _ (KS _ ((R1206).alloc (R1206).size _)) (fun hHeld=>?_)
       clear hK K
       obtain ⟨V1281,h1284⟩:∃ V1281,World.alloc V1205 (.cells #[.int .i64 vq.kind,.string vq.attr,.slice vq.qi vq.ni vq.ci,.slice vq.qw vq.nw vq.cw,.int .i64 vq.lo,.int .i64 vq.hi,.int .i64 vq.op,.slice vq.qk vq.nk vq.ck,.int .i64 vp.kind,.string vp.attr,.slice vp.qi vp.ni vp.ci,.slice vp.qw vp.nw vp.cw,.int .i64 vp.lo,.int .i64 vp.hi,.int .i64 vp.op,.slice vp.qk vp.nk vp.ck] 28)=V1281:=⟨_,rfl⟩
       rw [h1284]
       have R1282:Below U.heap.size U V1281:=by rw [← h1284];exact R1206.alloc R1206.size _
       have f1283b:Below V1205.heap.size V1205 V1281:=by rw [← h1284];exact (Below.refl _ _).alloc (Nat.le_refl _) _
       have f1283:=hide (nwb h1284)
       have f1285:=hide ((uh f1209).keep f1283b)
       clear f1209
       have f1286:=hide ((uh f1210).keep f1283b)
       clear f1210
       have f1287:=hide (((f1283b).block _ (heap_lt (uh f1211))).trans (uh f1211))
       clear f1211
       have f1288:=hide (((f1283b).block _ (heap_lt (uh f1207))).trans (uh f1207))
       clear f1207
       clear h1284 f1283b
       refine wpAnyH_ready (rs:=[3]) (by kernel_rfl) (by simp) ?_
       refine AllReadyH.cons (o:=⟨some 18,.call { callee:=.value (.func 15),args:=#[.tmp 17],argTypes:=#[26] },_,_,_,none⟩) rfl (fun K hK=>?_) ?_
       ·go_simp
        refine (cOr TP TQ vp vq _ _ (uh f1288) (uh f1285) (uh f1286) (by decide +kernel)).mono ?_
        rintro e w1289 ⟨⟨v1292,rfl,b1290n⟩,b1290⟩
        simp only [Nv.val]
        have R1291:Below U.heap.size U w1289:=below_sub R1282 b1290
        have b1290z:=heap_lt (uh f1287)
        have f1293:=hide ((uh f1285).keep b1290)
        clear f1285
        have f1294:=hide ((uh f1286).keep b1290)
        clear f1286
        have f1295:=hide (((b1290).block _ (heap_lt (uh f1287))).trans (uh f1287))
        clear f1287
        have f1296:=hide (((b1290).block _ (heap_lt (uh f1288))).trans (uh f1288))
        clear f1288
        have f1297:=hide (((b1290).block _ (heap_lt (uh f1283))).trans (uh f1283))
        clear f1283
        have f1298:=hide b1290n
        clear b1290 b1290n
        refine hK.out _ _ (KS _ R1291) (fun hHeld=>?_)
        clear hK K
        refine wpAnyH_ready (rs:=[7]) (by kernel_rfl) (by simp) ?_
        refine AllReadyH.cons (o:=⟨some 22,.call { callee:=.value (.func 14),args:=#[.tmp 21],argTypes:=#[26] },_,_,_,none⟩) rfl (fun K hK=>?_) ?_
        ·go_simp
         refine (cAnd TQ TP vq vp _ _ (uh f1297) (uh f1294) (uh f1293) (by decide +kernel)).mono ?_
         rintro e w1299 ⟨⟨v1302,rfl,b1300n⟩,b1300⟩
         simp only [Nv.val]
         have R1301:Below U.heap.size U w1299:=below_sub R1291 b1300
         have b1300z:=heap_lt (uh f1295)
         have f1303:=hide ((uh f1293).keep b1300)
         clear f1293
         have f1304:=hide ((uh f1294).keep b1300)
         clear f1294
         have f1305:=hide (((b1300).block _ (heap_lt (uh f1295))).trans (uh f1295))
         clear f1295
         have f1306:=hide (((b1300).block _ (heap_lt (uh f1296))).trans (uh f1296))
         clear f1296
         have f1307:=hide (((b1300).block _ (heap_lt (uh f1297))).trans (uh f1297))
         clear f1297
         have f1308:=hide ((uh f1298).keep b1300)
         clear f1298
         have f1309:=hide b1300n
         clear b1300 b1300n
         refine hK.out _ _ (KS _ R1301) (fun hHeld=>?_)
         clear hK K
         refine wpAnyH_ready (rs:=[8]) (by kernel_rfl) (by simp) ?_
         refine AllReadyH.cons (o:=⟨some 23,.call { callee:=.value (.func 16),args:=#[.tmp 22],argTypes:=#[28] },_,_,_,none⟩) rfl (fun K hK=>?_) ?_
         ·go_simp
          refine (cNot (joinT 3 [TQ,TP]) v1302 _ (uh f1309).toIn (by decide +kernel)).mono ?_
          rintro e w1310 ⟨⟨v1313,rfl,b1311n⟩,b1311⟩
          simp only [Nv.val]
          have R1312:Below U.heap.size U w1310:=below_sub R1301 b1311
          have b1311z:=heap_lt (uh f1305)
          have f1314:=hide ((uh f1303).keep b1311)
          clear f1303
          have f1315:=hide ((uh f1304).keep b1311)
          clear f1304
          have f1316:=hide (((b1311).block _ (heap_lt (uh f1305))).trans (uh f1305))
          clear f1305
          have f1317:=hide (((b1311).block _ (heap_lt (uh f1306))).trans (uh f1306))
          clear f1306
          have f1318:=hide (((b1311).block _ (heap_lt (uh f1307))).trans (uh f1307))
          clear f1307
          have f1319:=hide ((uh f1308).keep b1311)
          clear f1308
          have f1320:=hide ((uh f1309).keep b1311)
          clear f1309
          have f1321:=hide b1311n
          clear b1311 b1311n
          refine hK.out _ _ (KS _ R1312) (fun hHeld=>?_)
          clear hK K
          refine wpAnyH_ready (rs:=[9]) (by kernel_rfl) (by simp) ?_
          refine AllReadyH.cons (o:=⟨some 24,.buildSlice 26 2 #[(0,.tmp 18),(1,.tmp 23)],_,_,_,none⟩) rfl (fun K hK=>?_) ?_
          ·go_simp
           refine hK.out _ _ (KS _ ((R1312).alloc (R1312).size _)) (fun hHeld=>?_)
           clear hK K
           obtain ⟨V1322,h1325⟩:∃ V1322,World.alloc w1310 (.cells #[.int .i64 v1292.kind,.string v1292.attr,.slice v1292.qi v1292.ni v1292.ci,.slice v1292.qw v1292.nw v1292.cw,.int .i64 v1292.lo,.int .i64 v1292.hi,.int .i64 v1292.op,.slice v1292.qk v1292.nk v1292.ck,.int .i64 v1313.kind,.string v1313.attr,.slice v1313.qi v1313.ni v1313.ci,.slice v1313.qw v1313.nw v1313.cw,.int .i64 v1313.lo,.int .i64 v1313.hi,.int .i64 v1313.op,.slice v1313.qk v1313.nk v1313.ck] 28)=V1322:=⟨_,rfl⟩
           rw [h1325]
           have R1323:Below U.heap.size U V1322:=by rw [← h1325];exact R1312.alloc R1312.size _
           have f1324b:Below w1310.heap.size w1310 V1322:=by rw [← h1325];exact (Below.refl _ _).alloc (Nat.le_refl _) _
           have f1324:=hide (nwb h1325)
           have f1326:=hide ((uh f1314).keep f1324b)
           clear f1314
           have f1327:=hide ((uh f1315).keep f1324b)
           clear f1315
           have f1328:=hide (((f1324b).block _ (heap_lt (uh f1316))).trans (uh f1316))
           clear f1316
           have f1329:=hide (((f1324b).block _ (heap_lt (uh f1317))).trans (uh f1317))
           clear f1317
           have f1330:=hide (((f1324b).block _ (heap_lt (uh f1318))).trans (uh f1318))
           clear f1318
           have f1331:=hide ((uh f1319).keep f1324b)
           clear f1319
           have f1332:=hide ((uh f1320).keep f1324b)
           clear f1320
           have f1333:=hide ((uh f1321).keep f1324b)
           clear f1321
           clear h1325 f1324b
           refine wpAnyH_ready (rs:=[10]) (by kernel_rfl) (by simp) ?_
           refine AllReadyH.cons (o:=⟨some 25,.call { callee:=.value (.func 14),args:=#[.tmp 24],argTypes:=#[26] },_,_,_,none⟩) rfl (fun K hK=>?_) ?_
           ·go_simp
            refine (cAnd (joinT 4 [TP,TQ]) (notT (joinT 3 [TQ,TP])) v1292 v1313 _ _ (uh f1324) (uh f1331).toIn (uh f1333).toIn (by decide +kernel)).mono ?_
            rintro e w1334 ⟨⟨v1337,rfl,b1335n⟩,b1335⟩
            simp only [Nv.val]
            have R1336:Below U.heap.size U w1334:=below_sub R1323 b1335
            have b1335z:=heap_lt (uh f1328)
            have f1338:=hide ((uh f1326).keep b1335)
            clear f1326
            have f1339:=hide ((uh f1327).keep b1335)
            clear f1327
            have f1340:=hide (((b1335).block _ (heap_lt (uh f1328))).trans (uh f1328))
            clear f1328
            have f1341:=hide (((b1335).block _ (heap_lt (uh f1329))).trans (uh f1329))
            clear f1329
            have f1342:=hide (((b1335).block _ (heap_lt (uh f1330))).trans (uh f1330))
            clear f1330
            have f1343:=hide ((uh f1331).keep b1335)
            clear f1331
            have f1344:=hide ((uh f1332).keep b1335)
            clear f1332
            have f1345:=hide ((uh f1333).keep b1335)
            clear f1333
            have f1346:=hide (((b1335).block _ (heap_lt (uh f1324))).trans (uh f1324))
            clear f1324
            have f1347:=hide b1335n
            clear b1335 b1335n
            refine hK.out _ _ (KS _ R1336) (fun hHeld=>?_)
            clear hK K
            refine wpAnyH_ready (rs:=[12]) (by kernel_rfl) (by simp) ?_
            refine AllReadyH.cons (o:=⟨none,.store 28 (.tmp 3) (.tmp 25),_,_,_,none⟩) rfl (fun K hK=>?_) ?_
            ·have z1348g:U.heap.size≤U.heap.size:=(R0).size
             obtain ⟨z1348_0,z1348_1,z1348_2,z1348_3,z1348_4,z1348_5,z1348_6,z1348_7⟩:=of8' (uh f1340)
             have z1348f:∀ o,World.frozen? w1334 ⟨U.heap.size,o,none⟩=false:=fun o=>frozen_free (uh f1340)
             have z1348l:=heap_lt (uh f1340)
             go_simp
             refine hK.out _ _ (KS _ (set8_below (g:=U.heap.size) R1336 z1348g (.int .i64 v1337.kind) (.string v1337.attr) (.slice v1337.qi v1337.ni v1337.ci) (.slice v1337.qw v1337.nw v1337.cw) (.int .i64 v1337.lo) (.int .i64 v1337.hi) (.int .i64 v1337.op) (.slice v1337.qk v1337.nk v1337.ck))) (fun hHeld=>?_)
             clear hK K
             refine wpAnyH_done (by kernel_rfl) ?_ _
             go_wp2
             go_meet
             case rel =>
               have q1349g:U.heap.size≤U.heap.size:=(R0).size
               have q1349b:=set8_below (g:=U.heap.size) R1336 q1349g (.int .i64 v1337.kind) (.string v1337.attr) (.slice v1337.qi v1337.ni v1337.ci) (.slice v1337.qw v1337.nw v1337.cw) (.int .i64 v1337.lo) (.int .i64 v1337.hi) (.int .i64 v1337.op) (.slice v1337.qk v1337.nk v1337.ck)
               refine ⟨U.heap.size,v1337,rfl,set8_blk (uh f1340),q1349b, ?_⟩
               exact ((uh f1347).up (set8_up (g:=U.heap.size) _ b1335z (.int .i64 v1337.kind) (.string v1337.attr) (.slice v1337.qi v1337.ni v1337.ci) (.slice v1337.qw v1337.nw v1337.cw) (.int .i64 v1337.lo) (.int .i64 v1337.hi) (.int .i64 v1337.op) (.slice v1337.qk v1337.nk v1337.ck))).toIn
            exact AllReadyH.nil
           exact AllReadyH.nil
          exact AllReadyH.nil
         exact AllReadyH.nil
        exact AllReadyH.nil
       exact AllReadyH.nil
      exact AllReadyH.nil
     refine AllReadyH.cons (o:=⟨some 21,.buildSlice 26 2 #[(0,.tmp 19),(1,.tmp 20)],_,_,_,none⟩) rfl (fun K hK=>?_) ?_
     ·go_simp
      refine hK.out _ _ (KS _ ((R1200).alloc (R1200).size _)) (fun hHeld=>?_)
      clear hK K
      obtain ⟨V1350,h1353⟩:∃ V1350,World.alloc V1199 (.cells #[.int .i64 vq.kind,.string vq.attr,.slice vq.qi vq.ni vq.ci,.slice vq.qw vq.nw vq.cw,.int .i64 vq.lo,.int .i64 vq.hi,.int .i64 vq.op,.slice vq.qk vq.nk vq.ck,.int .i64 vp.kind,.string vp.attr,.slice vp.qi vp.ni vp.ci,.slice vp.qw vp.nw vp.cw,.int .i64 vp.lo,.int .i64 vp.hi,.int .i64 vp.op,.slice vp.qk vp.nk vp.ck] 28)=V1350:=⟨_,rfl⟩
      rw [h1353]
      have R1351:Below U.heap.size U V1350:=by rw [← h1353];exact R1200.alloc R1200.size _
      have f1352b:Below V1199.heap.size V1199 V1350:=by rw [← h1353];exact (Below.refl _ _).alloc (Nat.le_refl _) _
      have f1352:=hide (nwb h1353)
      have f1354:=hide ((uh f1203).keep f1352b)
      clear f1203
      have f1355:=hide ((uh f1204).keep f1352b)
      clear f1204
      have f1356:=hide (((f1352b).block _ (heap_lt (uh f1201))).trans (uh f1201))
      clear f1201
      clear h1353 f1352b
      refine wpAnyH_ready (rs:=[2]) (by kernel_rfl) (by simp) ?_
      refine AllReadyH.cons (o:=⟨some 17,.buildSlice 26 2 #[(0,.tmp 15),(1,.tmp 16)],_,_,_,none⟩) rfl (fun K hK=>?_) ?_
      ·go_simp
       refine hK.out _ _ (KS _ ((R1351).alloc (R1351).size _)) (fun hHeld=>?_)
       clear hK K
       obtain ⟨V1357,h1360⟩:∃ V1357,World.alloc V1350 (.cells #[.int .i64 vp.kind,.string vp.attr,.slice vp.qi vp.ni vp.ci,.slice vp.qw vp.nw vp.cw,.int .i64 vp.lo,.int .i64 vp.hi,.int .i64 vp.op,.slice vp.qk vp.nk vp.ck,.int .i64 vq.kind,.string vq.attr,.slice vq.qi vq.ni vq.ci,.slice vq.qw vq.nw vq.cw,.int .i64 vq.lo,.int .i64 vq.hi,.int .i64 vq.op,.slice vq.qk vq.nk vq.ck] 28)=V1357:=⟨_,rfl⟩
       rw [h1360]
       have R1358:Below U.heap.size U V1357:=by rw [← h1360];exact R1351.alloc R1351.size _
       have f1359b:Below V1350.heap.size V1350 V1357:=by rw [← h1360];exact (Below.refl _ _).alloc (Nat.le_refl _) _
       have f1359:=hide (nwb h1360)
       have f1361:=hide ((uh f1354).keep f1359b)
       clear f1354
       have f1362:=hide ((uh f1355).keep f1359b)
       clear f1355
       have f1363:=hide (((f1359b).block _ (heap_lt (uh f1356))).trans (uh f1356))
       clear f1356
       have f1364:=hide (((f1359b).block _ (heap_lt (uh f1352))).trans (uh f1352))
       clear f1352
       clear h1360 f1359b
       refine wpAnyH_ready (rs:=[3]) (by kernel_rfl) (by simp) ?_
       refine AllReadyH.cons (o:=⟨some 18,.call { callee:=.value (.func 15),args:=#[.tmp 17],argTypes:=#[26] },_,_,_,none⟩) rfl (fun K hK=>?_) ?_
       ·go_simp
        refine (cOr TP TQ vp vq _ _ (uh f1359) (uh f1361) (uh f1362) (by decide +kernel)).mono ?_
        rintro e w1365 ⟨⟨v1368,rfl,b1366n⟩,b1366⟩
        simp only [Nv.val]
        have R1367:Below U.heap.size U w1365:=below_sub R1358 b1366
        have b1366z:=heap_lt (uh f1363)
        have f1369:=hide ((uh f1361).keep b1366)
        clear f1361
        have f1370:=hide ((uh f1362).keep b1366)
        clear f1362
        have f1371:=hide (((b1366).block _ (heap_lt (uh f1363))).trans (uh f1363))
        clear f1363
        have f1372:=hide (((b1366).block _ (heap_lt (uh f1364))).trans (uh f1364))
        clear f1364
        have f1373:=hide (((b1366).block _ (heap_lt (uh f1359))).trans (uh f1359))
        clear f1359
        have f1374:=hide b1366n
        clear b1366 b1366n
        refine hK.out _ _ (KS _ R1367) (fun hHeld=>?_)
        clear hK K
        refine wpAnyH_ready (rs:=[7]) (by kernel_rfl) (by simp) ?_
        refine AllReadyH.cons (o:=⟨some 22,.call { callee:=.value (.func 14),args:=#[.tmp 21],argTypes:=#[26] },_,_,_,none⟩) rfl (fun K hK=>?_) ?_
        ·go_simp
         refine (cAnd TQ TP vq vp _ _ (uh f1372) (uh f1370) (uh f1369) (by decide +kernel)).mono ?_
         rintro e w1375 ⟨⟨v1378,rfl,b1376n⟩,b1376⟩
         simp only [Nv.val]
         have R1377:Below U.heap.size U w1375:=below_sub R1367 b1376
         have b1376z:=heap_lt (uh f1371)
         have f1379:=hide ((uh f1369).keep b1376)
         clear f1369
         have f1380:=hide ((uh f1370).keep b1376)
         clear f1370
         have f1381:=hide (((b1376).block _ (heap_lt (uh f1371))).trans (uh f1371))
         clear f1371
         have f1382:=hide (((b1376).block _ (heap_lt (uh f1372))).trans (uh f1372))
         clear f1372
         have f1383:=hide (((b1376).block _ (heap_lt (uh f1373))).trans (uh f1373))
         clear f1373
         have f1384:=hide ((uh f1374).keep b1376)
         clear f1374
         have f1385:=hide b1376n
         clear b1376 b1376n
         refine hK.out _ _ (KS _ R1377) (fun hHeld=>?_)
         clear hK K
         refine wpAnyH_ready (rs:=[8]) (by kernel_rfl) (by simp) ?_
         refine AllReadyH.cons (o:=⟨some 23,.call { callee:=.value (.func 16),args:=#[.tmp 22],argTypes:=#[28] },_,_,_,none⟩) rfl (fun K hK=>?_) ?_
         ·go_simp
          refine (cNot (joinT 3 [TQ,TP]) v1378 _ (uh f1385).toIn (by decide +kernel)).mono ?_
          rintro e w1386 ⟨⟨v1389,rfl,b1387n⟩,b1387⟩
          simp only [Nv.val]
          have R1388:Below U.heap.size U w1386:=below_sub R1377 b1387
          have b1387z:=heap_lt (uh f1381)
          have f1390:=hide ((uh f1379).keep b1387)
          clear f1379
          have f1391:=hide ((uh f1380).keep b1387)
          clear f1380
          have f1392:=hide (((b1387).block _ (heap_lt (uh f1381))).trans (uh f1381))
          clear f1381
          have f1393:=hide (((b1387).block _ (heap_lt (uh f1382))).trans (uh f1382))
          clear f1382
          have f1394:=hide (((b1387).block _ (heap_lt (uh f1383))).trans (uh f1383))
          clear f1383
          have f1395:=hide ((uh f1384).keep b1387)
          clear f1384
          have f1396:=hide ((uh f1385).keep b1387)
          clear f1385
          have f1397:=hide b1387n
          clear b1387 b1387n
          refine hK.out _ _ (KS _ R1388) (fun hHeld=>?_)
          clear hK K
          refine wpAnyH_ready (rs:=[9]) (by kernel_rfl) (by simp) ?_
          refine AllReadyH.cons (o:=⟨some 24,.buildSlice 26 2 #[(0,.tmp 18),(1,.tmp 23)],_,_,_,none⟩) rfl (fun K hK=>?_) ?_
          ·go_simp
           refine hK.out _ _ (KS _ ((R1388).alloc (R1388).size _)) (fun hHeld=>?_)
           clear hK K
           obtain ⟨V1398,h1401⟩:∃ V1398,World.alloc w1386 (.cells #[.int .i64 v1368.kind,.string v1368.attr,.slice v1368.qi v1368.ni v1368.ci,.slice v1368.qw v1368.nw v1368.cw,.int .i64 v1368.lo,.int .i64 v1368.hi,.int .i64 v1368.op,.slice v1368.qk v1368.nk v1368.ck,.int .i64 v1389.kind,.string v1389.attr,.slice v1389.qi v1389.ni v1389.ci,.slice v1389.qw v1389.nw v1389.cw,.int .i64 v1389.lo,.int .i64 v1389.hi,.int .i64 v1389.op,.slice v1389.qk v1389.nk v1389.ck] 28)=V1398:=⟨_,rfl⟩
           rw [h1401]
           have R1399:Below U.heap.size U V1398:=by rw [← h1401];exact R1388.alloc R1388.size _
           have f1400b:Below w1386.heap.size w1386 V1398:=by rw [← h1401];exact (Below.refl _ _).alloc (Nat.le_refl _) _
           have f1400:=hide (nwb h1401)
           have f1402:=hide ((uh f1390).keep f1400b)
           clear f1390
           have f1403:=hide ((uh f1391).keep f1400b)
           clear f1391
           have f1404:=hide (((f1400b).block _ (heap_lt (uh f1392))).trans (uh f1392))
           clear f1392
           have f1405:=hide (((f1400b).block _ (heap_lt (uh f1393))).trans (uh f1393))
           clear f1393
           have f1406:=hide (((f1400b).block _ (heap_lt (uh f1394))).trans (uh f1394))
           clear f1394
           have f1407:=hide ((uh f1395).keep f1400b)
           clear f1395
           have f1408:=hide ((uh f1396).keep f1400b)
           clear f1396
           have f1409:=hide ((uh f1397).keep f1400b)
           clear f1397
           clear h1401 f1400b
           refine wpAnyH_ready (rs:=[10]) (by kernel_rfl) (by simp) ?_
           refine AllReadyH.cons (o:=⟨some 25,.call { callee:=.value (.func 14),args:=#[.tmp 24],argTypes:=#[26] },_,_,_,none⟩) rfl (fun K hK=>?_) ?_
           ·go_simp
            refine (cAnd (joinT 4 [TP,TQ]) (notT (joinT 3 [TQ,TP])) v1368 v1389 _ _ (uh f1400) (uh f1407).toIn (uh f1409).toIn (by decide +kernel)).mono ?_
            rintro e w1410 ⟨⟨v1413,rfl,b1411n⟩,b1411⟩
            simp only [Nv.val]
            have R1412:Below U.heap.size U w1410:=below_sub R1399 b1411
            have b1411z:=heap_lt (uh f1404)
            have f1414:=hide ((uh f1402).keep b1411)
            clear f1402
            have f1415:=hide ((uh f1403).keep b1411)
            clear f1403
            have f1416:=hide (((b1411).block _ (heap_lt (uh f1404))).trans (uh f1404))
            clear f1404
            have f1417:=hide (((b1411).block _ (heap_lt (uh f1405))).trans (uh f1405))
            clear f1405
            have f1418:=hide (((b1411).block _ (heap_lt (uh f1406))).trans (uh f1406))
            clear f1406
            have f1419:=hide ((uh f1407).keep b1411)
            clear f1407
            have f1420:=hide ((uh f1408).keep b1411)
            clear f1408
            have f1421:=hide ((uh f1409).keep b1411)
            clear f1409
            have f1422:=hide (((b1411).block _ (heap_lt (uh f1400))).trans (uh f1400))
            clear f1400
            have f1423:=hide b1411n
            clear b1411 b1411n
            refine hK.out _ _ (KS _ R1412) (fun hHeld=>?_)
            clear hK K
            refine wpAnyH_ready (rs:=[12]) (by kernel_rfl) (by simp) ?_
            refine AllReadyH.cons (o:=⟨none,.store 28 (.tmp 3) (.tmp 25),_,_,_,none⟩) rfl (fun K hK=>?_) ?_
            ·have z1424g:U.heap.size≤U.heap.size:=(R0).size
             obtain ⟨z1424_0,z1424_1,z1424_2,z1424_3,z1424_4,z1424_5,z1424_6,z1424_7⟩:=of8' (uh f1416)
             have z1424f:∀ o,World.frozen? w1410 ⟨U.heap.size,o,none⟩=false:=fun o=>frozen_free (uh f1416)
             have z1424l:=heap_lt (uh f1416)
             go_simp
             refine hK.out _ _ (KS _ (set8_below (g:=U.heap.size) R1412 z1424g (.int .i64 v1413.kind) (.string v1413.attr) (.slice v1413.qi v1413.ni v1413.ci) (.slice v1413.qw v1413.nw v1413.cw) (.int .i64 v1413.lo) (.int .i64 v1413.hi) (.int .i64 v1413.op) (.slice v1413.qk v1413.nk v1413.ck))) (fun hHeld=>?_)
             clear hK K
             refine wpAnyH_done (by kernel_rfl) ?_ _
             go_wp2
             go_meet
             case rel =>
               have q1425g:U.heap.size≤U.heap.size:=(R0).size
               have q1425b:=set8_below (g:=U.heap.size) R1412 q1425g (.int .i64 v1413.kind) (.string v1413.attr) (.slice v1413.qi v1413.ni v1413.ci) (.slice v1413.qw v1413.nw v1413.cw) (.int .i64 v1413.lo) (.int .i64 v1413.hi) (.int .i64 v1413.op) (.slice v1413.qk v1413.nk v1413.ck)
               refine ⟨U.heap.size,v1413,rfl,set8_blk (uh f1416),q1425b, ?_⟩
               exact ((uh f1423).up (set8_up (g:=U.heap.size) _ b1411z (.int .i64 v1413.kind) (.string v1413.attr) (.slice v1413.qi v1413.ni v1413.ci) (.slice v1413.qw v1413.nw v1413.cw) (.int .i64 v1413.lo) (.int .i64 v1413.hi) (.int .i64 v1413.op) (.slice v1413.qk v1413.nk v1413.ck))).toIn
            exact AllReadyH.nil
           exact AllReadyH.nil
          exact AllReadyH.nil
         exact AllReadyH.nil
        exact AllReadyH.nil
       exact AllReadyH.nil
      exact AllReadyH.nil
     exact AllReadyH.nil
    exact AllReadyH.nil
  case rest =>
    obtain ⟨N3,vm,rfl,hV3,hUV,hVm⟩:=hcut
    obtain ⟨V,rfl⟩:∃ V,V=wc:=⟨_,rfl⟩
    have BV:=hide (below_sub (uh BU) hUV)
    have HV3:=hide hV3
    have HVM:=hide hVm
    obtain ⟨m0,m1,m2,m3,m4,m5,m6,m7⟩:=of8' hV3
    have hlt3:=heap_lt hV3
    have h4:=cExp4 vm V hVm
    have h3:=fun (W:World) (hW:Below V.heap.size V W)=>cExp3 vm W (hVm.keep hW)
    clear KS HP HQ hUV hV3 hVm
    have hAny:=fun (q:Option Addr) (c:Nat) (M:Nat) (W:World) (h1:SlOf encP 4 W (some ⟨M,0,none⟩) 1 [PA]) (h2:CjsOf W q c CS)=>dnfAny_any (some ⟨M,0,none⟩) 1 [PA] q c CS W h1 h2 (fun ls hl=>(CS_small ls hl).1) (by decide) (by decide)
    have hHo0:=fun (q:Option Addr) (c:Nat) (M:Nat) (W:World) (h1:SlOf encP 4 W (some ⟨M,0,none⟩) 1 [PA]) (h2:LitsOf W q c [(⟨1,⟨#[97]⟩,[1],[],0,0,false⟩:Lt),⟨1,⟨#[97]⟩,[2],[],0,0,true⟩])=>dnfHolds_any (some ⟨M,0,none⟩) 1 [PA] q c _ W h1 h2 (CS_small _ (by simp [CS])).1.1 (by decide) (by decide)
    have hHo1:=fun (q:Option Addr) (c:Nat) (M:Nat) (W:World) (h1:SlOf encP 4 W (some ⟨M,0,none⟩) 1 [PA]) (h2:LitsOf W q c [(⟨1,⟨#[97]⟩,[1],[],0,0,false⟩:Lt),⟨1,⟨#[97]⟩,[1],[],0,0,true⟩])=>dnfHolds_any (some ⟨M,0,none⟩) 1 [PA] q c _ W h1 h2 (CS_small _ (by simp [CS])).1.1 (by decide) (by decide)
    simp only [any_CS.1,any_CS.2.1,any_CS.2.2,List.length_cons,List.length_nil,Nat.zero_add,show CS.length=4 from rfl] at hAny hHo0 hHo1
    go_wp2_with (first
      | (go_at_call 6;have tst:=uh B4;clear tst;refine (h3 _ (uh B4)).mono ?_;rintro e w5 ⟨⟨q5,c5,rfl⟩,b5⟩;simp only;have B5:=hide (below_sub (uh B4) b5);have CJ5:=hide ((uh CJ).below b5);(obtain ⟨W6,HW6⟩:∃ W6,w5.alloc (.cells #[.string ⟨#[97]⟩,.int .i64 1,.int .i64 1,.string ⟨#[]⟩] 48)=W6:=⟨_,rfl⟩);have b6:Below w5.heap.size w5 W6:=(by rw [← HW6];exact (Below.refl _ _).alloc (Nat.le_refl _) _);have k6:W6.heap[w5.heap.size]? = some (.cells #[.string ⟨#[97]⟩,.int .i64 1,.int .i64 1,.string ⟨#[]⟩] 48 (0,0)):=(by rw [← HW6];exact box_nw _ _);have PR:=hide (pr_of k6);have CJ6:=hide ((uh CJ5).below b6);have B6:=hide (below_sub (uh B5) b6);(obtain ⟨b,off,q1,c1,hq,hb1,l1,k1⟩:=(uh CJ6).at (j:=1) rfl);subst hq;(obtain ⟨_,_,q2,c2,hq2,hb2,l2,k2⟩:=(uh CJ6).at (j:=2) rfl);cases hq2;(obtain ⟨_,_,q0,c0,hq0,hb0,l0,k0⟩:=(uh CJ6).at (j:=0) rfl);cases hq0;(obtain ⟨e1,f1,u1,hq1,_,i1,_,_,_,_,_,_,j1⟩:=l1.at (j:=1) rfl);subst hq1;(obtain ⟨e2,f2,u2,hq2,_,i2,_,_,_,_,_,_,j2⟩:=l2.at (j:=0) rfl);subst hq2;rw [show u1.neg=true from i1.2.2.2.2.2.2.1] at j1;rw [show u2.neg=false from i2.2.2.2.2.2.2.1] at j2;simp only [List.length_cons,List.length_nil,Nat.zero_add,Nat.add_zero,Nat.one_mul,Nat.zero_mul] at k0 k1 k2 j1 j2;have L0:=hide l0;have L1:=hide l1;have K0:=hide k0;have K1:=hide k1;clear b5 b6 k6 l1 l2 l0 i1 i2)
      | (go_at_call 6;refine h4.mono ?_;rintro e w4 ⟨⟨q4,c4,rfl,cj⟩,b4⟩;simp only;have CJ:=hide cj;have B4:=hide b4;(obtain ⟨d0,d1,d2,d3,d4,d5,d6,d7⟩:=of8' ((b4.block _ hlt3).trans (uh HV3)));clear cj b4)
      | (go_at_call 17;refine (cTree _ _ _ (uh CJ6)).mono ?_;rintro e w7 ⟨⟨v,rfl,hnk⟩,b7⟩;simp only [Nv.val,hnk];have B7:=hide b7;clear b7)
      | (go_at_call 18;refine name_worldM ?_;intro Y hY;have bY:Below W6.heap.size W6 Y:=(by rw [hY];exact below_sub (uh B7) ((Below.refl _ _).alloc (Nat.le_refl _) _));refine (hAny _ _ _ Y ((uh PR).below bY) ((uh CJ6).below bY)).mono ?_;rintro e w9 ⟨rfl,b9⟩;have B9:=hide (below_sub bY b9);have x0:=(((uh B9).cell (p:=⟨b,off,none⟩) hb0).trans (uh K0));clear hY bY b9)
      | (go_at_call 19;have tst:=uh B10;clear tst;refine (hHo1 _ _ _ w10 ((uh PR).below (uh B10)) ((uh L1).below (uh B10))).mono ?_;rintro e w11 ⟨rfl,b11⟩;have B11:=hide (below_sub (uh B10) b11);clear b11)
      | (go_at_call 19;refine (hHo0 _ _ _ w9 ((uh PR).below (uh B9)) ((uh L0).below (uh B9))).mono ?_;rintro e w10 ⟨rfl,b10⟩;have B10:=hide (below_sub (uh B9) b10);have x1:=(((uh B10).cell (p:=⟨b,off + 1,none⟩) hb1).trans (uh K1));clear b10))
    go_ret
    exact ⟨ret_bool (by simp),below_sub (uh BV) (below_sub (uh B6) (uh B11))⟩
end Go.Proofs.Ytikhopiegaoacac
