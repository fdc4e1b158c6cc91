/- PaOn3 -/
import Derived.Test.YtencibjmiphinaaGreatDoorEOPaJn
import Derived.Test.YtencibjmiphinaaGreatDoorEZal
import Derived.Test.YtencibjmiphinaaGreatDoorEZag
import Derived.Defers
import Derived.Recover
namespace Go.Proofs.YtencibjmiphinaaGreatDoor
open Go.RowKit
theorem blk_far {w w':World} {g b:Nat} {o:Obj} (h:w.heap[b]? = some o) (hg:w.grownBy w' (some g)) (hne:b ≠ g):w'.heap[b]? = some o:=(hg.block b (Array.getElem?_eq_some_iff.1 h).1 (fun e=>hne (by simpa using e))).trans h
set_option maxHeartbeats 4000000 in
theorem one_par (g:Nat) (en:Int) (n:Nat) (l r:List Tk) (w:World) (hp:Ps w g en l) (hs0:skL ⟨#[33]⟩ l=none) (hs:skL ⟨#[40]⟩ l=some r) (hF:∀ W,Ps W g en r->Calls Tryz.prog 52 #[.pointer (some ⟨g,0,none⟩)] W fun e w'=>NdR g en W (orL en n r) e w') :
  Calls Tryz.prog 120 #[.pointer (some ⟨g,0,none⟩)] w fun e w'=>NdR g en w (onL en (n + 1) l) e w':=by
 have hg:=hp.lt
 have h0:=hp.z
 have hsn:=skip_no g en ⟨#[33]⟩ l _ h0.1 hs0
 have hsk:=skip_yes g en ⟨#[40]⟩ l r _ h0.1 hs
 have HF:=hide hF
 clear hF hp h0
 cases ec:orL en n r with
 | bad p =>
  have hx:onL en (n + 1) l=.bad p:=by unfold orL anL at ec;simp only [onL,hs,hs0,ec]
  rw [hx]
  have EC:=hide ec
  clear ec hs hx hs0
  go_enter Tryz.func120,Tryz.ntmps120
  go_wp2_with first
   | (go_at_call 119;have tst:=uh M0;clear tst;refine hsk.mono ?_;rintro e w3 ⟨rfl,hx⟩;have X3:=hide hx;clear hx)
   | (go_at_call 119;refine hsn.mono ?_;rintro e w2 ⟨rfl,rfl⟩;have M0:=hide True.intro)
   | (go_at_call 52;refine (uh HF _ (uh X3).1).mono ?_;rintro e w4 hq;obtain ⟨rfl,hx⟩:=hq.bad (uh EC);have X4:=hide hx;clear hx hq;simp only [refusal])
  exact ⟨rfl,rfl,gr_z ((uh X3).2.trans (uh X4))⟩
 | ok x r' =>
  cases eg:sgL en ⟨#[41]⟩ r' with
  | bad p =>
   have hx:onL en (n + 1) l=.bad p:=by unfold orL anL at ec;simp only [onL,hs,hs0,ec,eg]
   rw [hx]
   have EC:=hide ec
   have EG:=hide eg
   clear ec hs hx hs0 eg
   go_enter Tryz.func120,Tryz.ntmps120
   go_wp2_with first
    | (go_at_call 119;have tst:=uh M0;clear tst;refine hsk.mono ?_;rintro e w3 ⟨rfl,hx⟩;have X3:=hide hx;clear hx)
    | (go_at_call 119;refine hsn.mono ?_;rintro e w2 ⟨rfl,rfl⟩;have M0:=hide True.intro)
    | (go_at_call 52;refine (uh HF _ (uh X3).1).mono ?_;rintro e w4 hq;obtain ⟨⟨v,rfl,hv⟩,hx⟩:=hq.ok (uh EC);have X4:=hide ((uh X3).trans hx);have HV:=hide hv;have X5:=hide ((uh X4).bel ((Below.refl _ _).alloc (Nat.le_refl _) (.cells #[.int .i64 v.kind,.string v.attr,.slice v.qi v.ni v.ci,.slice v.qw v.nw v.cw,.int .i64 v.lo,.int .i64 v.hi,.int .i64 v.op,.slice v.qk v.nk v.ck] 29)));clear hx hv hq;unfold Nv.val)
    | (go_at_call 140;refine (sign_no g en ⟨#[41]⟩ r' p _ (uh X5).1 (uh EG)).mono ?_;rintro e w6 ⟨rfl,rfl⟩;simp only [refusal])
   exact ⟨rfl,rfl,gr_z (uh X5).2⟩
  | ok u r'' =>
   have hx:onL en (n + 1) l=.ok x r'':=by unfold orL anL at ec;simp only [onL,hs,hs0,ec,eg]
   rw [hx]
   have EC:=hide ec
   have EG:=hide eg
   clear ec hs hx hs0 eg
   go_enter Tryz.func120,Tryz.ntmps120
   go_wp2_with first
    | (go_at_call 119;have tst:=uh M0;clear tst;refine hsk.mono ?_;rintro e w3 ⟨rfl,hx⟩;have X3:=hide hx;have HS3:=hide hx.2.size;clear hx)
    | (go_at_call 119;refine hsn.mono ?_;rintro e w2 ⟨rfl,rfl⟩;have M0:=hide True.intro)
    | (go_at_call 52;refine (uh HF _ (uh X3).1).mono ?_;rintro e w4 hq;obtain ⟨⟨v,rfl,hv⟩,hx⟩:=hq.ok (uh EC);have X4:=hide ((uh X3).trans hx);have HV:=hide hv;have HS4:=hide hx.2.size;have X5:=hide ((uh X4).bel ((Below.refl _ _).alloc (Nat.le_refl _) (.cells #[.int .i64 v.kind,.string v.attr,.slice v.qi v.ni v.ci,.slice v.qw v.nw v.cw,.int .i64 v.lo,.int .i64 v.hi,.int .i64 v.op,.slice v.qk v.nk v.ck] 29)));clear hx hv hq;unfold Nv.val)
    | (go_at_call 140;refine (sign_yes g en ⟨#[41]⟩ r' r'' u _ (uh X5).1 (uh EG)).mono ?_;rintro e w6 ⟨rfl,hx⟩;have X6:=hide ((uh X5).trans hx);have HB:=hide (blk_far (box_nw w4 (.cells #[.int .i64 v.kind,.string v.attr,.slice v.qi v.ni v.ci,.slice v.qw v.nw v.cw,.int .i64 v.lo,.int .i64 v.hi,.int .i64 v.op,.slice v.qk v.nk v.ck] 29)) hx.2 (by have a3:=uh HS3;have a4:=uh HS4;simp at a3;omega));obtain ⟨y0,y1,y2,y3,y4,y5,y6,y7⟩:=of8' (uh HB);have G6:=hide hx.2;clear hx;obtain ⟨z1,⟨q0,q1,q2,q3,q4,q5,q6,q7⟩,qf⟩:=res8 (uh X6).2 hg)
   refine bodyPost_ret (v:=v.val) (by simp [results,Tryz.results120,go_sem,Nv.val, *]) rfl ?_
   have a3:=uh HS3
   have a4:=uh HS4
   simp at a3
   have hv6:NdFrom w6 w3.heap.size v x:=((uh HV).keep ((Below.refl _ _).alloc (Nat.le_refl _) (.cells #[.int .i64 v.kind,.string v.attr,.slice v.qi v.ni v.ci,.slice v.qw v.nw v.cw,.int .i64 v.lo,.int .i64 v.hi,.int .i64 v.op,.slice v.qk v.nk v.ck] 29))).up ⟨(uh G6).size,fun b h1 h2=>(uh G6).block b h2 (fun e=>by cases e;omega)⟩
   exact fin8 (uh X6) hg hv6 (by omega)
end Go.Proofs.YtencibjmiphinaaGreatDoor
namespace Go.Proofs.YtencibjmiphinaaGreatDoor
open Go.RowKit
theorem one_pred (g:Nat) (en:Int) (n:Nat) (l:List Tk) (w:World) (hp:Ps w g en l) (hs0:skL ⟨#[33]⟩ l=none) (hs:skL ⟨#[40]⟩ l=none) :
  Calls Tryz.prog 120 #[.pointer (some ⟨g,0,none⟩)] w fun e w'=>NdR g en w (onL en (n + 1) l) e w':=by
 have hg:=hp.lt
 have h0:=hp.z
 have hsn:=skip_no g en ⟨#[33]⟩ l _ h0.1 hs0
 have hsk:=skip_no g en ⟨#[40]⟩ l _ h0.1 hs
 have hj:=prd_any g en l _ h0.1
 have hx:onL en (n + 1) l=prL en l:=by simp only [onL,hs,hs0]
 rw [hx]
 clear hp h0 hx hs hs0
 cases ec:prL en l with
 | bad p =>
  have EC:=hide ec
  clear ec
  go_enter Tryz.func120,Tryz.ntmps120
  go_wp2_with first
   | (go_at_call 119;have tst:=uh M0;clear tst;refine hsk.mono ?_;rintro e w3 ⟨rfl,rfl⟩)
   | (go_at_call 119;refine hsn.mono ?_;rintro e w2 ⟨rfl,rfl⟩;have M0:=hide True.intro)
   | (go_at_call 141;refine hj.mono ?_;rintro e w4 hq;obtain ⟨rfl,hx⟩:=hq.bad (uh EC);have X4:=hide hx;clear hx hq;simp only [refusal])
  exact ⟨rfl,rfl,gr_z (uh X4)⟩
 | ok x r =>
  have EC:=hide ec
  clear ec
  go_enter Tryz.func120,Tryz.ntmps120
  go_wp2_with first
   | (go_at_call 119;have tst:=uh M0;clear tst;refine hsk.mono ?_;rintro e w3 ⟨rfl,rfl⟩)
   | (go_at_call 119;refine hsn.mono ?_;rintro e w2 ⟨rfl,rfl⟩;have M0:=hide True.intro)
   | (go_at_call 141;refine hj.mono ?_;rintro e w4 hq;obtain ⟨⟨v,rfl,hv⟩,hx⟩:=hq.ok (uh EC);have X4:=hide hx;have HV:=hide hv;clear hx hv hq;obtain ⟨z1,⟨q0,q1,q2,q3,q4,q5,q6,q7⟩,qf⟩:=res8 (uh X4).2 hg;unfold Nv.val)
  refine bodyPost_ret (v:=v.val) (by simp [results,Tryz.results120,go_sem,Nv.val, *]) rfl ?_
  exact fin8 (uh X4) hg (uh HV) (by simp)
end Go.Proofs.YtencibjmiphinaaGreatDoor
namespace Go.Proofs.YtencibjmiphinaaGreatDoor
open Go.RowKit
theorem one_p (g:Nat) (en:Int):∀ (n:Nat),n<=1000000->∀ (l:List Tk) (w:World),l.length < n->Ps w g en l ->
  Calls Tryz.prog 120 #[.pointer (some ⟨g,0,none⟩)] w fun e w'=>NdR g en w (onL en n l) e w'
 | 0,_,l,w,hl,_=>by omega
 | n + 1,hn,l,w,hl,hp=>by
  have ih:=one_p g en n (by omega)
  cases hs:skL ⟨#[33]⟩ l with
  | some r =>
   have:=skL_len hs
   exact one_not g en n l r w hp hs fun W hW=>ih r W (by omega) hW
  | none =>
   cases hs2:skL ⟨#[40]⟩ l with
   | some r =>
    have:=skL_len hs2
    refine one_par g en n l r w hp hs hs2 fun W hW=>?_
    exact or_p g en (n - 1) n (by omega) (and_p g en (n - 1) n (by omega) fun l' W' h1 h2=>ih l' W' (by omega) h2) r W (by omega) hW
   | none=>exact one_pred g en n l w hp hs hs2
theorem or_any5 (g:Nat) (en:Int) (n:Nat) (hn:n<=1000000) (l:List Tk) (w:World) (hl:l.length < n) (hp:Ps w g en l) :
  Calls Tryz.prog 52 #[.pointer (some ⟨g,0,none⟩)] w fun e w'=>NdR g en w (orL en n l) e w' :=
 or_p g en (n - 1) n (by omega) (and_p g en (n - 1) n (by omega) fun l' W' h1 h2=>one_p g en n hn l' W' (by omega) h2) l w (by omega) hp
end Go.Proofs.YtencibjmiphinaaGreatDoor
namespace Go.Proofs.YtencibjmiphinaaGreatDoor
open Go.RowKit
def zN:Obj:=.cells #[.int .i64 0,.string ⟨#[]⟩,.slice none 0 0,.slice none 0 0,.int .i64 0,.int .i64 0,.int .i64 0,.slice none 0 0] 29
/-- The three named results are laid, and nothing else. -/
structure Caught (bn bp be:Nat) (p:Int) (w w':World):Prop where
 n:w'.heap[bn]? = some zN
 p:w'.heap[bp]? = some (.cells #[.int .i64 p] 3 (0,0))
 e:w'.heap[be]? = some (.cells #[.int .i64 10] 30 (0,0))
 rest:∀ k,k ≠ bn->k ≠ bp->k ≠ be->w'.heap[k]? = w.heap[k]?
 size:w'.heap.size=w.heap.size
 os:w'.os=w.os
 tape:w'.tape=w.tape
 output:w'.output=w.output
theorem set8_heap {w:World} {bn:Nat} {a0 a1 a2 a3 a4 a5 a6 a7:Value} {T:TypeId} (h:w.heap[bn]? = some (.cells #[a0,a1,a2,a3,a4,a5,a6,a7] T (0,0))) (v0 v1 v2 v3 v4 v5 v6 v7:Value):((((((((w.setCell ⟨bn,0,none⟩ v0).setCell ⟨bn,1,none⟩ v1).setCell ⟨bn,2,none⟩ v2).setCell ⟨bn,3,none⟩ v3).setCell ⟨bn,4,none⟩ v4).setCell ⟨bn,5,none⟩ v5).setCell ⟨bn,6,none⟩ v6).setCell ⟨bn,7,none⟩ v7).heap[bn]? = some (.cells #[v0,v1,v2,v3,v4,v5,v6,v7] T (0,0)):=by
 unfold World.setCell;simp only [Array.getElem?_modify,if_true,h];simp
theorem set8_os (w:World) (bn:Nat) (v0 v1 v2 v3 v4 v5 v6 v7:Value):((((((((w.setCell ⟨bn,0,none⟩ v0).setCell ⟨bn,1,none⟩ v1).setCell ⟨bn,2,none⟩ v2).setCell ⟨bn,3,none⟩ v3).setCell ⟨bn,4,none⟩ v4).setCell ⟨bn,5,none⟩ v5).setCell ⟨bn,6,none⟩ v6).setCell ⟨bn,7,none⟩ v7).heap.size=w.heap.size/\((((((((w.setCell ⟨bn,0,none⟩ v0).setCell ⟨bn,1,none⟩ v1).setCell ⟨bn,2,none⟩ v2).setCell ⟨bn,3,none⟩ v3).setCell ⟨bn,4,none⟩ v4).setCell ⟨bn,5,none⟩ v5).setCell ⟨bn,6,none⟩ v6).setCell ⟨bn,7,none⟩ v7).os=w.os/\((((((((w.setCell ⟨bn,0,none⟩ v0).setCell ⟨bn,1,none⟩ v1).setCell ⟨bn,2,none⟩ v2).setCell ⟨bn,3,none⟩ v3).setCell ⟨bn,4,none⟩ v4).setCell ⟨bn,5,none⟩ v5).setCell ⟨bn,6,none⟩ v6).setCell ⟨bn,7,none⟩ v7).tape=w.tape/\((((((((w.setCell ⟨bn,0,none⟩ v0).setCell ⟨bn,1,none⟩ v1).setCell ⟨bn,2,none⟩ v2).setCell ⟨bn,3,none⟩ v3).setCell ⟨bn,4,none⟩ v4).setCell ⟨bn,5,none⟩ v5).setCell ⟨bn,6,none⟩ v6).setCell ⟨bn,7,none⟩ v7).output=w.output/\∀ k,k ≠ bn->((((((((w.setCell ⟨bn,0,none⟩ v0).setCell ⟨bn,1,none⟩ v1).setCell ⟨bn,2,none⟩ v2).setCell ⟨bn,3,none⟩ v3).setCell ⟨bn,4,none⟩ v4).setCell ⟨bn,5,none⟩ v5).setCell ⟨bn,6,none⟩ v6).setCell ⟨bn,7,none⟩ v7).heap[k]? = w.heap[k]?:=by
 refine ⟨by simp [World.setCell],by simp [World.setCell],by simp [World.setCell],by simp [World.setCell],fun k hk=>?_⟩
 rw [Below.heap_setCell _ _ _ k hk,Below.heap_setCell _ _ _ k hk,Below.heap_setCell _ _ _ k hk,Below.heap_setCell _ _ _ k hk,Below.heap_setCell _ _ _ k hk,Below.heap_setCell _ _ _ k hk,Below.heap_setCell _ _ _ k hk,Below.heap_setCell _ _ _ k hk]
theorem caught_w {w:World} {bn bp be:Nat} {p:Int} {a0 a1 a2 a3 a4 a5 a6 a7 u1 u2:Value} (h1:w.heap[bn]? = some (.cells #[a0,a1,a2,a3,a4,a5,a6,a7] 29 (0,0))) (h2:w.heap[bp]? = some (.cells #[u1] 3 (0,0))) (h3:w.heap[be]? = some (.cells #[u2] 30 (0,0))) (n1:bn ≠ bp) (n2:bn ≠ be) (n3:bp ≠ be) :
  Caught bn bp be p w ((((((((((w.setCell ⟨bn,0,none⟩ (.int .i64 0)).setCell ⟨bn,1,none⟩ (.string ⟨#[]⟩)).setCell ⟨bn,2,none⟩ (.slice none 0 0)).setCell ⟨bn,3,none⟩ (.slice none 0 0)).setCell ⟨bn,4,none⟩ (.int .i64 0)).setCell ⟨bn,5,none⟩ (.int .i64 0)).setCell ⟨bn,6,none⟩ (.int .i64 0)).setCell ⟨bn,7,none⟩ (.slice none 0 0)).setCell ⟨bp,0,none⟩ (.int .i64 p)).setCell ⟨be,0,none⟩ (.int .i64 10)).drew:=by
 obtain ⟨k1,k2,k3,k4,k5⟩:=set8_os w bn (.int .i64 0) (.string ⟨#[]⟩) (.slice none 0 0) (.slice none 0 0) (.int .i64 0) (.int .i64 0) (.int .i64 0) (.slice none 0 0)
 have k6:=set8_heap h1 (.int .i64 0) (.string ⟨#[]⟩) (.slice none 0 0) (.slice none 0 0) (.int .i64 0) (.int .i64 0) (.int .i64 0) (.slice none 0 0)
 obtain ⟨S,HS⟩:∃ S,((((((((w.setCell ⟨bn,0,none⟩ (.int .i64 0)).setCell ⟨bn,1,none⟩ (.string ⟨#[]⟩)).setCell ⟨bn,2,none⟩ (.slice none 0 0)).setCell ⟨bn,3,none⟩ (.slice none 0 0)).setCell ⟨bn,4,none⟩ (.int .i64 0)).setCell ⟨bn,5,none⟩ (.int .i64 0)).setCell ⟨bn,6,none⟩ (.int .i64 0)).setCell ⟨bn,7,none⟩ (.slice none 0 0))=S:=⟨_,rfl⟩
 rw [HS] at k1 k2 k3 k4 k5 k6
 rw [HS]
 have j1:(S.setCell ⟨bp,0,none⟩ (.int .i64 p)).heap[bp]? = some (.cells #[.int .i64 p] 3 (0,0)):=set1 ((k5 bp n1.symm).trans h2) _
 refine ⟨?_, ?_, ?_,fun k m1 m2 m3=>?_, ?_, ?_, ?_, ?_⟩
 ·exact (Below.heap_setCell _ ⟨be,0,none⟩ _ bn n2).trans ((Below.heap_setCell _ ⟨bp,0,none⟩ _ bn n1).trans k6)
 ·exact (Below.heap_setCell _ ⟨be,0,none⟩ _ bp n3).trans j1
 ·exact set1 ((Below.heap_setCell _ ⟨bp,0,none⟩ _ be n3.symm).trans ((k5 be n2.symm).trans h3)) _
 ·exact (Below.heap_setCell _ ⟨be,0,none⟩ _ k m3).trans ((Below.heap_setCell _ ⟨bp,0,none⟩ _ k m2).trans (k5 k m1))
 ·simpa [World.setCell,World.drew] using k1
 ·simpa [World.setCell,World.drew] using k2
 ·simpa [World.setCell,World.drew] using k3
 ·simpa [World.setCell,World.drew] using k4
theorem ta100 (p:Int) (w:World):(Instr.typeAssert (.iface 100 (.int .i64 p)) 20 100 false).run Tryz.prog w=.ok (.int .i64 p) w:=by kernel_rfl
set_option maxRecDepth 100000 in
set_option maxHeartbeats 1000000 in
theorem catch_p (bn bp be:Nat) (p:Int) (a0 a1 a2 a3 a4 a5 a6 a7 u1 u2:Value) (w:World) (h1:w.heap[bn]? = some (.cells #[a0,a1,a2,a3,a4,a5,a6,a7] 29 (0,0))) (h2:w.heap[bp]? = some (.cells #[u1] 3 (0,0))) (h3:w.heap[be]? = some (.cells #[u2] 30 (0,0))) (n1:bn ≠ bp) (n2:bn ≠ be) (n3:bp ≠ be) :
  CallsD Tryz.prog 51 #[.pointer (some ⟨bn,0,none⟩),.pointer (some ⟨bp,0,none⟩),.pointer (some ⟨be,0,none⟩)] (.panicking [{ v:=.iface 100 (.int .i64 p),recovered:=false }]) w fun e u' w' =>
   e=.returned (.tuple #[])/\u'=.panicking [{ v:=.iface 100 (.int .i64 p),recovered:=true }]/\Caught bn bp be p w w':=by
 refine callsD_of_wpS Tryz.func51 rfl fun c₀ cs hu=>?_
 apply wpS_seq
 apply wpS_region
 simp [wpOpsS,go_sem,recoverD,hu,Tryz.ntmps51,Exit.thenS]
 apply wpS_seq
 apply wpS_region
 simp [wpOpsS,go_sem,Exit.thenS]
 refine wpS_cond (t:=true) (by simp [Act.eval,Array.replicate]) ?_
 simp only [if_true]
 refine wpS_of_wp ?_
 obtain ⟨c0,c1,c2,c3,c4,c5,c6,c7⟩:=of8' h1
 have f1:∀ o,w.frozen? ⟨bn,o,none⟩=false:=fun o=>frozen_free h1
 obtain ⟨d0,f2,_⟩:=of1 h2
 obtain ⟨e0,f3,_⟩:=of1 h3
 have H1:=hide h1
 have H2:=hide h2
 have H3:=hide h3
 clear h1 h2 h3
 simp only [Array.replicate_succ,Array.replicate_zero,List.push_toArray,List.nil_append,List.cons_append,List.append_toArray,List.setIfInBounds_toArray,List.set_cons_succ,List.set_cons_zero]
 have hta:=ta100
 go_region_with (fail)
 all_goals
  simp only [bodyPostS,results,Tryz.results51]
  simp [go_sem]
  exact caught_w (uh H1) (uh H2) (uh H3) n1 n2 n3
theorem catch_i (bn bp be:Nat) (w:World) :
  CallsD Tryz.prog 51 #[.pointer (some ⟨bn,0,none⟩),.pointer (some ⟨bp,0,none⟩),.pointer (some ⟨be,0,none⟩)] .returning w fun e u' w'=>e=.returned (.tuple #[])/\u'=.returning/\w'=w:=by
 refine callsD_of_wpS Tryz.func51 rfl fun c₀ cs hu=>?_
 apply wpS_seq
 apply wpS_region
 simp [wpOpsS,go_sem,recoverD,hu,Tryz.ntmps51,Exit.thenS]
 apply wpS_seq
 apply wpS_region
 simp [wpOpsS,go_sem,Exit.thenS]
 refine wpS_cond (t:=false) (by simp [Act.eval,Array.replicate]) ?_
 simp only [Bool.false_eq_true,if_false]
 refine wpS_of_wp (wp_skip ?_)
 cases c₀
 simp_all [bodyPostS,results,Tryz.results51]
end Go.Proofs.YtencibjmiphinaaGreatDoor
