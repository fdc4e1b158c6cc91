/- whole: the tree of all tokens. -/
import Derived.Test.YtencibjmiphinaaGreatDoorEZam
namespace Go.Proofs.YtencibjmiphinaaGreatDoor
open Go.RowKit
def whL (en:Int) (l:List Tk):Rs Nd:=match orL en (l.length + 1) l with
 | .bad p=>.bad p
 | .ok x []=>.ok x []
 | .ok _ (t :: _)=>.bad t.2.1
def zVal:Value:=(.agg #[.int .i64 0,.string ⟨#[]⟩,.slice none 0 0,.slice none 0 0,.int .i64 0,.int .i64 0,.int .i64 0,.slice none 0 0])
/-- What whole leaves. -/
def WhR (g:Nat) (w:World) (x:Rs Nd) (e:Ending) (w':World):Prop:=match x with
 | .bad p=>e=.returned (.tuple #[zVal,.int .i64 p,.int .i64 10])/\w.grownBy w' (some g)
 | .ok t _=>(∃ v,e=.returned (.tuple #[v.val,.int .i64 0,.int .i64 0])/\NdFrom w' w.heap.size v t)/\w.grownBy w' (some g)
theorem bel_3 (w:World):Below w.heap.size w (((w.alloc (.cells #[.int .i64 0,.string ⟨#[]⟩,.slice none 0 0,.slice none 0 0,.int .i64 0,.int .i64 0,.int .i64 0,.slice none 0 0] 29)).alloc (.cells #[.int .i64 0] 3)).alloc (.cells #[.int .i64 0] 30)):=(((Below.refl _ _).alloc (Nat.le_refl _) _).alloc (by simp) _).alloc (by simp;omega) _
theorem at_3 (w:World):(((w.alloc (.cells #[.int .i64 0,.string ⟨#[]⟩,.slice none 0 0,.slice none 0 0,.int .i64 0,.int .i64 0,.int .i64 0,.slice none 0 0] 29)).alloc (.cells #[.int .i64 0] 3)).alloc (.cells #[.int .i64 0] 30)).heap[w.heap.size]? = some (.cells #[.int .i64 0,.string ⟨#[]⟩,.slice none 0 0,.slice none 0 0,.int .i64 0,.int .i64 0,.int .i64 0,.slice none 0 0] 29)/\(((w.alloc (.cells #[.int .i64 0,.string ⟨#[]⟩,.slice none 0 0,.slice none 0 0,.int .i64 0,.int .i64 0,.int .i64 0,.slice none 0 0] 29)).alloc (.cells #[.int .i64 0] 3)).alloc (.cells #[.int .i64 0] 30)).heap[w.heap.size + 1]? = some (.cells #[.int .i64 0] 3)/\(((w.alloc (.cells #[.int .i64 0,.string ⟨#[]⟩,.slice none 0 0,.slice none 0 0,.int .i64 0,.int .i64 0,.int .i64 0,.slice none 0 0] 29)).alloc (.cells #[.int .i64 0] 3)).alloc (.cells #[.int .i64 0] 30)).heap[w.heap.size + 2]? = some (.cells #[.int .i64 0] 30)/\(((w.alloc (.cells #[.int .i64 0,.string ⟨#[]⟩,.slice none 0 0,.slice none 0 0,.int .i64 0,.int .i64 0,.int .i64 0,.slice none 0 0] 29)).alloc (.cells #[.int .i64 0] 3)).alloc (.cells #[.int .i64 0] 30)).heap.size=w.heap.size + 3:=by
 have e2:((w.alloc (.cells #[.int .i64 0,.string ⟨#[]⟩,.slice none 0 0,.slice none 0 0,.int .i64 0,.int .i64 0,.int .i64 0,.slice none 0 0] 29)).alloc (.cells #[.int .i64 0] 3)).heap.size=w.heap.size + 2:=by simp
 have e1:(w.alloc (.cells #[.int .i64 0,.string ⟨#[]⟩,.slice none 0 0,.slice none 0 0,.int .i64 0,.int .i64 0,.int .i64 0,.slice none 0 0] 29)).heap.size=w.heap.size + 1:=by simp
 have b2:=Below.heap_alloc ((w.alloc (.cells #[.int .i64 0,.string ⟨#[]⟩,.slice none 0 0,.slice none 0 0,.int .i64 0,.int .i64 0,.int .i64 0,.slice none 0 0] 29)).alloc (.cells #[.int .i64 0] 3)) (.cells #[.int .i64 0] 30)
 have b1:=Below.heap_alloc (w.alloc (.cells #[.int .i64 0,.string ⟨#[]⟩,.slice none 0 0,.slice none 0 0,.int .i64 0,.int .i64 0,.int .i64 0,.slice none 0 0] 29)) (.cells #[.int .i64 0] 3)
 have n3:=box_nw ((w.alloc (.cells #[.int .i64 0,.string ⟨#[]⟩,.slice none 0 0,.slice none 0 0,.int .i64 0,.int .i64 0,.int .i64 0,.slice none 0 0] 29)).alloc (.cells #[.int .i64 0] 3)) (.cells #[.int .i64 0] 30)
 have n2:=box_nw (w.alloc (.cells #[.int .i64 0,.string ⟨#[]⟩,.slice none 0 0,.slice none 0 0,.int .i64 0,.int .i64 0,.int .i64 0,.slice none 0 0] 29)) (.cells #[.int .i64 0] 3)
 have n1:=box_nw w (.cells #[.int .i64 0,.string ⟨#[]⟩,.slice none 0 0,.slice none 0 0,.int .i64 0,.int .i64 0,.int .i64 0,.slice none 0 0] 29)
 rw [e2] at n3
 rw [e1] at n2
 refine ⟨(b2 _ (by omega)).trans ((b1 _ (by omega)).trans n1),(b2 _ (by omega)).trans n2,n3,by simp⟩
theorem Ps.set8 {w:World} {g bn:Nat} {en:Int} {l:List Tk} (h:Ps w g en l) (hb:g < bn) (v0 v1 v2 v3 v4 v5 v6 v7:Value):Ps ((((((((w.setCell ⟨bn,0,none⟩ v0).setCell ⟨bn,1,none⟩ v1).setCell ⟨bn,2,none⟩ v2).setCell ⟨bn,3,none⟩ v3).setCell ⟨bn,4,none⟩ v4).setCell ⟨bn,5,none⟩ v5).setCell ⟨bn,6,none⟩ v6).setCell ⟨bn,7,none⟩ v7) g en l:=h.low fun k hk=>(set8_os w bn v0 v1 v2 v3 v4 v5 v6 v7).2.2.2.2 k (by omega)
/-- The three named results are laid, and nothing else. -/
structure Laid3 (bn bp be:Nat) (cn:Array Value) (w w':World):Prop where
 n:w'.heap[bn]? = some (.cells cn 29 (0,0))
 p:w'.heap[bp]? = some (.cells #[.int .i64 0] 3 (0,0))
 e:w'.heap[be]? = some (.cells #[.int .i64 0] 30 (0,0))
 rest:∀ k,k ≠ bn->k ≠ bp->k ≠ be->w'.heap[k]? = w.heap[k]?
 size:w'.heap.size=w.heap.size
 os:w'.os=w.os
 tape:w'.tape=w.tape
 output:w'.output=w.output
theorem end_w {w:World} {bn bp be:Nat} {a0 a1 a2 a3 a4 a5 a6 a7 u1 u2:Value} (h1:w.heap[bn]? = some (.cells #[a0,a1,a2,a3,a4,a5,a6,a7] 29 (0,0))) (h2:w.heap[bp]? = some (.cells #[u1] 3 (0,0))) (h3:w.heap[be]? = some (.cells #[u2] 30 (0,0))) (n1:bn ≠ bp) (n2:bn ≠ be) (n3:bp ≠ be) (v0 v1 v2 v3 v4 v5 v6 v7:Value) :
  Laid3 bn bp be #[v0,v1,v2,v3,v4,v5,v6,v7] w ((((((((((((((((((w.setCell ⟨bn,0,none⟩ v0).setCell ⟨bn,1,none⟩ v1).setCell ⟨bn,2,none⟩ v2).setCell ⟨bn,3,none⟩ v3).setCell ⟨bn,4,none⟩ v4).setCell ⟨bn,5,none⟩ v5).setCell ⟨bn,6,none⟩ v6).setCell ⟨bn,7,none⟩ v7).setCell ⟨bn,0,none⟩ v0).setCell ⟨bn,1,none⟩ v1).setCell ⟨bn,2,none⟩ v2).setCell ⟨bn,3,none⟩ v3).setCell ⟨bn,4,none⟩ v4).setCell ⟨bn,5,none⟩ v5).setCell ⟨bn,6,none⟩ v6).setCell ⟨bn,7,none⟩ v7).setCell ⟨bp,0,none⟩ (.int .i64 0)).setCell ⟨be,0,none⟩ (.int .i64 0)):=by
 obtain ⟨k1,k2,k3,k4,k5⟩:=set8_os w bn v0 v1 v2 v3 v4 v5 v6 v7
 have k6:=set8_heap h1 v0 v1 v2 v3 v4 v5 v6 v7
 obtain ⟨S,HS⟩:∃ S,((((((((w.setCell ⟨bn,0,none⟩ v0).setCell ⟨bn,1,none⟩ v1).setCell ⟨bn,2,none⟩ v2).setCell ⟨bn,3,none⟩ v3).setCell ⟨bn,4,none⟩ v4).setCell ⟨bn,5,none⟩ v5).setCell ⟨bn,6,none⟩ v6).setCell ⟨bn,7,none⟩ v7)=S:=⟨_,rfl⟩
 rw [HS] at k1 k2 k3 k4 k5 k6
 rw [HS]
 obtain ⟨i1,i2,i3,i4,i5⟩:=set8_os S bn v0 v1 v2 v3 v4 v5 v6 v7
 have i6:=set8_heap k6 v0 v1 v2 v3 v4 v5 v6 v7
 obtain ⟨R,HR⟩:∃ R,((((((((S.setCell ⟨bn,0,none⟩ v0).setCell ⟨bn,1,none⟩ v1).setCell ⟨bn,2,none⟩ v2).setCell ⟨bn,3,none⟩ v3).setCell ⟨bn,4,none⟩ v4).setCell ⟨bn,5,none⟩ v5).setCell ⟨bn,6,none⟩ v6).setCell ⟨bn,7,none⟩ v7)=R:=⟨_,rfl⟩
 rw [HR] at i1 i2 i3 i4 i5 i6
 rw [HR]
 have j1:(R.setCell ⟨bp,0,none⟩ (.int .i64 0)).heap[bp]? = some (.cells #[.int .i64 0] 3 (0,0)):=set1 ((i5 bp n1.symm).trans ((k5 bp n1.symm).trans h2)) _
 refine ⟨?_, ?_, ?_,fun k m1 m2 m3=>?_, ?_, ?_, ?_, ?_⟩
 ·exact (Below.heap_setCell _ ⟨be,0,none⟩ _ bn n2).trans ((Below.heap_setCell _ ⟨bp,0,none⟩ _ bn n1).trans i6)
 ·exact (Below.heap_setCell _ ⟨be,0,none⟩ _ bp n3).trans j1
 ·exact set1 ((Below.heap_setCell _ ⟨bp,0,none⟩ _ be n3.symm).trans ((i5 be n2.symm).trans ((k5 be n2.symm).trans h3))) _
 ·exact (Below.heap_setCell _ ⟨be,0,none⟩ _ k m3).trans ((Below.heap_setCell _ ⟨bp,0,none⟩ _ k m2).trans ((i5 k m1).trans (k5 k m1)))
 ·have:=i1.trans k1;simpa [World.setCell] using this
 ·have:=i2.trans k2;simpa [World.setCell] using this
 ·have:=i3.trans k3;simpa [World.setCell] using this
 ·have:=i4.trans k4;simpa [World.setCell] using this
theorem Caught.gr {g:Nat} {p:Int} {w w1 w2:World} (h:Caught w.heap.size (w.heap.size + 1) (w.heap.size + 2) p w1 w2) (hg:w.grownBy w1 (some g)):w.grownBy w2 (some g) :=
 ⟨h.os.trans hg.os,h.tape.trans hg.tape,h.output.trans hg.output,by have:=hg.size;have:=h.size;omega,fun k hk hr=>(h.rest k (by omega) (by omega) (by omega)).trans (hg.block k hk hr)⟩
set_option maxRecDepth 100000 in
set_option maxHeartbeats 4000000 in
theorem whole_any (g:Nat) (en:Int) (l:List Tk) (w:World) (hp:Ps w g en l) (hl:l.length<=100000) :
  Calls Tryz.prog 25 #[.pointer (some ⟨g,0,none⟩)] w fun e w'=>WhR g w (whL en l) e w':=by
 have hg:=hp.lt
 have hmf:∀ (fn:Fn) (first cap:Array Value) (w:World),(Instr.makeFunc fn first cap).run Tryz.prog w=.ok (.func fn first cap) w:=fun _ _ _ _=>rfl
 have hc:=or_any5 g en (l.length + 1) (by omega) l _ (by omega) (hp.below (bel_3 w))
 obtain ⟨z1,z2,z3,z4⟩:=at_3 w
 have Z1:=hide z1
 have Z2:=hide z2
 have Z3:=hide z3
 have Z4:=hide z4
 clear z1 z2 z3 z4
 cases eo:orL en (l.length + 1) l with
 | bad p =>
  have hx:whL en l=.bad p:=by simp only [whL,eo]
  rw [hx]
  have EO:=hide eo
  clear eo hp hx
  go_enter_defers Tryz.func25,Tryz.ntmps25
  go_wp2_with (go_at_call 52;refine hc.mono ?_;rintro e w1 hq;obtain ⟨rfl,hx⟩:=hq.bad (uh EO);have X1:=hide hx;clear hx hq;simp only [refusal])
  refine leaves_cons (f:=51) (args:=#[.pointer (some ⟨w.heap.size,0,none⟩),.pointer (some ⟨w.heap.size + 1,0,none⟩),.pointer (some ⟨w.heap.size + 2,0,none⟩)]) (by simp) (by simp [go_sem]) ?_
  have y1:=blk_far (uh Z1) (uh X1) (by omega)
  have y2:=blk_far (uh Z2) (uh X1) (by omega)
  have y3:=blk_far (uh Z3) (uh X1) (by omega)
  refine (catch_p w.heap.size (w.heap.size + 1) (w.heap.size + 2) p _ _ _ _ _ _ _ _ _ _ w1 y1 y2 y3 (by omega) (by omega) (by omega)).mono ?_
  rintro e u' w2 ⟨rfl,rfl,hc2⟩
  obtain ⟨c0,c1,c2,c3,c4,c5,c6,c7⟩:=of8' hc2.n
  have d0:=(of1 hc2.p).1
  have e0:=(of1 hc2.e).1
  have hgr:=hc2.gr ((grown_bel (bel_3 w) _).trans (uh X1))
  simp [Leaves,settle,results,Tryz.results25,go_sem,c0,c1,c2,c3,c4,c5,c6,c7,d0,e0]
  exact ⟨rfl,hgr⟩
 | ok x r =>
  cases r with
  | cons t r =>
   have hx:whL en l=.bad t.2.1:=by simp only [whL,eo]
   rw [hx]
   have EO:=hide eo
   clear eo hp hx
   have a0:(0:Int) < (r.length:Int) + 1:=by omega
   go_enter_defers Tryz.func25,Tryz.ntmps25
   go_wp2_with first
    | (go_at_call 52;refine hc.mono ?_;rintro e w1 hq;obtain ⟨⟨v,rfl,hv⟩,hx⟩:=hq.ok (uh EO);have X1:=hide hx;have HV:=hide hv;have y1:=blk_far (uh Z1) hx.2 (by omega);have Y2:=hide (blk_far (uh Z2) hx.2 (by omega));have Y3:=hide (blk_far (uh Z3) hx.2 (by omega));obtain ⟨q0,q1,q2,q3,q4,q5,q6,q7⟩:=of8' y1;have qf:∀ o,w1.frozen? ⟨w.heap.size,o,none⟩=false:=fun o=>frozen_free y1;have Y1:=hide y1;obtain ⟨b,off,c,k0,k1,k2,k3,k4,k5,k6,k7,k8,k9,k10,k11⟩:=hx.1.head;clear hx hv hq y1 k11;unfold Nv.val)
    | (go_at_call 53;refine (giveUp_any g en (t :: r) _ ((uh X1).1.set8 hg _ _ _ _ _ _ _ _)).mono ?_;rintro e w3 ⟨rfl,rfl⟩;simp only [refusal,plc])
   refine leaves_cons (f:=51) (args:=#[.pointer (some ⟨w.heap.size,0,none⟩),.pointer (some ⟨w.heap.size + 1,0,none⟩),.pointer (some ⟨w.heap.size + 2,0,none⟩)]) (by simp) (by simp [go_sem]) ?_
   obtain ⟨j1,j2,j3,j4,j5⟩:=set8_os w1 w.heap.size (.int .i64 v.kind) (.string v.attr) (.slice v.qi v.ni v.ci) (.slice v.qw v.nw v.cw) (.int .i64 v.lo) (.int .i64 v.hi) (.int .i64 v.op) (.slice v.qk v.nk v.ck)
   refine (catch_p w.heap.size (w.heap.size + 1) (w.heap.size + 2) t.2.1 _ _ _ _ _ _ _ _ _ _ _ (set8_heap (uh Y1) _ _ _ _ _ _ _ _) ((j5 _ (by omega)).trans (uh Y2)) ((j5 _ (by omega)).trans (uh Y3)) (by omega) (by omega) (by omega)).mono ?_
   rintro e u' w2 ⟨rfl,rfl,hc2⟩
   obtain ⟨c0,c1,c2,c3,c4,c5,c6,c7⟩:=of8' hc2.n
   have d0:=(of1 hc2.p).1
   have e0:=(of1 hc2.e).1
   have hg1:=(grown_bel (bel_3 w) (some g)).trans (uh X1).2
   have hgr:=hc2.gr ⟨j2.trans hg1.os,j3.trans hg1.tape,j4.trans hg1.output,by have:=hg1.size;omega,fun k hk hr=>(j5 k (by omega)).trans (hg1.block k hk hr)⟩
   simp [Leaves,settle,results,Tryz.results25,go_sem,c0,c1,c2,c3,c4,c5,c6,c7,d0,e0]
   exact ⟨rfl,hgr⟩
  | nil =>
   have hx:whL en l=.ok x []:=by simp only [whL,eo]
   rw [hx]
   have EO:=hide eo
   clear eo hp hx
   go_enter_defers Tryz.func25,Tryz.ntmps25
   go_wp2_with first
    | (go_at_call 52;refine hc.mono ?_;rintro e w1 hq;obtain ⟨⟨v,rfl,hv⟩,hx⟩:=hq.ok (uh EO);have X1:=hide hx;have HV:=hide hv;have y1:=blk_far (uh Z1) hx.2 (by omega);have y2:=blk_far (uh Z2) hx.2 (by omega);have y3:=blk_far (uh Z3) hx.2 (by omega);obtain ⟨q0,q1,q2,q3,q4,q5,q6,q7⟩:=of8' y1;have qf:∀ o,w1.frozen? ⟨w.heap.size,o,none⟩=false:=fun o=>frozen_free y1;obtain ⟨p0,pf,_⟩:=of1 y2;obtain ⟨p1,pg,_⟩:=of1 y3;obtain ⟨sq,sc,s0,_⟩:=hx.1;have s1:=(of2 s0).1;simp only [List.length_nil] at s1;have Y1:=hide y1;have Y2:=hide y2;have Y3:=hide y3;clear hx hv hq y1 y2 y3 s0;unfold Nv.val)
   refine leaves_cons (f:=51) (args:=#[.pointer (some ⟨w.heap.size,0,none⟩),.pointer (some ⟨w.heap.size + 1,0,none⟩),.pointer (some ⟨w.heap.size + 1 + 1,0,none⟩)]) (by simp) (by simp [go_sem]) ?_
   refine (catch_i _ _ _ _).mono ?_
   rintro e u' w2 ⟨rfl,rfl,hw⟩
   have hL:Laid3 w.heap.size (w.heap.size + 1) (w.heap.size + 1 + 1) #[.int .i64 v.kind,.string v.attr,.slice v.qi v.ni v.ci,.slice v.qw v.nw v.cw,.int .i64 v.lo,.int .i64 v.hi,.int .i64 v.op,.slice v.qk v.nk v.ck] w1 w2:=by
    rw [hw];exact end_w (uh Y1) (uh Y2) (uh Y3) (by omega) (by omega) (by omega) _ _ _ _ _ _ _ _
   clear hw
   obtain ⟨c0,c1,c2,c3,c4,c5,c6,c7⟩:=of8' hL.n
   have d0:=(of1 hL.p).1
   have e0:=(of1 hL.e).1
   have hg1:=(grown_bel (bel_3 w) (some g)).trans (uh X1).2
   have hgr:w.grownBy w2 (some g):=⟨hL.os.trans hg1.os,hL.tape.trans hg1.tape,hL.output.trans hg1.output,by have:=hg1.size;have:=hL.size;omega,fun k hk hr=>(hL.rest k (by omega) (by omega) (by omega)).trans (hg1.block k hk hr)⟩
   have hz:=uh Z4
   have hv2:NdFrom w2 (w.heap.size + 3) v x:=by
    have h0:=uh HV
    rw [hz] at h0
    exact h0.up ⟨by have:=hL.size;omega,fun b h1 h2=>hL.rest b (by omega) (by omega) (by omega)⟩
   simp [Leaves,settle,results,Tryz.results25,go_sem,c0,c1,c2,c3,c4,c5,c6,c7,d0,e0]
   exact ⟨⟨v,rfl,hv2.mono (by omega)⟩,hgr⟩
end Go.Proofs.YtencibjmiphinaaGreatDoor
