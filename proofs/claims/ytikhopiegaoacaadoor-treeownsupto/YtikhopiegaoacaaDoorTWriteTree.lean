/- What writeKids, write and Text do, for every tree. -/
import Derived.Test.YtikhopiegaoacaaDoorTWritePred
namespace Go.Proofs.YtikhopiegaoacaaDoor
open Go.RowKit

theorem NdIn.op_eq {w:World} {v:Nv} {x:Nd} (h:NdIn w v x):v.op=x.op:=by cases h;rfl
theorem kidL_yes {op:Int} {x:Nd} (h:brack op x.op=true):kidL op x=[40] ++ textN x ++ [41]:=by unfold kidL wrapB;rw [h];rfl
theorem kidL_no {op:Int} {x:Nd} (h:brack op x.op=false):kidL op x=textN x:=by unfold kidL wrapB;rw [h];rfl
set_option maxHeartbeats 4000000 in
theorem writeKids_any (w0:World) (b:Nat) (acc:List UInt8) (kind:Int) (attr:ByteArray) (qi:Option Addr) (ni ci:Nat) (qw:Option Addr) (nw cw:Nat) (lo hi op:Int) (qk:Option Addr) (ck:Nat) (kids:List Nd) (sep:ByteArray) (w:World) (hw:Below w0.heap.size w0 w) (hk:NdsOf w0 qk ck kids) (ih:∀ x ∈ kids,WriteP w0 b x) (hwt:wtL kids≤1000000000) (hb:Bld w0.heap.size b acc w)
  (hlen:(acc ++ jl sep.data.toList 0 (kids.map (kidL op))).length≤140737488355328) :
  Calls Tryd.prog 54 #[.pointer (some ⟨b,0,none⟩),.agg #[.int .i64 kind,.string attr,.slice qi ni ci,.slice qw nw cw,.int .i64 lo,.int .i64 hi,.int .i64 op,.slice qk kids.length ck],.string sep] w fun e w'=>e=.returned (.tuple #[])∧Bld w0.heap.size b (acc ++ jl sep.data.toList 0 (kids.map (kidL op))) w'∧Kept w0.heap.size b w w':=by
 have hblt:=hb.lt
 have hws:=hw.size
 obtain ⟨X,HX⟩:∃ X,w.alloc (.cells #[.int .i64 kind,.string attr,.slice qi ni ci,.slice qw nw cw,.int .i64 lo,.int .i64 hi,.int .i64 op,.slice qk kids.length ck] 29)=X:=⟨_,rfl⟩
 have hX0:X.heap[w.heap.size]? = some (.cells #[.int .i64 kind,.string attr,.slice qi ni ci,.slice qw nw cw,.int .i64 lo,.int .i64 hi,.int .i64 op,.slice qk kids.length ck] 29 (0,0)):=by rw [← HX];exact box_new _ _
 have hwX:Below w.heap.size w X:=by rw [← HX];exact (Below.refl _ _).alloc (Nat.le_refl _) _
 obtain ⟨x0,x1,x2,x3,x4,x5,x6,x7⟩:=of8 hX0
 have HX0:=hide hX0
 have HWX:=hide (Kept.of (b:=b) hwX hws)
 have HBX:=hide (hb.below hwX)
 have HW:=hide hw
 have HK:=hide hk
 have IH:=hide ih
 have hln:=len_size kids
 have hln2:=sizeL_wt kids
 have a0:(kids.length:Int)≤1000000000:=by omega
 simp only [List.length_append] at hlen
 clear hb hw hX0 hwX hk ih
 go_enter Tryd.func54,Tryd.ntmps54
 go_wp2
 go_loopw [11] (fun i wr=>∃ (k:Nat) (cur:List UInt8),k≤kids.length∧i=.int .i64 k∧cur ++ jl sep.data.toList k ((kids.map (kidL op)).drop k)=acc ++ jl sep.data.toList 0 (kids.map (kidL op))∧Bld w0.heap.size b cur wr∧Kept w0.heap.size b w wr∧wr.heap[w.heap.size]? = some (.cells #[.int .i64 kind,.string attr,.slice qi ni ci,.slice qw nw cw,.int .i64 lo,.int .i64 hi,.int .i64 op,.slice qk kids.length ck] 29 (0,0))) (fun i _=>kids.length - (intOf i).toNat)
 case atStart=>exact ⟨0,acc,by omega,rfl,by simp,uh HBX,uh HWX,uh HX0⟩
 case round =>
  obtain ⟨k,cur,hkk,rfl,heq,hbld,hkep,hbox⟩:=hrel
  clear HX HBX HWX HX0 x0 x1 x2 x3 x4 x5 x6 x7
  obtain ⟨U,rfl⟩:∃ U,U=wr:=⟨_,rfl⟩
  have hlq:=len_part heq
  simp only [List.length_append] at hlq
  have hbel:Below w0.heap.size w0 U:=(uh HW).trans hkep.1
  by_cases hlt:k < kids.length
  ·obtain ⟨x,hx,hxd⟩:=get_at hlt
   obtain ⟨b',off,v',hq,hb',hin0,g0,g1,g2,g3,g4,g5,g6,g7⟩:=(uh HK).at hx
   subst hq
   have c0:=(hbel.cell (p:=⟨b',off + k * 8,none⟩) hb').trans g0
   have c1:=(hbel.cell (p:=⟨b',off + k * 8 + 1,none⟩) hb').trans g1
   have c2:=(hbel.cell (p:=⟨b',off + k * 8 + 2,none⟩) hb').trans g2
   have c3:=(hbel.cell (p:=⟨b',off + k * 8 + 3,none⟩) hb').trans g3
   have c4:=(hbel.cell (p:=⟨b',off + k * 8 + 4,none⟩) hb').trans g4
   have c5:=(hbel.cell (p:=⟨b',off + k * 8 + 5,none⟩) hb').trans g5
   have c6:=(hbel.cell (p:=⟨b',off + k * 8 + 6,none⟩) hb').trans g6
   have c7:=(hbel.cell (p:=⟨b',off + k * 8 + 7,none⟩) hb').trans g7
   have ki0:(0:Int)≤(k:Int):=by omega
   have ki1:(k:Int) < (kids.length:Int):=by omega
   have hxm:x ∈ kids:=List.mem_of_getElem? hx
   have hxs:=wtL_mem hxm
   rw [map_drop_cons (kidL op) hx] at heq hlq
   obtain ⟨Y,HY⟩:∃ Y,U.alloc (.cells #[.int .i64 v'.kind,.string v'.attr,.slice v'.qi v'.ni v'.ci,.slice v'.qw v'.nw v'.cw,.int .i64 v'.lo,.int .i64 v'.hi,.int .i64 v'.op,.slice v'.qk v'.nk v'.ck] 29)=Y:=⟨_,rfl⟩
   have hM:Y.heap[U.heap.size]? = some (.cells #[.int .i64 v'.kind,.string v'.attr,.slice v'.qi v'.ni v'.ci,.slice v'.qw v'.nw v'.cw,.int .i64 v'.lo,.int .i64 v'.hi,.int .i64 v'.op,.slice v'.qk v'.nk v'.ck] 29 (0,0)):=by rw [← HY];exact box_new _ _
   have hN:Y.heap[w.heap.size]? = some (.cells #[.int .i64 kind,.string attr,.slice qi ni ci,.slice qw nw cw,.int .i64 lo,.int .i64 hi,.int .i64 op,.slice (some ⟨b',off,none⟩) kids.length ck] 29 (0,0)):=by rw [← HY];exact box_old _ hbox
   have hUY:Below U.heap.size U Y:=by rw [← HY];exact (Below.refl _ _).alloc (Nat.le_refl _) _
   obtain ⟨y0,y1,y2,y3,y4,y5,y6,y7⟩:=of8 hM
   obtain ⟨m0,m1,m2,m3,m4,m5,m6,m7⟩:=of8 hN
   have hUb:=hbld.lt
   have hUs:=hbel.size
   have hYs:w0.heap.size≤Y.heap.size:=Nat.le_trans hUs hUY.size
   have HM:=hide hM
   have HN:=hide hN
   have HKY:=hide (Kept.of (b:=b) hUY hUs)
   have HBY:=hide (hbld.below hUY)
   have HYB:=hide (hbel.trans (hUY.mono hUs))
   have HKEP:=hide hkep
   have HBOX:=hide hbox
   have hbk:=fun w=>bracketed_any op v'.op w
   rw [hin0.op_eq] at hbk
   have hvo:=hin0.op_eq
   rw [hvo] at y6 c6 HM HY
   clear g0 g1 g2 g3 g4 g5 g6 g7 hx hxd hM hN hUY hbox hkep hbld hbel
   by_cases h0:0 < k
   ·have e0:(0:Int) < (k:Int):=by omega
    cases hbr:brack op x.op with
    | true =>
     rw [hbr] at hbk
     rw [jl_1 _ _ _ h0,kidL_yes hbr] at heq hlq
     have HE:=hide heq
     simp only [List.length_append,List.length_cons,List.length_nil,bytes_len] at hlq
     clear heq
     have h2:=writeString_any w0.heap.size b cur sep Y (uh HBY) (by omega) hYs
     have h4:=fun w hb hs=>writeByte_any w0.heap.size b (cur ++ sep.data.toList) 40 40 rfl w hb (by simp;omega) hs
     have h3:=fun w hw hb=>uh IH x hxm v' w ((cur ++ sep.data.toList) ++ [40]) hin0 hw hb (by simp;omega) (by omega)
     have h5:=fun w hb hs=>writeByte_any w0.heap.size b ((cur ++ sep.data.toList) ++ [40] ++ textN x) 41 41 rfl w hb (by simp;omega) hs
     simp only [Nv.val,hvo] at h3
     clear hxm hin0 hbr
     go_wp2_with (first
      | (go_at_call 61;refine h2.mono ?_;rintro e w2 ⟨rfl,d2,k2⟩;obtain ⟨p0,p1,p2,p3,p4,p5,p6,p7⟩:=of8 (k2.box (uh HM) (by decide) (by omega));obtain ⟨n0,n1,n2,n3,n4,n5,n6,n7⟩:=of8 (k2.box (uh HN) (by decide) (by omega));have D2:=hide d2;have K2:=hide k2;clear d2 k2)
      | (go_at_call 65;refine (hbk _).mono ?_;rintro e w' ⟨rfl,hw⟩;obtain rfl:=hw.symm;clear hw)
      | (go_at_call 53;have hB:=uh D3;clear hB;refine (h5 _ (by exact uh D3) (by exact Nat.le_trans hYs (uh K3).1.size)).mono ?_;rintro e w5 ⟨rfl,d5,k5⟩;have D5:=hide d5;have K5:=hide ((uh K3).trans k5);clear d5 k5)
      | (go_at_call 53;refine (h4 _ (by exact uh D2) (by exact Nat.le_trans hYs (uh K2).1.size)).mono ?_;rintro e w4 ⟨rfl,d4,k4⟩;have K4:=hide ((uh K2).trans k4);obtain ⟨r0,r1,r2,r3,r4,r5,r6,r7⟩:=of8 ((uh K4).box (uh HM) (by decide) (by omega));have D4:=hide d4;clear d4 k4)
      | (go_at_call 31;refine (h3 _ (by exact (uh HYB).trans (uh K4).1) (by exact uh D4)).mono ?_;rintro e w3 ⟨rfl,d3,k3⟩;have D3:=hide d3;have K3:=hide ((uh K4).trans k3);clear d3 k3))
     exact ⟨⟨k + 1,_,by omega,congrArg (Value.int .i64) (by omega),by rw [← uh HE];simp,uh D5,(uh HKEP).trans ((uh HKY).trans (uh K5)),((uh HKY).trans (uh K5)).box (uh HBOX) (by decide) (by omega)⟩,by simp [intOf];omega⟩
    | false =>
     rw [hbr] at hbk
     rw [jl_1 _ _ _ h0,kidL_no hbr] at heq hlq
     have HE:=hide heq
     simp only [List.length_append,bytes_len] at hlq
     clear heq
     have h2:=writeString_any w0.heap.size b cur sep Y (uh HBY) (by omega) hYs
     have h3:=fun w hw hb=>uh IH x hxm v' w (cur ++ sep.data.toList) hin0 hw hb (by simp;omega) (by omega)
     simp only [Nv.val,hvo] at h3
     clear hxm hin0 hbr
     go_wp2_with (first
      | (go_at_call 61;refine h2.mono ?_;rintro e w2 ⟨rfl,d2,k2⟩;obtain ⟨p0,p1,p2,p3,p4,p5,p6,p7⟩:=of8 (k2.box (uh HM) (by decide) (by omega));obtain ⟨n0,n1,n2,n3,n4,n5,n6,n7⟩:=of8 (k2.box (uh HN) (by decide) (by omega));have D2:=hide d2;have K2:=hide k2;clear d2 k2)
      | (go_at_call 65;refine (hbk _).mono ?_;rintro e w' ⟨rfl,hw⟩;obtain rfl:=hw.symm;clear hw)
      | (go_at_call 31;refine (h3 _ (by exact (uh HYB).trans (uh K2).1) (by exact uh D2)).mono ?_;rintro e w3 ⟨rfl,d3,k3⟩;have D3:=hide d3;have K3:=hide ((uh K2).trans k3);clear d3 k3))
     exact ⟨⟨k + 1,_,by omega,congrArg (Value.int .i64) (by omega),by rw [← uh HE];simp,uh D3,(uh HKEP).trans ((uh HKY).trans (uh K3)),((uh HKY).trans (uh K3)).box (uh HBOX) (by decide) (by omega)⟩,by simp [intOf];omega⟩
   ·have e0:¬ (0:Int) < (k:Int):=by omega
    cases hbr:brack op x.op with
    | true =>
     rw [hbr] at hbk
     rw [jl_0 _ _ _ h0,kidL_yes hbr] at heq hlq
     have HE:=hide heq
     simp only [List.length_append,List.length_cons,List.length_nil] at hlq
     clear heq
     have h4:=fun w hb hs=>writeByte_any w0.heap.size b cur 40 40 rfl w hb (by simp;omega) hs
     have h3:=fun w hw hb=>uh IH x hxm v' w (cur ++ [40]) hin0 hw hb (by simp;omega) (by omega)
     have h5:=fun w hb hs=>writeByte_any w0.heap.size b (cur ++ [40] ++ textN x) 41 41 rfl w hb (by simp;omega) hs
     simp only [Nv.val,hvo] at h3
     clear hxm hin0 hbr
     go_wp2_with (first
      | (go_at_call 65;refine (hbk _).mono ?_;rintro e w' ⟨rfl,hw⟩;obtain rfl:=hw.symm;clear hw)
      | (go_at_call 53;have hB:=uh D3;clear hB;refine (h5 _ (by exact uh D3) (by exact Nat.le_trans hYs (uh K3).1.size)).mono ?_;rintro e w5 ⟨rfl,d5,k5⟩;have D5:=hide d5;have K5:=hide ((uh K3).trans k5);clear d5 k5)
      | (go_at_call 53;refine (h4 _ (by exact uh HBY) (by exact Nat.le_trans hYs (Kept.refl w0.heap.size b Y).1.size)).mono ?_;rintro e w4 ⟨rfl,d4,k4⟩;have K4:=hide ((Kept.refl _ _ _).trans k4);obtain ⟨r0,r1,r2,r3,r4,r5,r6,r7⟩:=of8 ((uh K4).box (uh HM) (by decide) (by omega));have D4:=hide d4;clear d4 k4)
      | (go_at_call 31;refine (h3 _ (by exact (uh HYB).trans (uh K4).1) (by exact uh D4)).mono ?_;rintro e w3 ⟨rfl,d3,k3⟩;have D3:=hide d3;have K3:=hide ((uh K4).trans k3);clear d3 k3))
     exact ⟨⟨k + 1,_,by omega,congrArg (Value.int .i64) (by omega),by rw [← uh HE];simp,uh D5,(uh HKEP).trans ((uh HKY).trans (uh K5)),((uh HKY).trans (uh K5)).box (uh HBOX) (by decide) (by omega)⟩,by simp [intOf];omega⟩
    | false =>
     rw [hbr] at hbk
     rw [jl_0 _ _ _ h0,kidL_no hbr] at heq hlq
     have HE:=hide heq
     simp only [List.length_append] at hlq
     clear heq
     have h3:=fun w hw hb=>uh IH x hxm v' w cur hin0 hw hb (by simp;omega) (by omega)
     simp only [Nv.val,hvo] at h3
     clear hxm hin0 hbr
     go_wp2_with (first
      | (go_at_call 65;refine (hbk _).mono ?_;rintro e w' ⟨rfl,hw⟩;obtain rfl:=hw.symm;clear hw)
      | (go_at_call 31;refine (h3 _ (by exact uh HYB) (by exact uh HBY)).mono ?_;rintro e w3 ⟨rfl,d3,k3⟩;have D3:=hide d3;have K3:=hide ((Kept.refl _ _ _).trans k3);clear d3 k3))
     exact ⟨⟨k + 1,_,by omega,congrArg (Value.int .i64) (by omega),by rw [← uh HE];simp,uh D3,(uh HKEP).trans ((uh HKY).trans (uh K3)),((uh HKY).trans (uh K3)).box (uh HBOX) (by decide) (by omega)⟩,by simp [intOf];omega⟩
  ·have ki1:¬ (k:Int) < (kids.length:Int):=by omega
   rw [List.drop_of_length_le (by simp;omega)] at heq
   have he2:cur=acc ++ jl sep.data.toList 0 (kids.map (kidL op)):=by simpa [jl] using heq
   subst he2
   have HB:=hide hbld
   have HKP:=hide hkep
   clear heq hlq hbld hkep hbox hbel
   go_wp2
   go_end0
   exact ⟨rfl,uh HB,uh HKP⟩
end Go.Proofs.YtikhopiegaoacaaDoor
