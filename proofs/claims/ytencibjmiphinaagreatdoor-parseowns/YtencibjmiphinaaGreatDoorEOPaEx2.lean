/- Expr. -/
import Derived.Test.YtencibjmiphinaaGreatDoorEZau
import Derived.Test.YtencibjmiphinaaGreatDoorEZaf
namespace Go.Proofs.YtencibjmiphinaaGreatDoor
open Go.RowKit
/-- What Expr answers. -/
noncomputable def exL (ats:List (ByteArray × Int)) (d:Int) (s:ByteArray):Rs Nd:=match parL s with
 | .bad _=>.bad 10
 | .ok t _=>if d < depN t then .bad 11 else if kndE ats t=0 then .ok t [] else .bad (kndE ats t)
def ExR (w:World) (x:Rs Nd) (e:Ending) (w':World):Prop:=match x with
 | .bad c=>e=.returned (.tuple #[zVal,.int .i64 c])/\Below w.heap.size w w'
 | .ok t _=>(∃ v,e=.returned (.tuple #[v.val,.int .i64 0])/\NdFrom w' w.heap.size v t)/\Below w.heap.size w w'
theorem PrR.bad {w w':World} {x:Rs Nd} {e:Ending} {p:Int} (h:PrR w x e w') (hx:x=.bad p):e=.returned (.tuple #[zVal,.int .i64 p,.int .i64 10])/\Below w.heap.size w w':=by subst hx;exact h
theorem PrR.ok {w w':World} {x:Rs Nd} {e:Ending} {t:Nd} {r:List Tk} (h:PrR w x e w') (hx:x=.ok t r):(∃ v,e=.returned (.tuple #[v.val,.int .i64 0,.int .i64 0])/\NdFrom w' w.heap.size v t)/\Below w.heap.size w w':=by subst hx;exact h
theorem res_on {w w1:World} (hb:Below (w.alloc (.cells #[.int .i64 0,.string ⟨#[]⟩,.slice none 0 0,.slice none 0 0,.int .i64 0,.int .i64 0,.int .i64 0,.slice none 0 0] 29)).heap.size (w.alloc (.cells #[.int .i64 0,.string ⟨#[]⟩,.slice none 0 0,.slice none 0 0,.int .i64 0,.int .i64 0,.int .i64 0,.slice none 0 0] 29)) w1):w1.heap[w.heap.size]? = some (.cells #[.int .i64 0,.string ⟨#[]⟩,.slice none 0 0,.slice none 0 0,.int .i64 0,.int .i64 0,.int .i64 0,.slice none 0 0] 29)/\w.heap.size < w1.heap.size:=by
 have hs:=hb.size
 simp at hs
 exact ⟨(hb.block _ (by simp)).trans (box_nw w _),hs⟩
set_option maxHeartbeats 4000000 in
theorem expr_any (b:Nat) (ats:List (ByteArray × Int)) (hm:ats.length<=140737488355328) (d:Int) (s:ByteArray) (w:World) (hG:Lx.G w) (hS:Sc.SchAt w b ats) :
  Calls Tryz.prog 15 #[.pointer (some ⟨b,0,none⟩),.int .i64 d,.string s] w fun e w'=>ExR w (exL ats d s) e w':=by
 have hc:=parse_any s (w.alloc (.cells #[.int .i64 0,.string ⟨#[]⟩,.slice none 0 0,.slice none 0 0,.int .i64 0,.int .i64 0,.int .i64 0,.slice none 0 0] 29)) (Lx.G_below hG (bel_z w))
 have HS:=hide (hS.below (bel_z w))
 clear hG hS
 cases ep:parL s with
 | bad p =>
  have hx:exL ats d s=.bad 10:=by simp only [exL,ep]
  rw [hx]
  have EP:=hide ep
  clear ep hx
  go_enter Tryz.func15,Tryz.ntmps15
  go_wp2_with (go_at_call 10;refine hc.mono ?_;rintro e w1 hq;obtain ⟨rfl,hb⟩:=hq.bad (uh EP);obtain ⟨y1,y2⟩:=res_on hb;obtain ⟨q0,q1,q2,q3,q4,q5,q6,q7⟩:=of8' y1;have qf:∀ o,w1.frozen? ⟨w.heap.size,o,none⟩=false:=fun o=>frozen_free y1;have HB:=hide hb;clear hb hq y1;unfold zVal)
  refine bodyPost_ret (v:=.tuple #[zVal,.int .i64 10]) (by simp [results,Tryz.results15,go_sem,zVal, *]) rfl ⟨rfl, ?_⟩
  have h9:=(set8_below (below_sub (bel_z w) (uh HB)) (Nat.le_refl w.heap.size) (.int .i64 0) (.string ⟨#[]⟩) (.slice none 0 0) (.slice none 0 0) (.int .i64 0) (.int .i64 0) (.int .i64 0) (.slice none 0 0))
  exact h9.alloc (by have:=h9.size;omega) _
 | ok t r =>
  have hwt:=parL_wt ep
  have hsz:sizeN t<=1000000000:=Nat.le_trans (size_wt t) hwt
  have EP:=hide ep
  have hdp:=fun v W (h:NdIn W v t)=>depth_any t v W h hsz
  have hkd:=fun v W (h:NdIn W v t) (h2:Sc.SchAt W b ats)=>kinds_any b ats hm t v W h h2 hwt
  unfold Nv.val at hdp hkd
  have HD:=hide hdp
  have HK:=hide hkd
  clear hdp hkd
  by_cases hd:d < (depN t:Int)
  ·have hx:exL ats d s=.bad 11:=by simp only [exL,ep,if_pos hd]
   rw [hx]
   clear ep hx
   go_enter Tryz.func15,Tryz.ntmps15
   go_wp2_with first
    | (go_at_call 10;refine hc.mono ?_;rintro e w1 hq;obtain ⟨⟨v,rfl,hv⟩,hb⟩:=hq.ok (uh EP);obtain ⟨y1,y2⟩:=res_on hb;have HB:=hide hb;have HV:=hide hv;have HB1:=hide (below_sub hb ((Below.refl w1.heap.size w1).alloc (Nat.le_refl _) (.cells #[.int .i64 v.kind,.string v.attr,.slice v.qi v.ni v.ci,.slice v.qw v.nw v.cw,.int .i64 v.lo,.int .i64 v.hi,.int .i64 v.op,.slice v.qk v.nk v.ck] 29)));clear hb hv hq y1;unfold Nv.val)
    | (go_at_call 36;refine (uh HD v _ ((uh HV).toIn.keep ((Below.refl _ _).alloc (Nat.le_refl _) (.cells #[.int .i64 v.kind,.string v.attr,.slice v.qi v.ni v.ci,.slice v.qw v.nw v.cw,.int .i64 v.lo,.int .i64 v.hi,.int .i64 v.op,.slice v.qk v.nk v.ck] 29)))).mono ?_;rintro e w2 ⟨rfl,hb⟩;have HB2:=hide (below_sub (uh HB1) hb);obtain ⟨y1,y3⟩:=res_on (uh HB2);obtain ⟨q0,q1,q2,q3,q4,q5,q6,q7⟩:=of8' y1;have qf:∀ o,w2.frozen? ⟨w.heap.size,o,none⟩=false:=fun o=>frozen_free y1;clear hb y1)
   refine bodyPost_ret (v:=.tuple #[zVal,.int .i64 11]) (by simp [results,Tryz.results15,go_sem,zVal, *]) rfl ⟨rfl, ?_⟩
   exact set8_below (below_sub (bel_z w) (uh HB2)) (Nat.le_refl _) _ _ _ _ _ _ _ _
  ·obtain ⟨k,hk⟩:∃ k,kndE ats t=k:=⟨_,rfl⟩
   rw [hk] at HK
   by_cases h0:k=0
   ·have hx:exL ats d s=.ok t []:=by simp only [exL,ep,if_neg hd,hk,h0,if_true]
    rw [hx]
    subst h0
    clear ep hx hk
    go_enter Tryz.func15,Tryz.ntmps15
    go_wp2_with first
     | (go_at_call 10;refine hc.mono ?_;rintro e w1 hq;obtain ⟨⟨v,rfl,hv⟩,hb⟩:=hq.ok (uh EP);obtain ⟨y1,y2⟩:=res_on hb;have HB:=hide hb;have HV:=hide hv;have HB1:=hide (below_sub hb ((Below.refl w1.heap.size w1).alloc (Nat.le_refl _) (.cells #[.int .i64 v.kind,.string v.attr,.slice v.qi v.ni v.ci,.slice v.qw v.nw v.cw,.int .i64 v.lo,.int .i64 v.hi,.int .i64 v.op,.slice v.qk v.nk v.ck] 29)));clear hb hv hq y1;unfold Nv.val)
     | (go_at_call 36;refine (uh HD v _ ((uh HV).toIn.keep ((Below.refl _ _).alloc (Nat.le_refl _) (.cells #[.int .i64 v.kind,.string v.attr,.slice v.qi v.ni v.ci,.slice v.qw v.nw v.cw,.int .i64 v.lo,.int .i64 v.hi,.int .i64 v.op,.slice v.qk v.nk v.ck] 29)))).mono ?_;rintro e w2 ⟨rfl,hb⟩;have HB2:=hide (below_sub (uh HB1) hb);have HX2:=hide (below_sub ((Below.refl w1.heap.size w1).alloc (Nat.le_refl _) (.cells #[.int .i64 v.kind,.string v.attr,.slice v.qi v.ni v.ci,.slice v.qw v.nw v.cw,.int .i64 v.lo,.int .i64 v.hi,.int .i64 v.op,.slice v.qk v.nk v.ck] 29)) hb);have y5:=(hb.block w1.heap.size (by simp)).trans (box_nw w1 (.cells #[.int .i64 v.kind,.string v.attr,.slice v.qi v.ni v.ci,.slice v.qw v.nw v.cw,.int .i64 v.lo,.int .i64 v.hi,.int .i64 v.op,.slice v.qk v.nk v.ck] 29));obtain ⟨p0,p1,p2,p3,p4,p5,p6,p7⟩:=of8' y5;have Y5:=hide y5;clear hb y5)
     | (go_at_call 18;refine (uh HK v _ ((uh HV).toIn.keep (uh HX2)) ((uh HS).below (uh HB2))).mono ?_;rintro e w3 ⟨rfl,hb⟩;have HB3:=hide (below_sub (uh HB2) hb);have HX3:=hide (below_sub (uh HX2) hb);have y6:=(hb.block w1.heap.size (Array.getElem?_eq_some_iff.1 (uh Y5)).1).trans (uh Y5);obtain ⟨r0,r1,r2,r3,r4,r5,r6,r7⟩:=of8' y6;obtain ⟨y1,y3⟩:=res_on (uh HB3);obtain ⟨q0,q1,q2,q3,q4,q5,q6,q7⟩:=of8' y1;have qf:∀ o,w3.frozen? ⟨w.heap.size,o,none⟩=false:=fun o=>frozen_free y1;clear hb y1 y6)
    refine bodyPost_ret (v:=.tuple #[v.val,.int .i64 0]) (by simp [results,Tryz.results15,go_sem,Nv.val, *]) rfl ⟨⟨v,rfl, ?_⟩,set8_below (below_sub (bel_z w) (uh HB3)) (Nat.le_refl _) _ _ _ _ _ _ _ _⟩
    have h9:=(uh HV).keep (uh HX3)
    simp at h9
    exact (h9.up (set8_up _ (Nat.lt_succ_self _) _ _ _ _ _ _ _ _)).mono (Nat.le_succ _)
   ·have hx:exL ats d s=.bad k:=by simp only [exL,ep,if_neg hd,hk,if_neg h0]
    rw [hx]
    clear ep hx hk
    go_enter Tryz.func15,Tryz.ntmps15
    go_wp2_with first
     | (go_at_call 10;refine hc.mono ?_;rintro e w1 hq;obtain ⟨⟨v,rfl,hv⟩,hb⟩:=hq.ok (uh EP);obtain ⟨y1,y2⟩:=res_on hb;have HB:=hide hb;have HV:=hide hv;have HB1:=hide (below_sub hb ((Below.refl w1.heap.size w1).alloc (Nat.le_refl _) (.cells #[.int .i64 v.kind,.string v.attr,.slice v.qi v.ni v.ci,.slice v.qw v.nw v.cw,.int .i64 v.lo,.int .i64 v.hi,.int .i64 v.op,.slice v.qk v.nk v.ck] 29)));clear hb hv hq y1;unfold Nv.val)
     | (go_at_call 36;refine (uh HD v _ ((uh HV).toIn.keep ((Below.refl _ _).alloc (Nat.le_refl _) (.cells #[.int .i64 v.kind,.string v.attr,.slice v.qi v.ni v.ci,.slice v.qw v.nw v.cw,.int .i64 v.lo,.int .i64 v.hi,.int .i64 v.op,.slice v.qk v.nk v.ck] 29)))).mono ?_;rintro e w2 ⟨rfl,hb⟩;have HB2:=hide (below_sub (uh HB1) hb);have HX2:=hide (below_sub ((Below.refl w1.heap.size w1).alloc (Nat.le_refl _) (.cells #[.int .i64 v.kind,.string v.attr,.slice v.qi v.ni v.ci,.slice v.qw v.nw v.cw,.int .i64 v.lo,.int .i64 v.hi,.int .i64 v.op,.slice v.qk v.nk v.ck] 29)) hb);have y5:=(hb.block w1.heap.size (by simp)).trans (box_nw w1 (.cells #[.int .i64 v.kind,.string v.attr,.slice v.qi v.ni v.ci,.slice v.qw v.nw v.cw,.int .i64 v.lo,.int .i64 v.hi,.int .i64 v.op,.slice v.qk v.nk v.ck] 29));obtain ⟨p0,p1,p2,p3,p4,p5,p6,p7⟩:=of8' y5;have Y5:=hide y5;clear hb y5)
     | (go_at_call 18;refine (uh HK v _ ((uh HV).toIn.keep (uh HX2)) ((uh HS).below (uh HB2))).mono ?_;rintro e w3 ⟨rfl,hb⟩;have HB3:=hide (below_sub (uh HB2) hb);obtain ⟨y1,y3⟩:=res_on (uh HB3);obtain ⟨q0,q1,q2,q3,q4,q5,q6,q7⟩:=of8' y1;have qf:∀ o,w3.frozen? ⟨w.heap.size,o,none⟩=false:=fun o=>frozen_free y1;clear hb y1)
    refine bodyPost_ret (v:=.tuple #[zVal,.int .i64 k]) (by simp [results,Tryz.results15,go_sem,zVal, *]) rfl ⟨rfl, ?_⟩
    exact set8_below (below_sub (bel_z w) (uh HB3)) (Nat.le_refl _) _ _ _ _ _ _ _ _
end Go.Proofs.YtencibjmiphinaaGreatDoor
