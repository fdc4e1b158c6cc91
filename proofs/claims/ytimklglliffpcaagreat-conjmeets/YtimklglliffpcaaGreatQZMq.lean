/- What ConjMeets wants besides: where the row is turned, pieces of a row, how great a meet is. -/
import Derived.Test.YtimklglliffpcaaGreatQCjMt16
import Derived.Test.YtimklglliffpcaaGreatQZSm
import Derived.Test.YtimklglliffpcaaGreatQCjTrue
import Derived.Test.YtimklglliffpcaaGreatQZSp
import Derived.Test.YtimklglliffpcaaGreatQCjMt0
namespace Go.Proofs.YtimklglliffpcaaGreat
open Go.RowKit Go.Sort Go.Shelf

theorem turn_of (t:Int) (n:Nat) (h0:0 < n) (hn:n≤10000000000000):∃ kk:Nat,kk < n∧wrap64 ((IntKind.u64.wrap t).tmod (n:Int))=(kk:Int):=by
 have h1:0≤IntKind.u64.wrap t:=wrap_u64_nonneg t
 generalize IntKind.u64.wrap t=x at h1
 have h2:x.tmod (n:Int)=x % (n:Int):=Int.tmod_eq_emod_of_nonneg h1
 have h3:=Int.emod_nonneg x (by omega:(n:Int) ≠ 0)
 have h4:=Int.emod_lt_of_pos x (by omega:(0:Int) < (n:Int))
 refine ⟨(x % (n:Int)).toNat,by omega, ?_⟩
 rw [h2]
 unfold wrap64
 omega
theorem flat_lenG {α:Type} [Inhabited α] (enc:α→List Value) (k:Nat) (l:List α):(flatK enc k l.toArray).toList.length=l.length * k:=by simp [flatK]
theorem slG_take {α:Type} [Inhabited α] {enc:α→List Value} {k:Nat} (hk:0 < k) {w:World} {b off c:Nat} {l:List α} (h:SlOf enc k w (some ⟨b,off,none⟩) c l) (m:Nat):SlOf enc k w (some ⟨b,off,none⟩) c (l.take m):=by
 refine ⟨(fun h=>by cases h),Nat.le_trans (by rw [List.length_take];omega) h.2.1,h.2.2.1,fun h0=>?_⟩
 obtain ⟨b',off',hq,hb,hc⟩:=h.2.2.2 (by rw [List.length_take] at h0;omega)
 cases hq
 refine ⟨b,off,rfl,hb,fun j u hj=>hc j u ?_⟩
 have e:(flatK enc k l.toArray).toList=(flatK enc k (l.take m).toArray).toList ++ (flatK enc k (l.drop m).toArray).toList:=by rw [← flat_app enc k hk,List.take_append_drop]
 rw [e,List.getElem?_append_left (List.getElem?_eq_some_iff.1 hj).1]
 exact hj
theorem slG_drop {α:Type} [Inhabited α] {enc:α→List Value} {k:Nat} (hk:0 < k) {w:World} {b off c:Nat} {l:List α} (h:SlOf enc k w (some ⟨b,off,none⟩) c l) (m:Nat) (hm:m≤l.length):SlOf enc k w (some ⟨b,off + m * k,none⟩) (c - m) (l.drop m):=by
 refine ⟨(fun h=>by cases h),(by have:=h.2.1;rw [List.length_drop];omega),(by have:=h.2.2.1;omega),fun h0=>?_⟩
 obtain ⟨b',off',hq,hb,hc⟩:=h.2.2.2 (by rw [List.length_drop] at h0;omega)
 cases hq
 refine ⟨b,off + m * k,rfl,hb,fun j u hj=>?_⟩
 rw [Nat.add_assoc]
 refine hc (m * k + j) u ?_
 have e:(flatK enc k l.toArray).toList=(flatK enc k (l.take m).toArray).toList ++ (flatK enc k (l.drop m).toArray).toList:=by rw [← flat_app enc k hk,List.take_append_drop]
 have e2:(flatK enc k (l.take m).toArray).toList.length=m * k:=by rw [flat_lenG,List.length_take,Nat.min_eq_left hm]
 rw [e,List.getElem?_append_right (by omega),e2,Nat.add_sub_cancel_left]
 exact hj
theorem meet_small {l:List Pd}:((meetD l).getD zeroD).small:=by
 cases hm:meetD l with
 | none=>exact ⟨by decide,by decide⟩
 | some m =>
  obtain ⟨h1,a,h2⟩:=meetD_some hm
  have h3:=(meetD_row h2 hm).1
  exact ok_small h3.1
end Go.Proofs.YtimklglliffpcaaGreat
namespace Go.Proofs.YtimklglliffpcaaGreat
open Go.RowKit Go.Sort Go.Shelf

set_option maxHeartbeats 16000000 in
set_option maxRecDepth 100000 in
theorem conjMeets_law (q:Option Addr) (c:Nat) (l:List Pd) (qe:Option Addr) (ce:Nat) (ev:List Pr) (turn:Int) (w:World) (h:PdsOf w q c l) (hs:Small l) (he:SlOf encP 4 w qe ce ev) (hl:l.length * 88≤140737488355328) (l3:ev.length≤100000000000000) (hn0:0 < l.length) :
  Calls Tryz.prog 7 #[.slice q l.length c,.slice qe ev.length ce,.int .i64 turn] w fun e w'=>e=.returned (.bool true)∧Below w.heap.size w w':=by
 have mixed:Tryz.prog.follows .mixedOrders=true:=by kernel_rfl
 obtain ⟨us,hus,hul,hup⟩:=h
 obtain ⟨pb,po,hq,_,_⟩:=hus.2.2.2 (by omega)
 subst hq
 have HUS:=hide hus
 have HUP:=hide (And.intro hul hup)
 replace h:PdsOf w (some ⟨pb,po,none⟩) c l:=⟨us,hus,hul,hup⟩
 clear hus hul hup
 have en37:∀ args w,(callFunc 37 args).run Tryz.prog w=.ok (.enter 37 args) w:=enters_of Tryz.func37 (by kernel_rfl) rfl
 have en20:∀ args w,(callFunc 20 args).run Tryz.prog w=.ok (.enter 20 args) w:=enters_of Tryz.func20 (by kernel_rfl) rfl
 have i9:(l.length:Int)≤10000000000000:=by omega
 have i8:(0:Int) < (l.length:Int):=by omega
 have hF:=fixed_any w
 have HH:=hide h
 have HS:=hide hs
 have HE:=hide he
 clear h hs he
 go_enter Tryz.func7,Tryz.ntmps7
 go_upto_region 3 with (go_at_call 11;refine hF.mono ?_;rintro e w1 ⟨rfl,b1⟩;have B1:=hide b1;clear b1)
 clear hF
 go_wp2
 go_loopw [7,24] (fun av iv wr=>∃ k:Nat,k≤l.length∧iv=.int .i64 k∧av=.bool ((l.take k).all (holdsD ev))∧Hid (Below w.heap.size w wr)) (fun _ iv _=>l.length - (intOf iv).toNat)
 case atStart=>exact ⟨0,Nat.zero_le _,rfl,by simp,B1⟩
 case round =>
  obtain ⟨k,hk,rfl,rfl,HB⟩:=hrel
  by_cases hlt:k < l.length
  ·obtain ⟨p,hp,_⟩:=get_at hlt
   obtain ⟨b,off,u,hq,hb,hu,c0,c1,c2,c3,c4,c5⟩:=(uh HH).at hp
   cases hq
   have g0:=((uh HB).cell (p:=⟨pb,_,none⟩) hb).trans c0
   have g1:=((uh HB).cell (p:=⟨pb,_,none⟩) hb).trans c1
   have g2:=((uh HB).cell (p:=⟨pb,_,none⟩) hb).trans c2
   have g3:=((uh HB).cell (p:=⟨pb,_,none⟩) hb).trans c3
   have g4:=((uh HB).cell (p:=⟨pb,_,none⟩) hb).trans c4
   have g5:=((uh HB).cell (p:=⟨pb,_,none⟩) hb).trans c5
   have k0:(0:Int)≤(k:Int):=by omega
   have k1:(k:Int) < (l.length:Int):=by omega
   obtain ⟨Z,HZ⟩:∃ Z,wr.alloc (.cells #[.int .i64 u.kind,.string u.attr,.slice u.qi u.ni u.ci,.slice u.qw u.nw u.cw,.int .i64 u.lo,.int .i64 u.hi] 26)=Z:=⟨_,rfl⟩
   have bZ:Below wr.heap.size wr Z:=by rw [← HZ];exact (Below.refl _ _).alloc (Nat.le_refl _) _
   have zk:Z.heap[wr.heap.size]? = some (.cells #[.int .i64 u.kind,.string u.attr,.slice u.qi u.ni u.ci,.slice u.qw u.nw u.cw,.int .i64 u.lo,.int .i64 u.hi] 26 (0,0)):=by rw [← HZ];exact World.alloc_heap_new _ _
   obtain ⟨e0,e1,e2,e3,e4,e5⟩:=of6C zk
   have HU:=hide hu
   have HSP:=hide (uh HS p (List.mem_of_getElem? hp))
   have hHold:=holds_pd u p qe ce ev Z (hu.keep (below_sub (uh HB) bZ)) (uh HSP) ((uh HE).below (below_sub (uh HB) bZ)) l3
   unfold Pv.val at hHold
   obtain ⟨h,hh⟩:∃ h,holdsD ev p=h:=⟨_,rfl⟩
   rw [hh] at hHold
   have HHH:=hide hh
   have hT:(l.take (k + 1)).all (holdsD ev)=((l.take k).all (holdsD ev) && h):=by rw [take_snoc_of hp,List.all_append,← hh];simp
   obtain ⟨G,hG⟩:∃ G,(l.take k).all (holdsD ev)=G:=⟨_,rfl⟩
   rw [hG] at hT ⊢
   have HT:=hide hT
   have BZ:=hide bZ
   have ZK:=hide zk
   clear c0 c1 c2 c3 c4 c5 bZ zk hu hh hT hG hp
   go_upto_region 7 with (fail)
   clear HZ g0 g1 g2 g3 g4 g5
   cases G with
   | true =>
    go_upto_region 8 with (go_at_call 37;refine hHold.mono ?_;rintro e w2 ⟨rfl,b2⟩;have B2:=hide b2;clear b2)
    clear e0 e1 e2 e3 e4 e5 hHold
    have BVZ:=B2
    have BV:=hide (below_sub (uh BZ) (uh B2))
    have hbx:=blk_on (uh ZK) (uh BVZ)
    obtain ⟨x0,x1,x2,x3,x4,x5⟩:=of6C hbx
    have hN:=normal_any u p w2 ((uh HU).keep (below_sub (uh HB) (uh BV))) (uh HSP)
    unfold Pv.val at hN
    cases hn:normD p with
    | none =>
     rw [hn] at hN
     have hh0:h=false:=by rw [← uh HHH];exact (meets_each ev p).2 hn
     subst hh0
     clear hn
     go_upto_region 9 with (go_at_call 16;refine hN.mono ?_;rintro e w3 ⟨⟨r,rfl,ho⟩,b3⟩;have B3:=hide b3;clear b3 ho)
     obtain ⟨Y,HY⟩:∃ Y,w3.alloc (.cells #[.int .i64 r.kind,.string r.attr,.slice r.qi r.ni r.ci,.slice r.qw r.nw r.cw,.int .i64 r.lo,.int .i64 r.hi] 26)=Y:=⟨_,rfl⟩
     rw [HY]
     have y8:Y.heap[w3.heap.size]? = some (.cells #[.int .i64 r.kind,.string r.attr,.slice r.qi r.ni r.ci,.slice r.qw r.nw r.cw,.int .i64 r.lo,.int .i64 r.hi] 26 (0,0)):=by rw [← HY];exact World.alloc_heap_new _ _
     have bY:Below w3.heap.size w3 Y:=by rw [← HY];exact (Below.refl _ _).alloc (Nat.le_refl _) _
     have BY:=hide bY
     obtain ⟨z0,z1,z2,z3,z4,z5⟩:=of6C (blk_on hbx (below_sub (uh B3) bY))
     have z0r:=cell_regrownC z0
     have z1r:=cell_regrownC z1
     have z2r:=cell_regrownC z2
     have z3r:=cell_regrownC z3
     have z4r:=cell_regrownC z4
     have z5r:=cell_regrownC z5
     have hHp:=fun n os=>holds_pd u p qe ce ev (grow (redrawn Y n) os) ((uh HU).keep (below_sub (uh HB) (below_sub (uh BV) (below_sub (uh B3) (below_sub bY (below_regrown Y n os)))))) (uh HSP) ((uh HE).below (below_sub (uh HB) (below_sub (uh BV) (below_sub (uh B3) (below_sub bY (below_regrown Y n os)))))) l3
     unfold Pv.val at hHp
     rw [uh HHH] at hHp
     have HW1q:=HY
     clear HY y8 bY x0 x1 x2 x3 x4 x5 z0 z1 z2 z3 z4 z5 hN hbx
     clear HW1q
     refine wp_region_quiet_below (by assumption) (by kernel_rfl) ?_
     repeat (go_big_quiet_step (first | (go_at_fn 37;refine Calls.regrown_of (hHp _ _))))
     refine wpQuiet_nil ?_
     intro _ hw'
     obtain ⟨⟨dq,osq⟩,hw''⟩:=hw'
     subst hw''
     have BF:=hide (below_sub (uh HB) (below_sub (uh BV) (below_sub (uh B3) (below_sub (uh BY) (below_regrown Y dq osq)))))
     generalize grow (redrawn Y dq) osq=V4 at BF ⊢
     go_wp2
     go_roundw
     case rel=>exact ⟨k + 1,by omega,by go_num,by rw [uh HT];rfl,BF⟩
     case measure=>simp [intOf];omega
    | some m =>
     rw [hn] at hN
     have hhm:holdsD ev m=h:=by rw [← uh HHH];exact (meets_each ev p).1 m hn
     have hms:=gd_small (gd_norm (uh HSP) hn)
     clear hn
     go_upto_region 9 with (go_at_call 16;refine hN.mono ?_;rintro e w3 ⟨⟨r,rfl,ho⟩,b3⟩;have B3:=hide b3;have O3:=hide ho;clear b3 ho)
     obtain ⟨Y,HY⟩:∃ Y,w3.alloc (.cells #[.int .i64 r.kind,.string r.attr,.slice r.qi r.ni r.ci,.slice r.qw r.nw r.cw,.int .i64 r.lo,.int .i64 r.hi] 26)=Y:=⟨_,rfl⟩
     rw [HY]
     have y8:Y.heap[w3.heap.size]? = some (.cells #[.int .i64 r.kind,.string r.attr,.slice r.qi r.ni r.ci,.slice r.qw r.nw r.cw,.int .i64 r.lo,.int .i64 r.hi] 26 (0,0)):=by rw [← HY];exact World.alloc_heap_new _ _
     have bY:Below w3.heap.size w3 Y:=by rw [← HY];exact (Below.refl _ _).alloc (Nat.le_refl _) _
     have BY:=hide bY
     obtain ⟨z0,z1,z2,z3,z4,z5⟩:=of6C (blk_on hbx (below_sub (uh B3) bY))
     obtain ⟨y0,y1,y2,y3,y4,y5⟩:=of6C y8
     have z0r:=cell_regrownC z0
     have z1r:=cell_regrownC z1
     have z2r:=cell_regrownC z2
     have z3r:=cell_regrownC z3
     have z4r:=cell_regrownC z4
     have z5r:=cell_regrownC z5
     have y0r:=cell_regrownC y0
     have y1r:=cell_regrownC y1
     have y2r:=cell_regrownC y2
     have y3r:=cell_regrownC y3
     have y4r:=cell_regrownC y4
     have y5r:=cell_regrownC y5
     have hHp:=fun n os=>holds_pd u p qe ce ev (grow (redrawn Y n) os) ((uh HU).keep (below_sub (uh HB) (below_sub (uh BV) (below_sub (uh B3) (below_sub bY (below_regrown Y n os)))))) (uh HSP) ((uh HE).below (below_sub (uh HB) (below_sub (uh BV) (below_sub (uh B3) (below_sub bY (below_regrown Y n os)))))) l3
     have hHq:=fun n os=>holds_pd r m qe ce ev (grow (redrawn Y n) os) ((uh O3).1.keep (below_sub bY (below_regrown Y n os))) hms ((uh HE).below (below_sub (uh HB) (below_sub (uh BV) (below_sub (uh B3) (below_sub bY (below_regrown Y n os)))))) l3
     have hCm:=fun n os=>compareD u u p p (grow (redrawn Y n) os) ((uh HU).keep (below_sub (uh HB) (below_sub (uh BV) (below_sub (uh B3) (below_sub bY (below_regrown Y n os)))))) ((uh HU).keep (below_sub (uh HB) (below_sub (uh BV) (below_sub (uh B3) (below_sub bY (below_regrown Y n os)))))) (uh HSP)
     unfold Pv.val at hHp hHq hCm
     rw [uh HHH] at hHp
     rw [hhm] at hHq
     rw [(isCmp_D.eq p p).2 rfl] at hCm
     have HW1q:=HY
     clear HY y8 bY x0 x1 x2 x3 x4 x5 z0 z1 z2 z3 z4 z5 y0 y1 y2 y3 y4 y5 hN hbx hhm hms
     by_cases hz:k=0
     ·subst hz
      clear HW1q
      refine wp_region_quiet_below (by assumption) (by kernel_rfl) ?_
      repeat (go_big_quiet_step (first | (go_at_fn 37;with_reducible refine Calls.regrown_of (hHq _ _)) | (go_at_fn 37;with_reducible refine Calls.regrown_of (hHp _ _)) | (go_at_fn 20;refine Calls.regrown_of (hCm _ _))))
      refine wpQuiet_nil ?_
      intro _ hw'
      obtain ⟨⟨dq,osq⟩,hw''⟩:=hw'
      subst hw''
      have BF:=hide (below_sub (uh HB) (below_sub (uh BV) (below_sub (uh B3) (below_sub (uh BY) (below_regrown Y dq osq)))))
      generalize grow (redrawn Y dq) osq=V4 at BF ⊢
      go_wp2
      go_roundw
      case rel=>exact ⟨0 + 1,by omega,by go_num,by rw [uh HT];rfl,BF⟩
      case measure=>simp [intOf];omega
     ·have hz1:((k:Int) == 0)=false:=by rw [beq_eq_false_iff_ne];omega
      clear hz
      clear HW1q
      refine wp_region_quiet_below (by assumption) (by kernel_rfl) ?_
      repeat (go_big_quiet_step (first | (go_at_fn 37;with_reducible refine Calls.regrown_of (hHq _ _)) | (go_at_fn 37;with_reducible refine Calls.regrown_of (hHp _ _)) | (go_at_fn 20;refine Calls.regrown_of (hCm _ _))))
      refine wpQuiet_nil ?_
      intro _ hw'
      obtain ⟨⟨dq,osq⟩,hw''⟩:=hw'
      subst hw''
      have BF:=hide (below_sub (uh HB) (below_sub (uh BV) (below_sub (uh B3) (below_sub (uh BY) (below_regrown Y dq osq)))))
      generalize grow (redrawn Y dq) osq=V4 at BF ⊢
      go_wp2
      go_roundw
      case rel=>exact ⟨k + 1,by omega,by go_num,by rw [uh HT];rfl,BF⟩
      case measure=>simp [intOf];omega
   | false =>
    clear hHold
    go_upto_region 8 with (fail)
    clear e0 e1 e2 e3 e4 e5
    have BVZ:=hide (Below.refl Z.heap.size Z)
    have BV:=hide (uh BZ)
    have hbx:=blk_on (uh ZK) (uh BVZ)
    obtain ⟨x0,x1,x2,x3,x4,x5⟩:=of6C hbx
    have hN:=normal_any u p Z ((uh HU).keep (below_sub (uh HB) (uh BV))) (uh HSP)
    unfold Pv.val at hN
    cases hn:normD p with
    | none =>
     rw [hn] at hN
     have hh0:h=false:=by rw [← uh HHH];exact (meets_each ev p).2 hn
     subst hh0
     clear hn
     go_upto_region 9 with (go_at_call 16;refine hN.mono ?_;rintro e w3 ⟨⟨r,rfl,ho⟩,b3⟩;have B3:=hide b3;clear b3 ho)
     obtain ⟨Y,HY⟩:∃ Y,w3.alloc (.cells #[.int .i64 r.kind,.string r.attr,.slice r.qi r.ni r.ci,.slice r.qw r.nw r.cw,.int .i64 r.lo,.int .i64 r.hi] 26)=Y:=⟨_,rfl⟩
     rw [HY]
     have y8:Y.heap[w3.heap.size]? = some (.cells #[.int .i64 r.kind,.string r.attr,.slice r.qi r.ni r.ci,.slice r.qw r.nw r.cw,.int .i64 r.lo,.int .i64 r.hi] 26 (0,0)):=by rw [← HY];exact World.alloc_heap_new _ _
     have bY:Below w3.heap.size w3 Y:=by rw [← HY];exact (Below.refl _ _).alloc (Nat.le_refl _) _
     have BY:=hide bY
     obtain ⟨z0,z1,z2,z3,z4,z5⟩:=of6C (blk_on hbx (below_sub (uh B3) bY))
     have z0r:=cell_regrownC z0
     have z1r:=cell_regrownC z1
     have z2r:=cell_regrownC z2
     have z3r:=cell_regrownC z3
     have z4r:=cell_regrownC z4
     have z5r:=cell_regrownC z5
     have hHp:=fun n os=>holds_pd u p qe ce ev (grow (redrawn Y n) os) ((uh HU).keep (below_sub (uh HB) (below_sub (uh BV) (below_sub (uh B3) (below_sub bY (below_regrown Y n os)))))) (uh HSP) ((uh HE).below (below_sub (uh HB) (below_sub (uh BV) (below_sub (uh B3) (below_sub bY (below_regrown Y n os)))))) l3
     unfold Pv.val at hHp
     rw [uh HHH] at hHp
     have HW1q:=HY
     clear HY y8 bY x0 x1 x2 x3 x4 x5 z0 z1 z2 z3 z4 z5 hN hbx
     clear HW1q
     refine wp_region_quiet_below (by assumption) (by kernel_rfl) ?_
     repeat (go_big_quiet_step (first | (go_at_fn 37;refine Calls.regrown_of (hHp _ _))))
     refine wpQuiet_nil ?_
     intro _ hw'
     obtain ⟨⟨dq,osq⟩,hw''⟩:=hw'
     subst hw''
     have BF:=hide (below_sub (uh HB) (below_sub (uh BV) (below_sub (uh B3) (below_sub (uh BY) (below_regrown Y dq osq)))))
     generalize grow (redrawn Y dq) osq=V4 at BF ⊢
     go_wp2
     go_roundw
     case rel=>exact ⟨k + 1,by omega,by go_num,by rw [uh HT];rfl,BF⟩
     case measure=>simp [intOf];omega
    | some m =>
     rw [hn] at hN
     have hhm:holdsD ev m=h:=by rw [← uh HHH];exact (meets_each ev p).1 m hn
     have hms:=gd_small (gd_norm (uh HSP) hn)
     clear hn
     go_upto_region 9 with (go_at_call 16;refine hN.mono ?_;rintro e w3 ⟨⟨r,rfl,ho⟩,b3⟩;have B3:=hide b3;have O3:=hide ho;clear b3 ho)
     obtain ⟨Y,HY⟩:∃ Y,w3.alloc (.cells #[.int .i64 r.kind,.string r.attr,.slice r.qi r.ni r.ci,.slice r.qw r.nw r.cw,.int .i64 r.lo,.int .i64 r.hi] 26)=Y:=⟨_,rfl⟩
     rw [HY]
     have y8:Y.heap[w3.heap.size]? = some (.cells #[.int .i64 r.kind,.string r.attr,.slice r.qi r.ni r.ci,.slice r.qw r.nw r.cw,.int .i64 r.lo,.int .i64 r.hi] 26 (0,0)):=by rw [← HY];exact World.alloc_heap_new _ _
     have bY:Below w3.heap.size w3 Y:=by rw [← HY];exact (Below.refl _ _).alloc (Nat.le_refl _) _
     have BY:=hide bY
     obtain ⟨z0,z1,z2,z3,z4,z5⟩:=of6C (blk_on hbx (below_sub (uh B3) bY))
     obtain ⟨y0,y1,y2,y3,y4,y5⟩:=of6C y8
     have z0r:=cell_regrownC z0
     have z1r:=cell_regrownC z1
     have z2r:=cell_regrownC z2
     have z3r:=cell_regrownC z3
     have z4r:=cell_regrownC z4
     have z5r:=cell_regrownC z5
     have y0r:=cell_regrownC y0
     have y1r:=cell_regrownC y1
     have y2r:=cell_regrownC y2
     have y3r:=cell_regrownC y3
     have y4r:=cell_regrownC y4
     have y5r:=cell_regrownC y5
     have hHp:=fun n os=>holds_pd u p qe ce ev (grow (redrawn Y n) os) ((uh HU).keep (below_sub (uh HB) (below_sub (uh BV) (below_sub (uh B3) (below_sub bY (below_regrown Y n os)))))) (uh HSP) ((uh HE).below (below_sub (uh HB) (below_sub (uh BV) (below_sub (uh B3) (below_sub bY (below_regrown Y n os)))))) l3
     have hHq:=fun n os=>holds_pd r m qe ce ev (grow (redrawn Y n) os) ((uh O3).1.keep (below_sub bY (below_regrown Y n os))) hms ((uh HE).below (below_sub (uh HB) (below_sub (uh BV) (below_sub (uh B3) (below_sub bY (below_regrown Y n os)))))) l3
     have hCm:=fun n os=>compareD u u p p (grow (redrawn Y n) os) ((uh HU).keep (below_sub (uh HB) (below_sub (uh BV) (below_sub (uh B3) (below_sub bY (below_regrown Y n os)))))) ((uh HU).keep (below_sub (uh HB) (below_sub (uh BV) (below_sub (uh B3) (below_sub bY (below_regrown Y n os)))))) (uh HSP)
     unfold Pv.val at hHp hHq hCm
     rw [uh HHH] at hHp
     rw [hhm] at hHq
     rw [(isCmp_D.eq p p).2 rfl] at hCm
     have HW1q:=HY
     clear HY y8 bY x0 x1 x2 x3 x4 x5 z0 z1 z2 z3 z4 z5 y0 y1 y2 y3 y4 y5 hN hbx hhm hms
     by_cases hz:k=0
     ·subst hz
      clear HW1q
      refine wp_region_quiet_below (by assumption) (by kernel_rfl) ?_
      repeat (go_big_quiet_step (first | (go_at_fn 37;with_reducible refine Calls.regrown_of (hHq _ _)) | (go_at_fn 37;with_reducible refine Calls.regrown_of (hHp _ _)) | (go_at_fn 20;refine Calls.regrown_of (hCm _ _))))
      refine wpQuiet_nil ?_
      intro _ hw'
      obtain ⟨⟨dq,osq⟩,hw''⟩:=hw'
      subst hw''
      have BF:=hide (below_sub (uh HB) (below_sub (uh BV) (below_sub (uh B3) (below_sub (uh BY) (below_regrown Y dq osq)))))
      generalize grow (redrawn Y dq) osq=V4 at BF ⊢
      go_wp2
      go_roundw
      case rel=>exact ⟨0 + 1,by omega,by go_num,by rw [uh HT];rfl,BF⟩
      case measure=>simp [intOf];omega
     ·have hz1:((k:Int) == 0)=false:=by rw [beq_eq_false_iff_ne];omega
      clear hz
      clear HW1q
      refine wp_region_quiet_below (by assumption) (by kernel_rfl) ?_
      repeat (go_big_quiet_step (first | (go_at_fn 37;with_reducible refine Calls.regrown_of (hHq _ _)) | (go_at_fn 37;with_reducible refine Calls.regrown_of (hHp _ _)) | (go_at_fn 20;refine Calls.regrown_of (hCm _ _))))
      refine wpQuiet_nil ?_
      intro _ hw'
      obtain ⟨⟨dq,osq⟩,hw''⟩:=hw'
      subst hw''
      have BF:=hide (below_sub (uh HB) (below_sub (uh BV) (below_sub (uh B3) (below_sub (uh BY) (below_regrown Y dq osq)))))
      generalize grow (redrawn Y dq) osq=V4 at BF ⊢
      go_wp2
      go_roundw
      case rel=>exact ⟨k + 1,by omega,by go_num,by rw [uh HT];rfl,BF⟩
      case measure=>simp [intOf];omega
  ·have k1:¬ (k:Int) < (l.length:Int):=by omega
   have e1:l.take k=l:=List.take_of_length_le (by omega)
   rw [e1]
   obtain ⟨G,hG⟩:∃ G,l.all (holdsD ev)=G:=⟨_,rfl⟩
   rw [hG]
   have HG:=hide hG
   have hM:=meet_any (some ⟨pb,po,none⟩) c l wr ((uh HH).below (uh HB)) (uh HS) (by omega)
   clear e1 hG
   go_upto_region 13 with (go_at_call 14;refine hM.mono ?_;rintro e w2 ⟨⟨r,rfl,ho⟩,b2⟩;have B2:=hide b2;have O2:=hide ho;clear b2 ho)
   obtain ⟨Y,HY⟩:∃ Y,w2.alloc (.cells #[.int .i64 r.kind,.string r.attr,.slice r.qi r.ni r.ci,.slice r.qw r.nw r.cw,.int .i64 r.lo,.int .i64 r.hi] 26)=Y:=⟨_,rfl⟩
   rw [HY]
   have HY8:=hide (show Y.heap[w2.heap.size]? = some (.cells #[.int .i64 r.kind,.string r.attr,.slice r.qi r.ni r.ci,.slice r.qw r.nw r.cw,.int .i64 r.lo,.int .i64 r.hi] 26 (0,0)) by rw [← HY];exact World.alloc_heap_new _ _)
   have bY:Below w2.heap.size w2 Y:=by rw [← HY];exact (Below.refl _ _).alloc (Nat.le_refl _) _
   have BY:=hide (below_sub (uh HB) (below_sub (uh B2) bY))
   have PY:=hide ((uh O2).1.keep bY)
   clear HY bY hM
   obtain ⟨kk,hkk,hkw⟩:=turn_of turn l.length hn0 (by omega)
   have HKK:=hide hkk
   have hnc:l.length≤c:=by have:=(uh HUS).2.1;have:=(uh HUP).1;omega
   have HNC:=hide hnc
   have SD:=hide (slG_drop (by decide) ((uh HUS).below (uh BY)) kk (by have:=(uh HUP).1;omega))
   have ST:=hide (slG_take (by decide) ((uh HUS).below (uh BY)) kk)
   have MT:=hide (show MtOk Y us l kk l.length from ⟨(uh HUP).1,rfl,by omega,by omega,uh HS,fun j u p hj hp=>((uh HUP).2 j u p hj hp).keep (uh BY)⟩)
   have HKW:=hide hkw
   clear hnc hkk hkw
   go_upto_region 16 with (fail)
   rw [uh HKW]
   refine reg16 Y pb po l.length c kk (l.length - kk) (c - kk) us l (uh MT) (uh HKK) (uh HNC) rfl rfl hl (uh SD) (uh ST) _ _ _ _ _ _ _ _ _ _ _ _ _ _ _ _ _ _ _ _ _ _ _ _ _ _ _ _ _ _ _ _ _ _ _ _ _ _ _ _ _ _ _ _ _ _ _ _ _ _ _ _ _ _ _ _ _ _ _ _ _ _ _ _ _ _ _ _ _ _ _ _ _ _ _ _ _ _ _ _ _ _ _ _ _ _ _ _ _ _ _ _ _ _ _ _ _ _ _ _ _ _ _ _ _ _ _ _ _ _ _ _ _ _ _ _ _ _ _ _ _ _ _ _ _ _ _ _ (by intro c a o v w h;cases o <;> exact h) ?_
   intro W r' M t88 t89 t90 t91 t92 t93 t94 t95 t96 t97 t98 t99 t100 hbW hM hP2
   have hY8:=blk_on (uh HY8) hbW
   have HM:=hide hM
   have BW:=hide (below_sub (uh BY) hbW)
   have HBW:=hide hbW
   have PW:=hide ((uh PY).keep hbW)
   have P2:=hide hP2
   obtain ⟨y0,y1,y2,y3,y4,y5⟩:=of6C hY8
   obtain ⟨m0,m1,m2,m3,m4,m5⟩:=of6C hM
   have hSm:=samePd r r' _ _ W (uh PW) hP2 meet_small
   rw [decide_eq_true (rfl:(meetD l).getD zeroD=(meetD l).getD zeroD)] at hSm
   clear hY8 hM hbW hP2
   have hAl:=fun (V:World) (hV:Below W.heap.size W V)=>alike_any (some ⟨pb,po,none⟩) c l V ((uh HH).below (below_sub (uh BW) hV)) (uh HS) (by omega)
   have hHd:=fun (V:World) (hV:Below W.heap.size W V)=>holds_pd r ((meetD l).getD zeroD) qe ce ev V ((uh PW).keep hV) meet_small ((uh HE).below (below_sub (uh BW) hV)) l3
   unfold Pv.val at hHd
   have HML:=hide (meets_none (l:=l) ev)
   have HMS:=hide (fun m=>meets_some (l:=l) (m:=m) ev)
   cases hmm:meetD l with
   | none =>
    have hfin:=uh HML hmm
    rw [uh HG,decide_eq_true hn0,Bool.true_and] at hfin
    have HFIN:=hide hfin
    clear hmm hfin hHd
    cases G with
    | false =>
     clear hAl
     go_wp2_with (go_at_call 18;refine hSm.mono ?_;rintro e w5 ⟨rfl,b5⟩;have B5:=hide b5;clear b5)
     go_ret
     exact ⟨rfl,below_sub (uh BW) (uh B5)⟩
    | true =>
     have hAf:alikeD l=false:=by have:=uh HFIN;simpa using this
     rw [hAf] at hAl
     clear hAf
     go_wp2_with (first
      | (go_at_call 18;refine hSm.mono ?_;rintro e w5 ⟨rfl,b5⟩;have B5:=hide b5;clear b5)
      | (go_at_call 38;refine (hAl _ (uh B5)).mono ?_;rintro e w6 ⟨rfl,b6⟩;have B6:=hide b6;clear b6))
     go_ret
     exact ⟨rfl,below_sub (uh BW) (below_sub (uh B5) (uh B6))⟩
   | some m =>
    obtain ⟨f1,f2⟩:=uh HMS m hmm
    rw [uh HG,decide_eq_true hn0,Bool.true_and] at f1
    rw [hmm] at hHd
    simp only [Option.getD_some,f1] at hHd
    rw [f2] at hAl
    clear hmm f1 f2
    go_upto_region 21 with (go_at_call 18;refine hSm.mono ?_;rintro e w5 ⟨rfl,b5⟩;have B5:=hide b5;clear b5)
    have hY9:=(uh B5).cell (p:=⟨w2.heap.size,0,none⟩)
    obtain ⟨z0,z1,z2,z3,z4,z5⟩:=of6C (blk_on (blk_on (uh HY8) (uh HBW)) (uh B5))
    clear hY9
    cases G with
    | false =>
     go_wp2_with (first
      | (go_at_call 37;refine (hHd _ (uh B5)).mono ?_;rintro e w6 ⟨rfl,b6⟩;have B6:=hide (below_sub (uh B5) b6);clear b6)
      | (go_at_call 38;refine (hAl _ (uh B6)).mono ?_;rintro e w7 ⟨rfl,b7⟩;have B7:=hide (below_sub (uh B6) b7);clear b7))
     go_ret
     exact ⟨rfl,below_sub (uh BW) (uh B7)⟩
    | true =>
     go_wp2_with (first
      | (go_at_call 37;refine (hHd _ (uh B5)).mono ?_;rintro e w6 ⟨rfl,b6⟩;have B6:=hide (below_sub (uh B5) b6);clear b6)
      | (go_at_call 38;refine (hAl _ (uh B6)).mono ?_;rintro e w7 ⟨rfl,b7⟩;have B7:=hide (below_sub (uh B6) b7);clear b7))
     go_ret
     exact ⟨rfl,below_sub (uh BW) (uh B7)⟩
end Go.Proofs.YtimklglliffpcaaGreat
namespace Go.Proofs.YtimklglliffpcaaGreat
open Go.RowKit Go.Sort Go.Shelf

set_option maxHeartbeats 16000000 in
set_option maxRecDepth 100000 in
theorem conjMeets_z (ad:Addr) (c:Nat) (qe:Option Addr) (ce:Nat) (ev:List Pr) (turn:Int) (w:World) (hcm:c≤maxLen) :
  Calls Tryz.prog 7 #[.slice (some ad) 0 c,.slice qe ev.length ce,.int .i64 turn] w fun e w'=>e=.returned (.bool true)∧Below w.heap.size w w':=by
 have hF:=fixed_any w
 go_enter Tryz.func7,Tryz.ntmps7
 go_upto_region 3 with (go_at_call 11;refine hF.mono ?_;rintro e w1 ⟨rfl,b1⟩;have B1:=hide b1;clear b1)
 clear hF
 go_wp2
 go_loopw [7,24] (fun av iv wr=>av=.bool false∧iv=.int .i64 0∧Hid (Below w.heap.size w wr)) (fun _ _ _=>0)
 case atStart=>exact ⟨rfl,rfl,B1⟩
 case round =>
  obtain ⟨rfl,rfl,HB⟩:=hrel
  have hms:(meetD []).isSome=false:=rfl
  have hM:=meet_any (some ad) c [] wr ⟨[],⟨(fun h=>by cases h),Nat.zero_le _,hcm,LsOf.nil _ _⟩,rfl,fun j u p hj=>by simp at hj⟩ (fun p hp=>by simp at hp) (by simp)
  go_upto_region 13 with (go_at_call 14;refine hM.mono ?_;rintro e w2 ⟨⟨r,rfl,ho⟩,b2⟩;have B2:=hide b2;have O2:=hide ho;clear b2 ho)
  obtain ⟨Y,HY⟩:∃ Y,w2.alloc (.cells #[.int .i64 r.kind,.string r.attr,.slice r.qi r.ni r.ci,.slice r.qw r.nw r.cw,.int .i64 r.lo,.int .i64 r.hi] 26)=Y:=⟨_,rfl⟩
  rw [HY]
  have HY8:=hide (show Y.heap[w2.heap.size]? = some (.cells #[.int .i64 r.kind,.string r.attr,.slice r.qi r.ni r.ci,.slice r.qw r.nw r.cw,.int .i64 r.lo,.int .i64 r.hi] 26 (0,0)) by rw [← HY];exact World.alloc_heap_new _ _)
  have bY:Below w2.heap.size w2 Y:=by rw [← HY];exact (Below.refl _ _).alloc (Nat.le_refl _) _
  have BY:=hide (below_sub (uh HB) (below_sub (uh B2) bY))
  have PY:=hide ((uh O2).1.keep bY)
  clear HY bY hM
  go_upto_region 16 with (fail)
  refine reg16z Y ad c _ _ _ _ _ _ _ _ _ _ _ _ _ _ _ _ _ _ _ _ _ _ _ _ _ _ _ _ _ _ _ _ _ _ _ _ _ _ _ _ _ _ _ _ _ _ _ _ _ _ _ _ _ _ _ _ _ _ _ _ _ _ _ _ _ _ _ _ _ _ _ _ _ _ _ _ _ _ _ _ _ _ _ _ _ _ _ _ _ _ _ _ _ _ _ _ _ _ _ _ _ _ _ _ _ _ _ _ _ _ _ _ _ _ _ _ _ _ _ _ _ _ _ _ _ _ _ _ (by intro c a o v w h;cases o <;> exact h) ?_
  intro W r' M t88 t89 t90 t91 t92 t93 t94 t95 t96 t97 t98 t99 t100 hbW hM hP2
  have hY8:=blk_on (uh HY8) hbW
  have BW:=hide (below_sub (uh BY) hbW)
  have PW:=hide ((uh PY).keep hbW)
  obtain ⟨y0,y1,y2,y3,y4,y5⟩:=of6C hY8
  obtain ⟨m0,m1,m2,m3,m4,m5⟩:=of6C hM
  have hSm:=samePd r r' _ _ W (uh PW) hP2 meet_small
  rw [decide_eq_true (rfl:(meetD []).getD zeroD=(meetD []).getD zeroD)] at hSm
  clear hY8 hM hbW hP2
  go_wp2_with (go_at_call 18;refine hSm.mono ?_;rintro e w5 ⟨rfl,b5⟩;have B5:=hide b5;clear b5)
  go_ret
  exact ⟨rfl,below_sub (uh BW) (uh B5)⟩

set_option maxHeartbeats 16000000 in
set_option maxRecDepth 100000 in
theorem conjMeets_y (qe:Option Addr) (ce:Nat) (ev:List Pr) (turn:Int) (w:World) :
  Calls Tryz.prog 7 #[.slice none 0 0,.slice qe ev.length ce,.int .i64 turn] w fun e w'=>e=.returned (.bool true)∧Below w.heap.size w w':=by
 have hF:=fixed_any w
 go_enter Tryz.func7,Tryz.ntmps7
 go_upto_region 3 with (go_at_call 11;refine hF.mono ?_;rintro e w1 ⟨rfl,b1⟩;have B1:=hide b1;clear b1)
 clear hF
 go_wp2
 go_loopw [7,24] (fun av iv wr=>av=.bool false∧iv=.int .i64 0∧Hid (Below w.heap.size w wr)) (fun _ _ _=>0)
 case atStart=>exact ⟨rfl,rfl,B1⟩
 case round =>
  obtain ⟨rfl,rfl,HB⟩:=hrel
  have hms:(meetD []).isSome=false:=rfl
  have hM:=meet_any none 0 [] wr ⟨[],⟨(fun _=>⟨rfl,rfl⟩),Nat.zero_le _,Nat.zero_le _,LsOf.nil _ _⟩,rfl,fun j u p hj=>by simp at hj⟩ (fun p hp=>by simp at hp) (by simp)
  go_upto_region 13 with (go_at_call 14;refine hM.mono ?_;rintro e w2 ⟨⟨r,rfl,ho⟩,b2⟩;have B2:=hide b2;have O2:=hide ho;clear b2 ho)
  obtain ⟨Y,HY⟩:∃ Y,w2.alloc (.cells #[.int .i64 r.kind,.string r.attr,.slice r.qi r.ni r.ci,.slice r.qw r.nw r.cw,.int .i64 r.lo,.int .i64 r.hi] 26)=Y:=⟨_,rfl⟩
  rw [HY]
  have HY8:=hide (show Y.heap[w2.heap.size]? = some (.cells #[.int .i64 r.kind,.string r.attr,.slice r.qi r.ni r.ci,.slice r.qw r.nw r.cw,.int .i64 r.lo,.int .i64 r.hi] 26 (0,0)) by rw [← HY];exact World.alloc_heap_new _ _)
  have bY:Below w2.heap.size w2 Y:=by rw [← HY];exact (Below.refl _ _).alloc (Nat.le_refl _) _
  have BY:=hide (below_sub (uh HB) (below_sub (uh B2) bY))
  have PY:=hide ((uh O2).1.keep bY)
  clear HY bY hM
  go_upto_region 16 with (fail)
  refine reg16y Y _ _ _ _ _ _ _ _ _ _ _ _ _ _ _ _ _ _ _ _ _ _ _ _ _ _ _ _ _ _ _ _ _ _ _ _ _ _ _ _ _ _ _ _ _ _ _ _ _ _ _ _ _ _ _ _ _ _ _ _ _ _ _ _ _ _ _ _ _ _ _ _ _ _ _ _ _ _ _ _ _ _ _ _ _ _ _ _ _ _ _ _ _ _ _ _ _ _ _ _ _ _ _ _ _ _ _ _ _ _ _ _ _ _ _ _ _ _ _ _ _ _ _ _ _ _ _ _ (by intro c a o v w h;cases o <;> exact h) ?_
  intro W r' M t88 t89 t90 t91 t92 t93 t94 t95 t96 t97 t98 t99 t100 hbW hM hP2
  have hY8:=blk_on (uh HY8) hbW
  have BW:=hide (below_sub (uh BY) hbW)
  have PW:=hide ((uh PY).keep hbW)
  obtain ⟨y0,y1,y2,y3,y4,y5⟩:=of6C hY8
  obtain ⟨m0,m1,m2,m3,m4,m5⟩:=of6C hM
  have hSm:=samePd r r' _ _ W (uh PW) hP2 meet_small
  rw [decide_eq_true (rfl:(meetD []).getD zeroD=(meetD []).getD zeroD)] at hSm
  clear hY8 hM hbW hP2
  go_wp2_with (go_at_call 18;refine hSm.mono ?_;rintro e w5 ⟨rfl,b5⟩;have B5:=hide b5;clear b5)
  go_ret
  exact ⟨rfl,below_sub (uh BW) (uh B5)⟩

theorem conjMeets_any (q:Option Addr) (c:Nat) (l:List Pd) (qe:Option Addr) (ce:Nat) (ev:List Pr) (turn:Int) (w:World) (h:PdsOf w q c l) (hs:Small l) (he:SlOf encP 4 w qe ce ev) (hl:l.length * 88≤140737488355328) (l3:ev.length≤100000000000000) :
  Calls Tryz.prog 7 #[.slice q l.length c,.slice qe ev.length ce,.int .i64 turn] w fun e w'=>e=.returned (.bool true)∧Below w.heap.size w w':=by
 by_cases h0:0 < l.length
 ·exact conjMeets_law q c l qe ce ev turn w h hs he hl l3 h0
 ·obtain rfl:l=[]:=List.length_eq_zero_iff.1 (by omega)
  obtain ⟨us,hu,_⟩:=h
  cases q with
  | none =>
   obtain ⟨_,rfl⟩:=hu.1 rfl
   exact conjMeets_y qe ce ev turn w
  | some a =>
   exact conjMeets_z a c qe ce ev turn w hu.2.2.1
end Go.Proofs.YtimklglliffpcaaGreat
