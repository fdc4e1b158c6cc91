/- The document's Same. -/
import Derived.Test.YtdgoibnndfibnaaGreatDoorRS32
namespace Go.Proofs.YtdgoibnndfibnaaGreatDoor
open Go.RowKit Go.Sort
set_option maxRecDepth 100000 in
theorem neqCfg (a b:Cfg) (w:World):(binOp .neq 25 (.agg #[.int .i64 a.d,.int .i64 a.c,.int .i64 a.s,.int .i64 a.t,.int .i64 a.h,.int .i64 a.q,.int .i64 a.w,.int .i64 a.u]) (.agg #[.int .i64 b.d,.int .i64 b.c,.int .i64 b.s,.int .i64 b.t,.int .i64 b.h,.int .i64 b.q,.int .i64 b.w,.int .i64 b.u])).run Tryz.prog w=.ok (.bool (!decide (a=b))) w:=by
 have u3:=Tryz.underlying3
 have a3:=Tryz.isAgg3
 have z3:=Tryz.sizeOf3
 have a23:=Tryz.isAgg23
 have z23:=Tryz.sizeOf23
 have hS:Tryz.prog.underlying 25=some (.struct (Tryz.prog.fieldsOf 25)):=by kernel_rfl
 have hp:Tryz.prog.stoodInHeld 25=false:=by kernel_rfl
 have h23:(Op.equalIn 9999 23 (.agg #[.int .i64 a.d,.int .i64 a.c,.int .i64 a.s,.int .i64 a.t]) (.agg #[.int .i64 b.d,.int .i64 b.c,.int .i64 b.s,.int .i64 b.t])).run Tryz.prog w=.ok (decide (a.d=b.d/\a.c=b.c/\a.s=b.s/\a.t=b.t)) w:=by
  clear hS hp
  have hS23:Tryz.prog.underlying 23=some (.struct (Tryz.prog.fieldsOf 23)):=by kernel_rfl
  have hp23:Tryz.prog.stoodInHeld 23=false:=by kernel_rfl
  rw [show (9999:Nat)=9998 + 1 from rfl,run_equalIn_agg w 9998 23 _ _ hS23 hp23]
  simp only [Program.fieldsOf,Tryz.underlying23]
  go_simp
  by_cases h1:a.d=b.d <;> by_cases h2:a.c=b.c <;> by_cases h3:a.s=b.s <;> by_cases h4:a.t=b.t <;> simp [h1,h2,h3,h4]
 rw [run_neq_struct,show (10000:Nat)=9999 + 1 from rfl,run_equalIn_agg w 9999 25 _ _ hS hp]
 simp only [Program.fieldsOf,Tryz.underlying25]
 go_simp
 have hd:(a=b) ↔ ((a.d=b.d/\a.c=b.c/\a.s=b.s/\a.t=b.t)/\a.h=b.h/\a.q=b.q/\a.w=b.w/\a.u=b.u):=⟨fun h=>by subst h;exact ⟨⟨rfl,rfl,rfl,rfl⟩,rfl,rfl,rfl,rfl⟩,fun ⟨⟨h1,h2,h3,h4⟩,h5,h6,h7,h8⟩=>by cases a;cases b;simp only at h1 h2 h3 h4 h5 h6 h7 h8;subst h1 h2 h3 h4 h5 h6 h7 h8;rfl⟩
 rw [show decide (a=b)=decide ((a.d=b.d/\a.c=b.c/\a.s=b.s/\a.t=b.t)/\a.h=b.h/\a.q=b.q/\a.w=b.w/\a.u=b.u) from decide_eq_decide.2 hd]
 by_cases h0:(a.d=b.d/\a.c=b.c/\a.s=b.s/\a.t=b.t) <;> by_cases h5:a.h=b.h <;> by_cases h6:a.q=b.q <;> by_cases h7:a.w=b.w <;> by_cases h8:a.u=b.u <;> first | (simp [h0,h5,h6,h7,h8];done) | (simp [h0,h5,h6,h7,h8];try exact fun e1 e2 e3 e4=>h0 ⟨e1,e2,e3,e4⟩)
theorem Tryz.enters22:∀ args w,(callFunc 22 args).run Tryz.prog w=.ok (.enter 22 args) w:=enters_of Tryz.func22 (by kernel_rfl) rfl
set_option maxHeartbeats 8000000 in
set_option maxRecDepth 100000 in
theorem refSame_scr (w:World) (qa:Option Addr) (ca:Nat) (qo:Option Addr) (co:Nat) (us:List Ou) (s:Scr) (qa':Option Addr) (ca':Nat) (qo':Option Addr) (co':Nat) (vs:List Ou) (p:Scr) (h:TxIn w qa ca qo co us s) (h':TxIn w qa' ca' qo' co' vs p) (ha:s.attrs.length<=140737488355328) (hl:us.length<=140737488355328) (hZ:OpsZ s.ops) :
  Calls Tryz.prog 17 #[.agg #[.int .i64 s.cfg.d,.int .i64 s.cfg.c,.int .i64 s.cfg.s,.int .i64 s.cfg.t,.int .i64 s.cfg.h,.int .i64 s.cfg.q,.int .i64 s.cfg.w,.int .i64 s.cfg.u,.slice qa s.attrs.length ca,.slice qo us.length co],.agg #[.int .i64 p.cfg.d,.int .i64 p.cfg.c,.int .i64 p.cfg.s,.int .i64 p.cfg.t,.int .i64 p.cfg.h,.int .i64 p.cfg.q,.int .i64 p.cfg.w,.int .i64 p.cfg.u,.slice qa' p.attrs.length ca',.slice qo' vs.length co']] w fun e w'=>e=.returned (.bool (sameB s p))/\Below w.heap.size w w':=by
 have mixed:Tryz.prog.follows .mixedOrders=true:=by kernel_rfl
 obtain ⟨R,hR⟩:∃ R,sameB s p=R:=⟨_,rfl⟩
 rw [hR]
 obtain ⟨X,HX⟩:∃ X,(w.alloc (.cells #[.int .i64 s.cfg.d,.int .i64 s.cfg.c,.int .i64 s.cfg.s,.int .i64 s.cfg.t,.int .i64 s.cfg.h,.int .i64 s.cfg.q,.int .i64 s.cfg.w,.int .i64 s.cfg.u,.slice qa s.attrs.length ca,.slice qo us.length co] 29)).alloc (.cells #[.int .i64 p.cfg.d,.int .i64 p.cfg.c,.int .i64 p.cfg.s,.int .i64 p.cfg.t,.int .i64 p.cfg.h,.int .i64 p.cfg.q,.int .i64 p.cfg.w,.int .i64 p.cfg.u,.slice qa' p.attrs.length ca',.slice qo' vs.length co'] 29)=X:=⟨_,rfl⟩
 have bX:Below w.heap.size w X:=by rw [<- HX];exact bal (bal (Below.refl _ _) _) _
 have hx:X.heap[w.heap.size]? = some (.cells #[.int .i64 s.cfg.d,.int .i64 s.cfg.c,.int .i64 s.cfg.s,.int .i64 s.cfg.t,.int .i64 s.cfg.h,.int .i64 s.cfg.q,.int .i64 s.cfg.w,.int .i64 s.cfg.u,.slice qa s.attrs.length ca,.slice qo us.length co] 29 (0,0)):=by rw [<- HX];exact blk_onS (box_new w _) ((Below.refl _ _).alloc (Nat.le_refl _) _)
 have hy:X.heap[w.heap.size + 1]? = some (.cells #[.int .i64 p.cfg.d,.int .i64 p.cfg.c,.int .i64 p.cfg.s,.int .i64 p.cfg.t,.int .i64 p.cfg.h,.int .i64 p.cfg.q,.int .i64 p.cfg.w,.int .i64 p.cfg.u,.slice qa' p.attrs.length ca',.slice qo' vs.length co'] 29 (0,0)):=by
  rw [<- HX]
  have h:=box_new (w.alloc (.cells #[.int .i64 s.cfg.d,.int .i64 s.cfg.c,.int .i64 s.cfg.s,.int .i64 s.cfg.t,.int .i64 s.cfg.h,.int .i64 s.cfg.q,.int .i64 s.cfg.w,.int .i64 s.cfg.u,.slice qa s.attrs.length ca,.slice qo us.length co] 29)) (.cells #[.int .i64 p.cfg.d,.int .i64 p.cfg.c,.int .i64 p.cfg.s,.int .i64 p.cfg.t,.int .i64 p.cfg.h,.int .i64 p.cfg.q,.int .i64 p.cfg.w,.int .i64 p.cfg.u,.slice qa' p.attrs.length ca',.slice qo' vs.length co'] 29)
  rw [show (w.alloc (.cells #[.int .i64 s.cfg.d,.int .i64 s.cfg.c,.int .i64 s.cfg.s,.int .i64 s.cfg.t,.int .i64 s.cfg.h,.int .i64 s.cfg.q,.int .i64 s.cfg.w,.int .i64 s.cfg.u,.slice qa s.attrs.length ca,.slice qo us.length co] 29)).heap.size=w.heap.size + 1 by simp] at h
  exact h
 have hC:=neqCfg s.cfg p.cfg
 have BX:=hide bX
 have HU:=hide (h.below bX)
 have HV:=hide (h'.below bX)
 have HXC:=hide (show ∀ W,Below X.heap.size X W->W.cell? ⟨w.heap.size,8,none⟩=some (.slice qa s.attrs.length ca)/\W.cell? ⟨w.heap.size,9,none⟩=some (.slice qo us.length co)/\W.cell? ⟨w.heap.size + 1,8,none⟩=some (.slice qa' p.attrs.length ca')/\W.cell? ⟨w.heap.size + 1,9,none⟩=some (.slice qo' vs.length co') from fun W hb=>by
  obtain ⟨_,_,_,_,_,_,_,_,a,a',_⟩:=of10z (blk_onS hx hb)
  obtain ⟨_,_,_,_,_,_,_,_,b,b',_⟩:=of10z (blk_onS hy hb)
  exact ⟨a,a',b,b'⟩)
 have UO:=hide (show us.length=s.ops.length from h.len)
 have VO:=hide (show vs.length=p.ops.length from h'.len)
 have HZ:=hide hZ
 obtain ⟨x0,x1,x2,x3,x4,x5,x6,x7,x8,x9,xf⟩:=of10z hx
 obtain ⟨y0,y1,y2,y3,y4,y5,y6,y7,y8,y9,yf⟩:=of10z hy
 by_cases h1:s.cfg=p.cfg
 rotate_left
 ·rw [decide_eq_false h1,Bool.not_false] at hC
  obtain rfl:false=R:=by rw [<- hR];unfold sameB;rw [decide_eq_false h1];rfl
  clear hx hy bX h h' hR HU HV HXC h1 hZ HZ xf yf ha hl UO VO
  go_enter Tryz.func17,Tryz.ntmps17
  go_wp2
  go_ret
  exact ⟨rfl,uh BX⟩
 rw [decide_eq_true h1,Bool.not_true] at hC
 by_cases h2:s.attrs.length=p.attrs.length
 rotate_left
 ·have e2:((s.attrs.length:Int) != (p.attrs.length:Int))=true:=by simp;omega
  obtain rfl:false=R:=by rw [<- hR];unfold sameB;rw [decide_eq_true h1,decide_eq_false (fun e=>h2 (by rw [e]))];rfl
  clear hx hy bX h h' hR HU HV HXC h1 h2 hZ HZ xf yf ha hl UO VO
  go_enter Tryz.func17,Tryz.ntmps17
  go_wp2
  go_ret
  exact ⟨rfl,uh BX⟩
 have e2:((s.attrs.length:Int) != (p.attrs.length:Int))=false:=by rw [h2];simp
 by_cases h3:us.length=vs.length
 rotate_left
 ·have e3:((us.length:Int) != (vs.length:Int))=true:=by simp;omega
  obtain rfl:false=R:=by rw [<- hR];unfold sameB;rw [decide_eq_false (fun e:s.ops=p.ops=>h3 (by rw [h.len,h'.len,e])),Bool.and_false,Bool.and_false]
  clear hx hy bX h h' hR HU HV HXC h1 h2 h3 hZ HZ xf yf ha hl UO VO
  go_enter Tryz.func17,Tryz.ntmps17
  go_wp2
  go_ret
  exact ⟨rfl,uh BX⟩
 have e3:((us.length:Int) != (vs.length:Int))=false:=by rw [h3];simp
 have HR:=hide (show s.attrs=p.attrs->R=decide (s.ops=p.ops) from fun h=>by rw [<- hR];unfold sameB;rw [decide_eq_true h1,decide_eq_true h];simp)
 have HRN:=hide (show s.attrs ≠ p.attrs->R=false from fun h=>by rw [<- hR];unfold sameB;rw [decide_eq_true h1,decide_eq_false h];rfl)
 have H2:=hide h2
 have H3:=hide h3
 have a0:(s.attrs.length:Int)<=140737488355328:=by omega
 have a1:(us.length:Int)<=140737488355328:=by omega
 clear hx hy bX h h' hR h1 h2 h3 hZ xf yf
 go_enter Tryz.func17,Tryz.ntmps17
 go_wp2
 go_loopw [5] (fun i wr=>∃ k:Nat,k<=s.attrs.length/\i=.int .i64 (k:Int)/\Hid (s.attrs.take k=p.attrs.take k)/\Hid (Below X.heap.size X wr)) (fun i _=>s.attrs.length - (intOf i).toNat)
 case atStart=>exact ⟨0,Nat.zero_le _,rfl,hide rfl,hide (Below.refl _ _)⟩
 case round =>
  clear x0 x1 x2 x3 x4 x5 x6 x7 x8 x9 y0 y1 y2 y3 y4 y5 y6 y7 y8 y9
  obtain ⟨k,hk,rfl,HT,HB⟩:=hrel
  obtain ⟨x8,x9,y8,y9⟩:=uh HXC _ (uh HB)
  by_cases hlt:k < s.attrs.length
  ·obtain ⟨a,haa,_⟩:=get_at hlt
   obtain ⟨b,hb,_⟩:=get_at (show k < p.attrs.length by have:=uh H2;omega)
   obtain ⟨B1,o1,hq,hb1,c0,c1⟩:=attrsAt ((uh HU).at'.below (uh HB)) haa
   obtain ⟨B2,o2,hq',hb2,d0,d1⟩:=attrsAt ((uh HV).at'.below (uh HB)) hb
   rw [hq] at x8
   rw [hq'] at y8
   have p0:=cell_regrown c0
   have s0:=cell_regrown d0
   have p1:=cell_regrown c1
   have s1:=cell_regrown d1
   have x8r:=cell_regrown x8
   have y8r:=cell_regrown y8
   have hne:=neqA a b
   have ki0:(0:Int)<=(k:Int):=by omega
   have ki1:(k:Int) < (s.attrs.length:Int):=by omega
   have ki2:(k:Int) < (p.attrs.length:Int):=by have:=uh H2;omega
   by_cases hxy:a=b
   ·have HT2:=hide (show s.attrs.take (k + 1)=p.attrs.take (k + 1) from pre_snoc (uh HT) haa (by rw [hb,hxy]))
    rw [decide_eq_true hxy] at hne
    clear haa hb hxy
    go_wp2
    refine wp_region_quiet_below (by assumption) (by kernel_rfl) ?_
    repeat (go_big_quiet_step (fail))
    refine wpQuiet_nil ?_
    intro _ hw'
    obtain ⟨⟨dq,osq⟩,hw''⟩:=hw'
    subst hw''
    go_wp2
    go_roundw
    case rel=>exact ⟨k + 1,by omega,by go_num,HT2,hide ((uh HB).trans ((below_regrown _ _ _).mono (uh HB).size))⟩
    case measure=>simp [intOf];omega
   ·have HN:=hide (show R=false from uh HRN (pre_ne haa hb hxy))
    rw [decide_eq_false hxy] at hne
    clear haa hb hxy
    go_wp2
    refine wp_region_quiet_below (by assumption) (by kernel_rfl) ?_
    repeat (go_big_quiet_step (fail))
    refine wpQuiet_nil ?_
    intro _ hw'
    obtain ⟨⟨dq,osq⟩,hw''⟩:=hw'
    subst hw''
    go_wp2
    go_ret
    exact ⟨ret_bool (uh HN).symm,below_sub (uh BX) ((uh HB).trans ((below_regrown _ _ _).mono (uh HB).size))⟩
  ·have ki1:¬ (k:Int) < (s.attrs.length:Int):=by omega
   have hat:s.attrs=p.attrs:=by
    have h1:=uh HT
    rw [List.take_of_length_le (by omega),List.take_of_length_le (by have:=uh H2;omega)] at h1
    exact h1
   have HR2:=hide (uh HR hat)
   have HB0:=HB
   clear hat HT HR HRN
   go_wp2
   go_loopw [6] (fun i wr=>∃ k:Nat,k<=us.length/\i=.int .i64 (k:Int)/\Hid (s.ops.take k=p.ops.take k)/\Hid (Below X.heap.size X wr)) (fun i _=>us.length - (intOf i).toNat)
   case atStart=>exact ⟨0,Nat.zero_le _,rfl,hide rfl,HB0⟩
   case round =>
    clear x8 x9 y8 y9 ki1
    obtain ⟨k,hk,rfl,HT,HB⟩:=hrel
    obtain ⟨x8,x9,y8,y9⟩:=uh HXC _ (uh HB)
    by_cases hlt:k < us.length
    ·obtain ⟨u,hu,_⟩:=get_at hlt
     obtain ⟨v,hv,_⟩:=get_at (show k < vs.length by have:=uh H3;omega)
     obtain ⟨o,ho,hom⟩:=get_at (show k < s.ops.length by have:=uh UO;omega)
     obtain ⟨p',hp',_⟩:=get_at (show k < p.ops.length by have:=uh VO;have:=uh H3;omega)
     have hoi:=((uh HU).below (uh HB)).ops k u o hu ho
     have hpi:=((uh HV).below (uh HB)).ops k v p' hv hp'
     have f22:=fun V (hV:Below _ _ V)=>refSameOp_any (hoi.below hV) (hpi.below hV) (uh HZ o (List.mem_of_getElem? ho)).1 (uh HZ o (List.mem_of_getElem? ho)).2
     unfold Ou.val at f22
     obtain ⟨B1,o1,hq,hb1,c0,c1,c2,c3,c4,c5,c6⟩:=opsAt ((uh HU).below (uh HB)).op hu
     obtain ⟨B2,o2,hq',hb2,d0,d1,d2,d3,d4,d5,d6⟩:=opsAt ((uh HV).below (uh HB)).op hv
     rw [hq] at x9
     rw [hq'] at y9
     have p0:=cell_regrown c0
     have s0:=cell_regrown d0
     have p1:=cell_regrown c1
     have s1:=cell_regrown d1
     have p2:=cell_regrown c2
     have s2:=cell_regrown d2
     have p3:=cell_regrown c3
     have s3:=cell_regrown d3
     have p4:=cell_regrown c4
     have s4:=cell_regrown d4
     have p5:=cell_regrown c5
     have s5:=cell_regrown d5
     have p6:=cell_regrown c6
     have s6:=cell_regrown d6
     have x9r:=cell_regrown x9
     have y9r:=cell_regrown y9
     have en22:=Tryz.enters22
     have ki0:(0:Int)<=(k:Int):=by omega
     have ki1:(k:Int) < (us.length:Int):=by omega
     have ki2:(k:Int) < (vs.length:Int):=by have:=uh H3;omega
     by_cases hxy:o=p'
     ·have HT2:=hide (show s.ops.take (k + 1)=p.ops.take (k + 1) from pre_snoc (uh HT) ho (by rw [hp',hxy]))
      rw [decide_eq_true hxy] at f22
      clear hu hv ho hp' hom hoi hpi hxy
      go_wp2
      refine wp_region_quiet_below (by assumption) (by kernel_rfl) ?_
      repeat (go_big_quiet_step ((go_at_fn 22;refine Calls.regrown_of (f22 _ (below_regrown _ _ _)))))
      refine wpQuiet_nil ?_
      intro _ hw'
      obtain ⟨⟨dq,osq⟩,hw''⟩:=hw'
      subst hw''
      go_wp2
      go_roundw
      case rel=>exact ⟨k + 1,by omega,by go_num,HT2,hide ((uh HB).trans ((below_regrown _ _ _).mono (uh HB).size))⟩
      case measure=>simp [intOf];omega
     ·have HN:=hide (show R=false by rw [uh HR2];exact decide_eq_false (pre_ne ho hp' hxy))
      rw [decide_eq_false hxy] at f22
      clear hu hv ho hp' hom hoi hpi hxy
      go_wp2
      refine wp_region_quiet_below (by assumption) (by kernel_rfl) ?_
      repeat (go_big_quiet_step ((go_at_fn 22;refine Calls.regrown_of (f22 _ (below_regrown _ _ _)))))
      refine wpQuiet_nil ?_
      intro _ hw'
      obtain ⟨⟨dq,osq⟩,hw''⟩:=hw'
      subst hw''
      go_wp2
      go_ret
      exact ⟨ret_bool (uh HN).symm,below_sub (uh BX) ((uh HB).trans ((below_regrown _ _ _).mono (uh HB).size))⟩
    ·have ki1:¬ (k:Int) < (us.length:Int):=by omega
     have HN:=hide (show R=true by
      rw [uh HR2]
      refine decide_eq_true ?_
      have h1:=uh HT
      rw [List.take_of_length_le (by have:=uh UO;omega),List.take_of_length_le (by have:=uh VO;have:=uh H3;omega)] at h1
      exact h1)
     go_wp2
     go_ret
     exact ⟨ret_bool (uh HN).symm,below_sub (uh BX) (uh HB)⟩
end Go.Proofs.YtdgoibnndfibnaaGreatDoor
