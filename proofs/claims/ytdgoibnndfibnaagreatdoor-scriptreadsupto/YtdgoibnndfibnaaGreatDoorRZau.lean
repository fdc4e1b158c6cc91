/- The document's SameOp. -/
import Derived.Test.YtdgoibnndfibnaaGreatDoorRS28
import Derived.Shelf.Strings.OnBuilder
namespace Go.Proofs.YtdgoibnndfibnaaGreatDoor
open Go.RowKit Go.Sort
set_option maxRecDepth 100000 in
theorem neqC (u v:Ou) (w:World):(binOp .neq 36 (.agg #[.int .i64 u.ck,.int .i64 u.id,.string u.text]) (.agg #[.int .i64 v.ck,.int .i64 v.id,.string v.text])).run Tryz.prog w=.ok (.bool (!decide (u.ck=v.ck/\u.id=v.id/\u.text=v.text))) w:=by
 obtain ⟨R,hR⟩:∃ R,decide (u.ck=v.ck/\u.id=v.id/\u.text=v.text)=R:=⟨_,rfl⟩
 rw [hR]
 have u3:=Tryz.underlying3
 have a3:=Tryz.isAgg3
 have z3:=Tryz.sizeOf3
 have u9:=Tryz.underlying9
 have a9:=Tryz.isAgg9
 have z9:=Tryz.sizeOf9
 have hS:Tryz.prog.underlying 36=some (.struct (Tryz.prog.fieldsOf 36)):=by kernel_rfl
 have hp:Tryz.prog.stoodInHeld 36=false:=by kernel_rfl
 rw [run_neq_struct,show (10000:Nat)=9999 + 1 from rfl,run_equalIn_agg w 9999 36 _ _ hS hp]
 simp only [Program.fieldsOf,Tryz.underlying36]
 go_simp
 have hd:(u.ck=v.ck/\u.id=v.id/\u.text=v.text) ↔ (u.ck=v.ck/\u.id=v.id/\u.text.toList=v.text.toList):=⟨fun ⟨h1,h2,h3⟩=>⟨h1,h2,by rw [h3]⟩,fun ⟨h1,h2,h3⟩=>⟨h1,h2,ba_ext h3⟩⟩
 rw [<- hR,show decide (u.ck=v.ck/\u.id=v.id/\u.text=v.text)=decide (u.ck=v.ck/\u.id=v.id/\u.text.toList=v.text.toList) from decide_eq_decide.2 hd]
 by_cases h1:u.ck=v.ck <;> by_cases h2:u.id=v.id <;> by_cases h3:u.text.toList=v.text.toList <;> simp [h1,h2,h3]
theorem sop_ext {o p:Sop} (h1:o.kind=p.kind) (h2:o.who=p.who) (h3:o.ck=p.ck/\o.id=p.id/\o.text=p.text) (h4:o.nums=p.nums) (h5:o.ev=p.ev):o=p:=by
 obtain ⟨a,b,c,d,e,f,g⟩:=o
 obtain ⟨a',b',c',d',e',f',g'⟩:=p
 simp only at h1 h2 h3 h4 h5
 obtain ⟨h6,h7,h8⟩:=h3
 subst h1 h2 h4 h5 h6 h7 h8
 rfl
set_option maxHeartbeats 8000000 in
set_option maxRecDepth 100000 in
theorem refSameOp_any {w:World} {u v:Ou} {o p:Sop} (hu:OpIn w u o) (hv:OpIn w v p) (hz:o.ev.length<=140737488355328) (hz2:o.nums.length<=140737488355328) :
  Calls Tryz.prog 22 #[u.val,v.val] w fun e w'=>e=.returned (.bool (decide (o=p)))/\Below w.heap.size w w':=by
 have mixed:Tryz.prog.follows .mixedOrders=true:=by kernel_rfl
 obtain ⟨R,hR⟩:∃ R,decide (o=p)=R:=⟨_,rfl⟩
 rw [hR]
 obtain ⟨X,HX,bX,hx,hy⟩:=two7 w u v
 obtain ⟨x0,x1,x2,x3,x4,x5,x6⟩:=of7s hx
 obtain ⟨y0,y1,y2,y3,y4,y5,y6⟩:=of7s hy
 have BX:=hide bX
 have hC:=neqC u v
 have HU:=hide (show OpIn X u o from hu.below bX)
 have HV:=hide (show OpIn X v p from hv.below bX)
 have HXC:=hide (show ∀ W,Below X.heap.size X W->W.cell? ⟨w.heap.size,5,none⟩=some (.slice u.qe u.ne u.ce)/\W.cell? ⟨w.heap.size,6,none⟩=some (.slice u.qn u.nn u.cn)/\W.cell? ⟨w.heap.size + 1,5,none⟩=some (.slice v.qe v.ne v.ce)/\W.cell? ⟨w.heap.size + 1,6,none⟩=some (.slice v.qn v.nn v.cn) from fun W hb=>by
  obtain ⟨_,_,_,_,_,a,a'⟩:=of7s (blk_onS hx hb)
  obtain ⟨_,_,_,_,_,b,b'⟩:=of7s (blk_onS hy hb)
  exact ⟨a,a',b,b'⟩)
 by_cases h1:o.kind=p.kind
 rotate_left
 ·have e1:(u.kind != v.kind)=true:=by rw [hu.kind,hv.kind];simpa using h1
  obtain rfl:false=R:=by rw [<- hR];symm;exact decide_eq_false (fun e=>h1 (by rw [e]))
  clear hx hy bX hu hv hR hC HU HV HXC h1 hz hz2
  unfold Ou.val
  go_enter Tryz.func22,Tryz.ntmps22
  go_wp2
  go_ret
  exact ⟨rfl,uh BX⟩
 have e1:(u.kind != v.kind)=false:=by rw [hu.kind,hv.kind];simpa using h1
 by_cases h2:o.who=p.who
 rotate_left
 ·have e2:(u.who != v.who)=true:=by rw [hu.who,hv.who];simpa using h2
  obtain rfl:false=R:=by rw [<- hR];symm;exact decide_eq_false (fun e=>h2 (by rw [e]))
  clear hx hy bX hu hv hR hC HU HV HXC h1 h2 hz hz2
  unfold Ou.val
  go_enter Tryz.func22,Tryz.ntmps22
  go_wp2
  go_ret
  exact ⟨rfl,uh BX⟩
 have e2:(u.who != v.who)=false:=by rw [hu.who,hv.who];simpa using h2
 by_cases h3:u.ck=v.ck/\u.id=v.id/\u.text=v.text
 rotate_left
 ·rw [decide_eq_false h3,Bool.not_false] at hC
  obtain rfl:false=R:=by rw [<- hR];symm;exact decide_eq_false (fun e=>h3 ⟨by rw [hu.ck,hv.ck,e],by rw [hu.id,hv.id,e],by rw [hu.text,hv.text,e]⟩)
  clear hx hy bX hu hv hR HU HV HXC h1 h2 h3 hz hz2
  unfold Ou.val
  go_enter Tryz.func22,Tryz.ntmps22
  go_wp2
  go_ret
  exact ⟨rfl,uh BX⟩
 rw [decide_eq_true h3,Bool.not_true] at hC
 have h3':o.ck=p.ck/\o.id=p.id/\o.text=p.text:=by rw [hu.ck,hu.id,hu.text,hv.ck,hv.id,hv.text] at h3;exact h3
 by_cases h4:o.nums.length=p.nums.length
 rotate_left
 ·have e4:((u.nn:Int) != (v.nn:Int))=true:=by rw [hu.nn,hv.nn];simp;omega
  obtain rfl:false=R:=by rw [<- hR];symm;exact decide_eq_false (fun e=>h4 (by rw [e]))
  clear hx hy bX hu hv hR HU HV HXC h1 h2 h3 h3' h4 hz hz2
  unfold Ou.val
  go_enter Tryz.func22,Tryz.ntmps22
  go_wp2
  go_ret
  exact ⟨rfl,uh BX⟩
 have e4:((u.nn:Int) != (v.nn:Int))=false:=by rw [hu.nn,hv.nn,h4];simp
 by_cases h5:o.ev.length=p.ev.length
 rotate_left
 ·have e5:((u.ne:Int) != (v.ne:Int))=true:=by rw [hu.ne,hv.ne];simp;omega
  obtain rfl:false=R:=by rw [<- hR];symm;exact decide_eq_false (fun e=>h5 (by rw [e]))
  clear hx hy bX hu hv hR HU HV HXC h1 h2 h3 h3' h4 h5 hz hz2
  unfold Ou.val
  go_enter Tryz.func22,Tryz.ntmps22
  go_wp2
  go_ret
  exact ⟨rfl,uh BX⟩
 have e5:((u.ne:Int) != (v.ne:Int))=false:=by rw [hu.ne,hv.ne,h5];simp
 have HR:=hide (show o.nums=p.nums->R=decide (o.ev=p.ev) from fun h=>by
  rw [<- hR]
  exact decide_eq_decide.2 ⟨fun e=>by rw [e],fun e=>sop_ext h1 h2 h3' h e⟩)
 have HRN:=hide (show o.nums ≠ p.nums->R=false from fun h=>by rw [<- hR];exact decide_eq_false (fun e=>h (by rw [e])))
 have UN:=hide (show u.nn=o.nums.length from hu.nn)
 have VN:=hide (show v.nn=o.nums.length by rw [hv.nn,h4])
 have UE:=hide (show u.ne=o.ev.length from hu.ne)
 have VE:=hide (show v.ne=o.ev.length by rw [hv.ne,h5])
 have H4:=hide h4
 have H5:=hide h5
 clear hx hy bX hu hv hR h1 h2 h3 h3' h4 h5
 unfold Ou.val
 go_enter Tryz.func22,Tryz.ntmps22
 go_wp2
 go_loopw [5] (fun i wr=>∃ k:Nat,k<=o.nums.length/\i=.int .i64 (k:Int)/\Hid (o.nums.take k=p.nums.take k)/\Hid (Below X.heap.size X wr)) (fun i _=>o.nums.length - (intOf i).toNat)
 case atStart=>exact ⟨0,Nat.zero_le _,rfl,hide rfl,hide (Below.refl _ _)⟩
 case round =>
  clear x0 x1 x2 x3 x4 x5 x6 y0 y1 y2 y3 y4 y5 y6
  obtain ⟨k,hk,rfl,HT,HB⟩:=hrel
  obtain ⟨x5,x6,y5,y6⟩:=uh HXC _ (uh HB)
  by_cases hlt:k < o.nums.length
  ·obtain ⟨a,ha,_⟩:=get_at hlt
   obtain ⟨b,hb,_⟩:=get_at (show k < p.nums.length by have:=uh H4;omega)
   obtain ⟨B1,o1,hq,hb1,c0⟩:=intsAt ((uh HU).nums.below (uh HB)) ha
   obtain ⟨B2,o2,hq',hb2,d0⟩:=intsAt ((uh HV).nums.below (uh HB)) hb
   rw [hq] at x6
   rw [hq'] at y6
   have p0:=cell_regrown c0
   have s0:=cell_regrown d0
   have x6r:=cell_regrown x6
   have y6r:=cell_regrown y6
   have ki0:(0:Int)<=(k:Int):=by omega
   have ki1:(k:Int) < (u.nn:Int):=by have:=uh UN;omega
   have ki2:(k:Int) < (v.nn:Int):=by have:=uh VN;omega
   by_cases hxy:a=b
   ·have HT2:=hide (show o.nums.take (k + 1)=p.nums.take (k + 1) from pre_snoc (uh HT) ha (by rw [hb,hxy]))
    have hne:(a != b)=false:=by simp [hxy]
    clear ha hb hxy
    go_wp2
    refine wp_region_quiet_below (by assumption) (by kernel_rfl) ?_
    repeat (go_big_quiet_step (fail))
    refine wpQuiet_nil ?_
    intro _ hw'
    obtain ⟨⟨dq,osq⟩,hw''⟩:=hw'
    subst hw''
    go_wp2
    go_roundw
    case rel=>exact ⟨k + 1,by omega,by go_num,HT2,hide ((uh HB).trans ((below_regrown _ _ _).mono (uh HB).size))⟩
    case measure=>simp [intOf];omega
   ·have HN:=hide (show R=false from uh HRN (pre_ne ha hb hxy))
    have hne:(a != b)=true:=by simpa using hxy
    clear ha hb hxy
    go_wp2
    refine wp_region_quiet_below (by assumption) (by kernel_rfl) ?_
    repeat (go_big_quiet_step (fail))
    refine wpQuiet_nil ?_
    intro _ hw'
    obtain ⟨⟨dq,osq⟩,hw''⟩:=hw'
    subst hw''
    go_wp2
    go_ret
    exact ⟨ret_bool (uh HN).symm,below_sub (uh BX) ((uh HB).trans ((below_regrown _ _ _).mono (uh HB).size))⟩
  ·have ki1:¬ (k:Int) < (u.nn:Int):=by have:=uh UN;omega
   have hnums:o.nums=p.nums:=by
    have h1:=uh HT
    rw [List.take_of_length_le (by omega),List.take_of_length_le (by have:=uh H4;omega)] at h1
    exact h1
   have HR2:=hide (uh HR hnums)
   have HU2:=hide ((uh HU).ev.below (uh HB))
   have HV2:=hide ((uh HV).ev.below (uh HB))
   have HB0:=HB
   clear hnums HT HR HRN
   go_wp2
   go_loopw [6] (fun i wr=>∃ k:Nat,k<=o.ev.length/\i=.int .i64 (k:Int)/\Hid (o.ev.take k=p.ev.take k)/\Hid (Below X.heap.size X wr)) (fun i _=>o.ev.length - (intOf i).toNat)
   case atStart=>exact ⟨0,Nat.zero_le _,rfl,hide rfl,HB0⟩
   case round =>
    clear x5 x6 y5 y6 ki1
    obtain ⟨k,hk,rfl,HT,HB⟩:=hrel
    obtain ⟨x5,x6,y5,y6⟩:=uh HXC _ (uh HB)
    by_cases hlt:k < o.ev.length
    ·obtain ⟨a,ha,_⟩:=get_at hlt
     obtain ⟨b,hb,_⟩:=get_at (show k < p.ev.length by have:=uh H5;omega)
     obtain ⟨B1,o1,hq,hb1,c0,c1,c2,c3⟩:=pairsAt ((uh HU).ev.below (uh HB)) ha
     obtain ⟨B2,o2,hq',hb2,d0,d1,d2,d3⟩:=pairsAt ((uh HV).ev.below (uh HB)) hb
     rw [hq] at x5
     rw [hq'] at y5
     have p0:=cell_regrown c0
     have s0:=cell_regrown d0
     have p1:=cell_regrown c1
     have s1:=cell_regrown d1
     have p2:=cell_regrown c2
     have s2:=cell_regrown d2
     have p3:=cell_regrown c3
     have s3:=cell_regrown d3
     have x5r:=cell_regrown x5
     have y5r:=cell_regrown y5
     have hne:=neqQ a b
     have ki0:(0:Int)<=(k:Int):=by omega
     have ki1:(k:Int) < (u.ne:Int):=by have:=uh UE;omega
     have ki2:(k:Int) < (v.ne:Int):=by have:=uh VE;omega
     by_cases hxy:a=b
     ·have HT2:=hide (show o.ev.take (k + 1)=p.ev.take (k + 1) from pre_snoc (uh HT) ha (by rw [hb,hxy]))
      rw [decide_eq_true hxy] at hne
      clear ha hb hxy
      go_wp2
      refine wp_region_quiet_below (by assumption) (by kernel_rfl) ?_
      repeat (go_big_quiet_step (fail))
      refine wpQuiet_nil ?_
      intro _ hw'
      obtain ⟨⟨dq,osq⟩,hw''⟩:=hw'
      subst hw''
      go_wp2
      go_roundw
      case rel=>exact ⟨k + 1,by omega,by go_num,HT2,hide ((uh HB).trans ((below_regrown _ _ _).mono (uh HB).size))⟩
      case measure=>simp [intOf];omega
     ·have HN:=hide (show R=false by rw [uh HR2];exact decide_eq_false (pre_ne ha hb hxy))
      rw [decide_eq_false hxy] at hne
      clear ha hb hxy
      go_wp2
      refine wp_region_quiet_below (by assumption) (by kernel_rfl) ?_
      repeat (go_big_quiet_step (fail))
      refine wpQuiet_nil ?_
      intro _ hw'
      obtain ⟨⟨dq,osq⟩,hw''⟩:=hw'
      subst hw''
      go_wp2
      go_ret
      exact ⟨ret_bool (uh HN).symm,below_sub (uh BX) ((uh HB).trans ((below_regrown _ _ _).mono (uh HB).size))⟩
    ·have ki1:¬ (k:Int) < (u.ne:Int):=by have:=uh UE;omega
     have HN:=hide (show R=true by
      rw [uh HR2]
      refine decide_eq_true ?_
      have h1:=uh HT
      rw [List.take_of_length_le (by omega),List.take_of_length_le (by have:=uh H5;omega)] at h1
      exact h1)
     go_wp2
     go_ret
     exact ⟨ret_bool (uh HN).symm,below_sub (uh BX) (uh HB)⟩
end Go.Proofs.YtdgoibnndfibnaaGreatDoor
namespace Go.Proofs
open Go.Shelf
def Tryz.lays156_ren:Go.Shelf.Ren:=⟨fun | 156=>28 | 165=>57 | 166=>58 | 169=>59 | 240=>85 | 241=>86 | 276=>113 | 277=>114 | n=>n,fun | 0=>0 | 3=>3 | 4=>4 | 9=>9 | 20=>20 | 31=>60 | 37=>67 | 70=>98 | 72=>100 | 75=>103 | 76=>104 | 80=>106 | 127=>127 | 164=>147 | 5=>5 | n=>n,fun | n=>n⟩
theorem Tryz.lays156:Go.Proofs.Lays.n156 Tryz.prog Tryz.lays156_ren:={
 mixed:=by kernel_rfl
 f156:=Tryz.func28.trans (congrArg some (by kernel_rfl))
 f165:=Tryz.func57.trans (congrArg some (by kernel_rfl))
 f166:=Tryz.func58.trans (congrArg some (by kernel_rfl))
 f169:=Tryz.func59.trans (congrArg some (by kernel_rfl))
 f240:=Tryz.func85.trans (congrArg some (by kernel_rfl))
 f241:=Tryz.func86.trans (congrArg some (by kernel_rfl))
 f276:=Tryz.func113.trans (congrArg some (by kernel_rfl))
 f277:=Tryz.func114.trans (congrArg some (by kernel_rfl))
 t0:=Tryz.underlying0
 a0:=Tryz.isAgg0
 z0:=Tryz.sizeOf0
 v0:=Tryz.zeroValue0
 t3:=Tryz.underlying3
 a3:=Tryz.isAgg3
 z3:=Tryz.sizeOf3
 v3:=Tryz.zeroValue3
 t4:=Tryz.underlying4
 a4:=Tryz.isAgg4
 z4:=Tryz.sizeOf4
 v4:=Tryz.zeroValue4
 t9:=Tryz.underlying9
 a9:=Tryz.isAgg9
 z9:=Tryz.sizeOf9
 v9:=Tryz.zeroValue9
 t20:=Tryz.underlying20
 a20:=Tryz.isAgg20
 z20:=Tryz.sizeOf20
 v20:=Tryz.zeroValue20
 t31:=Tryz.underlying60
 a31:=Tryz.isAgg60
 z31:=Tryz.sizeOf60
 v31:=Tryz.zeroValue60
 t37:=Tryz.underlying67
 a37:=Tryz.isAgg67
 z37:=Tryz.sizeOf67
 v37:=Tryz.zeroValue67
 t70:=Tryz.underlying98
 a70:=Tryz.isAgg98
 z70:=Tryz.sizeOf98
 v70:=Tryz.zeroValue98
 t72:=Tryz.underlying100
 a72:=Tryz.isAgg100
 z72:=Tryz.sizeOf100
 v72:=Tryz.zeroValue100
 t75:=Tryz.underlying103
 a75:=Tryz.isAgg103
 z75:=Tryz.sizeOf103
 v75:=Tryz.zeroValue103
 t76:=Tryz.underlying104
 a76:=Tryz.isAgg104
 z76:=Tryz.sizeOf104
 v76:=Tryz.zeroValue104
 t127:=Tryz.underlying127
 a127:=Tryz.isAgg127
 z127:=Tryz.sizeOf127
 v127:=Tryz.zeroValue127
 t164:=Tryz.underlying147
 a164:=Tryz.isAgg147
 z164:=Tryz.sizeOf147
 v164:=Tryz.zeroValue147 }
theorem Tryz.Builder_Extra_156:Builder.Extra Tryz.prog Tryz.lays156_ren:={
 sizeBuilder:=by kernel_rfl
 liesBuilder:=by kernel_rfl
 t5:=Tryz.underlying5
 a5:=Tryz.isAgg5
 z5:=Tryz.sizeOf5
 v5:=Tryz.zeroValue5
 infoByte:=by kernel_rfl
 cellsByte:=by kernel_rfl
 sizeByte:=by kernel_rfl
 neB5:=by decide }
end Go.Proofs
namespace Go.Proofs.YtdgoibnndfibnaaGreatDoor
open Go.RowKit Go.Sort
/-- strings.Join of a list that holds one string at least. -/
theorem join_any (q:Option Addr) (c:Nat) (xs:List ByteArray) (sep:ByteArray) (w:World) (h:SlOf encS 1 w q c xs) (h1:1<=xs.length) (hlen:(Lib.join (xs.map (·.data.toList)) sep.data.toList).length<=140737488355328) (hn:xs.length<=140737488355328) :
  Calls Tryz.prog 28 #[.slice q xs.length c,.string sep] w fun e w'=>e=.returned (.string ⟨(Lib.join (xs.map (·.data.toList)) sep.data.toList).toArray⟩)/\Below w.heap.size w w':=by
 obtain ⟨b,off,hq,hb,hc⟩:=h.2.2.2 (by omega)
 have hcell:∀ (j:Nat) x,xs[j]? = some x->w.cell? ⟨b,off + j,none⟩=some (.string x):=fun j x hj=>by
  have:=hc (j * 1 + 0) _ (flat_at (enc:=encS) (k:=1) hj 0 (by decide))
  simpa [encS] using this
 subst hq
 by_cases h2:2<=xs.length
 ·exact Any.strings_Join_many Tryz.lays156 Tryz.Builder_Extra_156 b off c xs sep w hcell hb h2 hn h.2.1 hlen
 ·match xs,h1,h2 with
  | [x],_,_ =>
   refine (Any.strings_Join_one Tryz.lays156 Tryz.Builder_Extra_156 b off c x sep w (hcell 0 x rfl)).mono ?_
   rintro e w' ⟨rfl,rfl⟩
   exact ⟨by simp [Lib.join],Below.refl _ _⟩
  | x :: y :: r,_,h2=>exact absurd (by simp) h2
end Go.Proofs.YtdgoibnndfibnaaGreatDoor
