/- The document's Text. -/
import Derived.Test.YtdgoibnndfibnaaGreatDoorWZas
import Derived.Test.YtdgoibnndfibnaaGreatDoorWScRefNew
import Derived.Test.YtdgoibnndfibnaaGreatDoorWOpenScr
namespace Go.Proofs.YtdgoibnndfibnaaGreatDoor
open Go.RowKit Go.Sort
theorem RowC.mono {B B':Nat} {w:World} {v:Value} {l:Bs} (h:RowC B w v l) (hb:B'<=B):RowC B' w v l:=by
 obtain ⟨g,cap,lo,hi,cur,h1,h2,h3⟩:=h
 exact ⟨g,cap,lo,hi,cur,h1,Nat.le_trans hb h2,h3⟩
theorem of8z {W:World} {b:Nat} {a0 a1 a2 a3 a4 a5 a6 a7:Value} {T:TypeId} (h:W.heap[b]? = some (.cells #[a0,a1,a2,a3,a4,a5,a6,a7] T (0,0))):W.cell? ⟨b,0,none⟩=some a0/\W.cell? ⟨b,1,none⟩=some a1/\W.cell? ⟨b,2,none⟩=some a2/\W.cell? ⟨b,3,none⟩=some a3/\W.cell? ⟨b,4,none⟩=some a4/\W.cell? ⟨b,5,none⟩=some a5/\W.cell? ⟨b,6,none⟩=some a6/\W.cell? ⟨b,7,none⟩=some a7:=by
 refine ⟨?_, ?_, ?_, ?_, ?_, ?_, ?_, ?_⟩ <;> (unfold World.cell?;simp [h])
set_option maxHeartbeats 4000000 in
set_option maxRecDepth 100000 in
theorem refConfig_any (c:Cfg) (w:World) (hI:∀ n ∈ c.l,I64 n) :
  Calls Tryz.prog 30 #[.agg #[.int .i64 c.d,.int .i64 c.c,.int .i64 c.s,.int .i64 c.t,.int .i64 c.h,.int .i64 c.q,.int .i64 c.w,.int .i64 c.u]] w fun e w'=>e=.returned (.string ⟨(cfgB c).toArray⟩)/\Below w.heap.size w w':=by
 obtain ⟨X,HX⟩:∃ X,w.alloc (.cells #[.int .i64 c.d,.int .i64 c.c,.int .i64 c.s,.int .i64 c.t,.int .i64 c.h,.int .i64 c.q,.int .i64 c.w,.int .i64 c.u] 25)=X:=⟨_,rfl⟩
 have bX:Below w.heap.size w X:=by rw [<- HX];exact (Below.refl _ _).alloc (Nat.le_refl _) _
 have hX:X.heap[w.heap.size]? = some (.cells #[.int .i64 c.d,.int .i64 c.c,.int .i64 c.s,.int .i64 c.t,.int .i64 c.h,.int .i64 c.q,.int .i64 c.w,.int .i64 c.u] 25 (0,0)):=by rw [<- HX];exact box_new _ _
 obtain ⟨Y,HY⟩:∃ Y,X.alloc (.cells #[.int .i64 c.d,.int .i64 c.c,.int .i64 c.s,.int .i64 c.t,.int .i64 c.h,.int .i64 c.q,.int .i64 c.w,.int .i64 c.u] 3)=Y:=⟨_,rfl⟩
 have bY:Below X.heap.size X Y:=by rw [<- HY];exact (Below.refl _ _).alloc (Nat.le_refl _) _
 have hN:=refNums_any (some ⟨X.heap.size,0,none⟩) 8 c.l Y hI (by rw [show c.l.length=8 from rfl];decide) (by rw [<- HY];exact eight_int X c)
 rw [show c.l.length=8 from rfl] at hN
 obtain ⟨M,hM⟩:∃ M:ByteArray,(⟨(numsB c.l).toArray⟩:ByteArray)=M:=⟨_,rfl⟩
 rw [hM] at hN
 have hml:Lb M=numsB c.l:=by rw [<- hM,lb_mk]
 have hms:M.size<=176:=by rw [size_lb hml];have:=numsB_len hI;have h8:c.l.length=8:=rfl;omega
 have n1:¬ 9223372036854775807 < 6 + M.size:=by omega
 have HN:=hide hN
 have HML:=hide hml
 have BY:=hide (below_sub bX bY)
 obtain ⟨x0,x1,x2,x3,x4,x5,x6,x7⟩:=of8z hX
 clear bX hX bY hN hM hml hms hI
 go_enter Tryz.func30,Tryz.ntmps30
 go_wp2_with (go_at_call 37;refine (uh HN).mono ?_;rintro e w2 ⟨rfl,b2⟩;have B2:=hide (below_sub (uh BY) b2);clear b2)
 go_ret
 exact ⟨ret_strL (by simp only [lb_app,uh HML];rfl),uh B2⟩
set_option maxHeartbeats 4000000 in
set_option maxRecDepth 100000 in
theorem refAttr_any (a:ByteArray × Int) (w:World) (h:Sc.atOk a=true) :
  Calls Tryz.prog 31 #[.agg #[.string a.1,.int .i64 a.2]] w fun e w'=>e=.returned (.string ⟨(attrB a).toArray⟩)/\Below w.heap.size w w':=by
 obtain ⟨h1,h2⟩:=atOk_parts h
 have hs:=name_len h1
 have n1:¬ 9223372036854775807 < 5 + a.1.size:=by omega
 have n2:¬ 9223372036854775807 < 5 + a.1.size + 4:=by omega
 have n3:¬ 9223372036854775807 < 5 + a.1.size + 5:=by omega
 have HB:=hide (show attrB a=wAttr ++ 32 :: Lb a.1 ++ 32 :: kindW a.2 from rfl)
 clear h h1 hs
 rcases h2 with h2 | h2
 ·have e1:(a.2 == 1)=true:=by rw [h2];rfl
  have HK:=hide (show kindW a.2=wInt by rw [h2];rfl)
  clear h2
  go_enter Tryz.func31,Tryz.ntmps31
  go_wp2
  go_ret
  exact ⟨ret_strL (by simp only [lb_app,uh HB,uh HK];simp [Lb,wAttr,wInt]),(Below.refl _ _).alloc (Nat.le_refl _) _⟩
 ·have e1:(a.2 == 1)=false:=by rw [h2];rfl
  have HK:=hide (show kindW a.2=wWord by rw [h2];rfl)
  clear h2
  go_enter Tryz.func31,Tryz.ntmps31
  go_wp2
  go_ret
  exact ⟨ret_strL (by simp only [lb_app,uh HB,uh HK];simp [Lb,wAttr,wWord]),(Below.refl _ _).alloc (Nat.le_refl _) _⟩
theorem refNew_any2 (p:Option Addr) (cap:Nat) (l:List (ByteArray × Int)) (w:World) (hl:l.length * 24<=140737488355328) (hA:Sc.AtsOf w p l) (E:Int) (hE:newE l=E) :
  Calls Tryz.prog 29 #[.slice p l.length cap] w fun e w'=>(∃ (q:Option Addr) (n c:Nat),e=.returned (.tuple #[.slice q n c,.int .i64 E]))/\Below w.heap.size w w':=by
 subst hE
 refine (Sc.refNew_any p cap l w hl hA).mono ?_
 rintro e w' ⟨h,hb⟩
 refine ⟨?_,hb⟩
 unfold newE
 rcases h with ⟨h1,rfl⟩ | ⟨h1,h2,rfl⟩ | ⟨h1,h2,h3,q,c,ls,rfl,_⟩
 ·rw [if_neg (fun h=>by have:=h.1;omega),if_pos h1]
  exact ⟨_,_,_,rfl⟩
 ·rw [if_neg (fun h=>h2 h.2),if_neg (by omega)]
  exact ⟨_,_,_,rfl⟩
 ·rw [if_pos ⟨h1,h2,h3⟩]
  exact ⟨_,_,_,rfl⟩
theorem opsW_take:∀ (l:List Sop) (k:Nat),opsW (l.take k)<=opsW l
 | [],k=>by simp [opsW]
 | o :: l,0=>by simp [opsW]
 | o :: l,k + 1=>by have:=opsW_take l k;simp only [List.take_succ_cons,opsW];omega
/-- What is written so far. -/
def outB (s:Scr) (k j:Nat):Bs:=endsB (cfgB s.cfg :: ((s.attrs.take k).map attrB ++ (s.ops.take j).map lineB))
theorem outB_0 (s:Scr):outB s 0 0=cfgB s.cfg ++ [10]:=by simp [outB,endsB]
theorem outB_at {s:Scr} {k:Nat} {a:ByteArray × Int} (h:s.attrs[k]? = some a):outB s (k + 1) 0=outB s k 0 ++ (attrB a ++ [10]):=by
 unfold outB
 rw [List.take_add_one,h]
 simp [endsB]
theorem outB_op {s:Scr} {n j:Nat} {o:Sop} (h:s.ops[j]? = some o):outB s n (j + 1)=outB s n j ++ (lineB o ++ [10]):=by
 unfold outB
 rw [List.take_add_one,h]
 simp [endsB]
theorem outB_all (s:Scr):outB s s.attrs.length s.ops.length=scrB s:=by
 unfold outB scrB scrLs
 rw [List.take_length,List.take_length]
theorem outB_len {s:Scr} (hA:AtsOk s.attrs) (hI:ScrI s) (hW:opsW s.ops<=1048576) (k j:Nat) (hj:j<=4096) (hok:(s.ops.take j).all opOk=true):(outB s k j).length<=400000000:=by
 have h1:=ends_ops (s.ops.take j) hok (fun o ho=>hI.ops o (List.mem_of_mem_take ho))
 have h2:=ends_attrs (s.attrs.take k) (List.all_eq_true.2 fun a ha=>List.all_eq_true.1 hA.2.1 a (List.mem_of_mem_take ha))
 have h3:=numsB_len hI.cfg
 have h4:=hA.1
 have h5:=opsW_take s.ops j
 have h7:(s.attrs.take k).length<=64:=by simp;omega
 have h8:(s.ops.take j).length<=4096:=by simp;omega
 unfold outB
 rw [endsB_cons,endsB_app]
 have h6:(cfgB s.cfg).length<=6 + 8 * 22:=by
  unfold cfgB
  rw [List.length_append]
  have:wConfig.length=6:=rfl
  have:s.cfg.l.length=8:=rfl
  omega
 omega
set_option maxHeartbeats 16000000 in
set_option maxRecDepth 100000 in
theorem refText_scr (w:World) (qa:Option Addr) (ca:Nat) (qo:Option Addr) (co:Nat) (us:List Ou) (s:Scr) (hin:TxIn w qa ca qo co us s) (hI:ScrI s) (hat:s.attrs.length<=1048576) (hW:opsW s.ops<=1048576) :
  Calls Tryz.prog 12 #[.agg #[.int .i64 s.cfg.d,.int .i64 s.cfg.c,.int .i64 s.cfg.s,.int .i64 s.cfg.t,.int .i64 s.cfg.h,.int .i64 s.cfg.q,.int .i64 s.cfg.w,.int .i64 s.cfg.u,.slice qa s.attrs.length ca,.slice qo us.length co]] w fun e w'=>e=.returned (.tuple #[.string (txL s),.int .i64 (txE s)])/\Below w.heap.size w w':=by
 have mixed:Tryz.prog.follows .mixedOrders=true:=by kernel_rfl
 obtain ⟨X,HX⟩:∃ X,w.alloc (.cells #[.int .i64 s.cfg.d,.int .i64 s.cfg.c,.int .i64 s.cfg.s,.int .i64 s.cfg.t,.int .i64 s.cfg.h,.int .i64 s.cfg.q,.int .i64 s.cfg.w,.int .i64 s.cfg.u,.slice qa s.attrs.length ca,.slice qo us.length co] 29)=X:=⟨_,rfl⟩
 have bX:Below w.heap.size w X:=by rw [<- HX];exact (Below.refl _ _).alloc (Nat.le_refl _) _
 have hX:X.heap[w.heap.size]? = some (.cells #[.int .i64 s.cfg.d,.int .i64 s.cfg.c,.int .i64 s.cfg.s,.int .i64 s.cfg.t,.int .i64 s.cfg.h,.int .i64 s.cfg.q,.int .i64 s.cfg.w,.int .i64 s.cfg.u,.slice qa s.attrs.length ca,.slice qo us.length co] 29 (0,0)):=by rw [<- HX];exact box_new _ _
 obtain ⟨E,hE⟩:∃ E,newE s.attrs=E:=⟨_,rfl⟩
 have hN:=refNew_any2 qa ca s.attrs X (by omega) (ats_sl (hin.below bX).at') E hE
 have HN:=hide hN
 have HXB:=hide hX
 have BX:=hide bX
 have UL:=hide hin.len
 have hol:=opsW_len s.ops
 have hul:=hin.len
 obtain ⟨x0,x1,x2,x3,x4,x5,x6,x7,x8,x9,xf⟩:=of10z hX
 clear xf
 by_cases hok:AtsOk s.attrs
 rotate_left
 ·have hno:¬ ScrOk s:=fun h=>hok h.attrs
  have hE0:(E != 0)=true:=by
   rw [<- hE];unfold newE;rw [if_neg hok]
   by_cases h:64 < s.attrs.length
   ·rw [if_pos h];rfl
   ·rw [if_neg h];rfl
  have HR1:=hide (show txL s=⟨#[]⟩ by unfold txL;rw [if_neg hno])
  have HR2:=hide (show txE s=1 by unfold txE;rw [if_neg hno])
  clear hin hI hno hE hN hX bX hok hul hol hat hW
  go_enter Tryz.func12,Tryz.ntmps12
  go_wp2_with (go_at_call 29;refine (uh HN).mono ?_;rintro e w1 ⟨⟨q1,n1,c1,rfl⟩,b1⟩;have B1:=hide b1;clear x0 x1 x2 x3 x4 x5 x6 x7 x8 x9;obtain ⟨x0,x1,x2,x3,x4,x5,x6,x7,x8,x9,xf⟩:=of10z (blk_onS (uh HXB) b1);clear xf b1)
  go_ret2
  exact ⟨by rw [uh HR1,uh HR2];rfl,below_sub (uh BX) (uh B1)⟩
 have hE0:E=0:=by rw [<- hE];unfold newE;rw [if_pos hok]
 subst hE0
 by_cases h4:us.length > 4096
 ·have hno:¬ ScrOk s:=fun h=>by have:=h.len;omega
  have k1:(us.length:Int) > 4096:=by omega
  have k2:decide ((us.length:Int) > 4096)=true:=decide_eq_true k1
  have k3:(4096:Int) < (us.length:Int):=k1
  have HR1:=hide (show txL s=⟨#[]⟩ by unfold txL;rw [if_neg hno])
  have HR2:=hide (show txE s=1 by unfold txE;rw [if_neg hno])
  clear hin hI hno hE hN hX bX hok hul hol hat hW h4
  go_enter Tryz.func12,Tryz.ntmps12
  go_wp2_with (go_at_call 29;refine (uh HN).mono ?_;rintro e w1 ⟨⟨q1,n1,c1,rfl⟩,b1⟩;have B1:=hide b1;clear x0 x1 x2 x3 x4 x5 x6 x7 x8 x9;obtain ⟨x0,x1,x2,x3,x4,x5,x6,x7,x8,x9,xf⟩:=of10z (blk_onS (uh HXB) b1);clear xf b1)
  go_ret2
  exact ⟨by rw [uh HR1,uh HR2];rfl,below_sub (uh BX) (uh B1)⟩
 have k1:¬ (us.length:Int) > 4096:=by omega
 have k2:decide ((us.length:Int) > 4096)=false:=decide_eq_false k1
 have k3:¬ (4096:Int) < (us.length:Int):=k1
 have hC:=fun W=>refConfig_any s.cfg W hI.cfg
 obtain ⟨A,hA⟩:∃ A:ByteArray,(⟨(cfgB s.cfg).toArray⟩:ByteArray)=A:=⟨_,rfl⟩
 rw [hA] at hC
 have hAl:Lb A=cfgB s.cfg:=by rw [<- hA,lb_mk]
 have hAs:A.size<=400000000:=by
  have h1:=outB_len hok hI hW 0 0 (by omega) rfl
  rw [outB_0,List.length_append,<- hAl,lb_len] at h1
  omega
 have n1':¬ 9223372036854775807 < A.size + 1:=by omega
 have HC:=hide hC
 have HAL:=hide hAl
 have HIN:=hide (hin.below bX)
 have HI:=hide hI
 have HW:=hide hW
 have HOK:=hide hok
 have H4:=hide h4
 have a0:(s.attrs.length:Int)<=1048576:=by omega
 have a1:(us.length:Int)<=4096:=by omega
 have hwX:w.heap.size<=X.heap.size:=bX.size
 have HXC:=hide (show ∀ W,Below X.heap.size X W->W.cell? ⟨w.heap.size,8,none⟩=some (.slice qa s.attrs.length ca)/\W.cell? ⟨w.heap.size,9,none⟩=some (.slice qo us.length co) from fun W hb=>by
  obtain ⟨_,_,_,_,_,_,_,_,a,a',_⟩:=of10z (blk_onS hX hb)
  exact ⟨a,a'⟩)
 clear hin hI hE hN hX bX hok hul hol hat hW h4 hC hA hAl
 go_enter Tryz.func12,Tryz.ntmps12
 go_wp2_with (first
  | (go_at_call 30;refine (uh HC _).mono ?_;rintro e w2 ⟨rfl,b2⟩;have B2:=hide (below_sub (uh B1) b2);obtain ⟨v0,w3,hcv,hrow,hbel⟩:=convC w2 (A ++ ⟨#[10]⟩) (by rw [ByteArray.size_append];show A.size + 1<=_;omega);have HROW:=hide (hrow.mono (uh B2).size);have B3:=hide (below_sub (uh B2) hbel);clear hrow hbel b2)
  | (go_at_call 29;refine (uh HN).mono ?_;rintro e w1 ⟨⟨q1,n1,c1,rfl⟩,b1⟩;have B1:=hide b1;clear x0 x1 x2 x3 x4 x5 x6 x7 x8 x9;obtain ⟨x0,x1,x2,x3,x4,x5,x6,x7,x8,x9,xf⟩:=of10z (blk_onS (uh HXB) b1);clear xf b1))
 clear x0 x1 x2 x3 x4 x5 x6 x7 x8 x9
 go_loopw [6,7] (fun v i wr=>∃ k:Nat,k<=s.attrs.length/\i=.int .i64 (k:Int)/\Hid (RowC X.heap.size wr v (outB s k 0))/\Hid (Below X.heap.size X wr)) (fun _ i _=>s.attrs.length - (intOf i).toNat)
 case atStart=>exact ⟨0,Nat.zero_le _,rfl,hide (by have h:=uh HROW;rw [lb_app,uh HAL] at h;rw [outB_0];exact h),B3⟩
 case round =>
  clear HROW B3 B2 B1 HN HC
  obtain ⟨k,hk,rfl,HR,HB⟩:=hrel
  obtain ⟨x8,x9⟩:=uh HXC _ (uh HB)
  by_cases hlt:k < s.attrs.length
  ·obtain ⟨a,ha,_⟩:=get_at hlt
   obtain ⟨bb,off,hq,hbb,c0,c1⟩:=attrsAt ((uh HIN).at'.below (uh HB)) ha
   rw [hq] at x8
   clear hq
   have hao:Sc.atOk a=true:=List.all_eq_true.1 (uh HOK).2.1 a (List.mem_of_getElem? ha)
   have hAt:=fun W=>refAttr_any a W hao
   obtain ⟨D,hD⟩:∃ D:ByteArray,(⟨(attrB a).toArray⟩:ByteArray)=D:=⟨_,rfl⟩
   rw [hD] at hAt
   have hDl:Lb D=attrB a:=by rw [<- hD,lb_mk]
   have hDs:D.size<=42:=by rw [size_lb hDl];exact attrB_len hao
   have hol:=outB_len (uh HOK) (uh HI) (uh HW) k 0 (by omega) rfl
   have n2:¬ 9223372036854775807 < D.size + 1:=by omega
   have ki0:(0:Int)<=(k:Int):=by omega
   have ki1:(k:Int) < (s.attrs.length:Int):=by omega
   have HAT:=hide hAt
   have HOS:=hide (show outB s (k + 1) 0=outB s k 0 ++ Lb (D ++ ⟨#[10]⟩) by rw [outB_at ha,lb_app,hDl];rfl)
   have HOL:=hide hol
   clear ha hao hAt hD hDl hol
   go_wp2_with (first
    | (at_builtin;refine wpList_appC rfl _ _ rfl X.heap.size _ (outB s k 0) (D ++ ⟨#[10]⟩) rfl rfl ((uh HR).below (uh B5)) (by rw [ByteArray.size_append];have:=uh HOL;show _ + (D.size + 1)<=_;omega) (below_tr (uh HB) ((uh B5).mono (uh HB).size)).size ?_;intro v6 w6 r6 b6;have R6:=hide r6;have B6:=hide (below_tr (below_tr (uh HB) ((uh B5).mono (uh HB).size)) b6);clear r6 b6)
    | (go_at_call 31;refine (uh HAT _).mono ?_;rintro e w5 ⟨rfl,b5⟩;have B5:=hide b5;clear b5))
   go_roundw
   case rel=>exact ⟨k + 1,by omega,by go_num,hide (by rw [uh HOS];exact uh R6),B6⟩
   case measure=>simp [intOf];omega
  ·obtain rfl:k=s.attrs.length:=by omega
   have ki1:¬ (s.attrs.length:Int) < (s.attrs.length:Int):=by omega
   go_wp2
   go_loopw [6,8] (fun v i wr=>∃ k:Nat,k<=us.length/\i=.int .i64 (k:Int)/\Hid (RowC X.heap.size wr v (outB s s.attrs.length k))/\Hid ((s.ops.take k).all opOk=true)/\Hid (Below X.heap.size X wr)) (fun _ i _=>us.length - (intOf i).toNat)
   case atStart=>exact ⟨0,Nat.zero_le _,rfl,HR,hide rfl,HB⟩
   case round =>
    clear HR HB x8 x9 ki1
    obtain ⟨k,hk,rfl,HR,HO,HB⟩:=hrel
    obtain ⟨x8,x9⟩:=uh HXC _ (uh HB)
    by_cases hlt:k < us.length
    ·obtain ⟨u,hu,_⟩:=get_at hlt
     obtain ⟨o,ho,_⟩:=get_at (show k < s.ops.length by have:=uh UL;omega)
     have htx:=(uh HIN).below (uh HB)
     have hoi:=htx.ops k u o hu ho
     have hmem:=List.mem_of_getElem? ho
     have hw:=opsW_mem hmem
     have hW:=uh HW
     unfold opW1 at hw
     have hOP:=fun W (hW:Below _ _ W)=>refOp_any (hoi.below hW) ((uh HI).ops o hmem) (by omega) (by omega) (by omega)
     unfold Ou.val at hOP
     obtain ⟨bb,off,hq,hbb,c0,c1,c2,c3,c4,c5,c6⟩:=opsAt htx.op hu
     rw [hq] at x9
     clear hq
     have ki0:(0:Int)<=(k:Int):=by omega
     have ki1:(k:Int) < (us.length:Int):=by omega
     cases hko:opOk o with
     | false =>
      rw [opL_no hko,opE_no hko] at hOP
      have hno:¬ ScrOk s:=fun h=>by have:=List.all_eq_true.1 h.ops o hmem;rw [hko] at this;cases this
      have HR1:=hide (show txL s=⟨#[]⟩ by unfold txL;rw [if_neg hno])
      have HR2:=hide (show txE s=1 by unfold txE;rw [if_neg hno])
      have HOP:=hide hOP
      clear hOP hno hko hw hW hmem hoi htx hu ho
      go_wp2_with (go_at_call 14;refine (uh HOP _ (Below.refl _ _)).mono ?_;rintro e w5 ⟨rfl,b5⟩;have B5:=hide b5;clear b5)
      go_ret2
      exact ⟨by rw [uh HR1,uh HR2];rfl,below_sub (uh BX) (below_tr (uh HB) ((uh B5).mono (uh HB).size))⟩
     | true =>
      have hol:=outB_len (uh HOK) (uh HI) hW s.attrs.length k (by have:=uh H4;omega) (uh HO)
      have hll:=lineB_lenW hko ((uh HI).ops o hmem)
      have hDl:Lb (opL o)=lineB o:=by rw [opL_ok hko,lb_mk]
      rw [opE_ok hko] at hOP
      obtain ⟨D,hD⟩:∃ D,opL o=D:=⟨_,rfl⟩
      rw [hD] at hOP hDl
      have hDs:D.size<=400000000:=by rw [size_lb hDl];omega
      have n2:¬ 9223372036854775807 < D.size + 1:=by omega
      have HOP:=hide hOP
      have HOS:=hide (show outB s s.attrs.length (k + 1)=outB s s.attrs.length k ++ Lb (D ++ ⟨#[10]⟩) by rw [outB_op ho,lb_app,hDl];rfl)
      have HOL:=hide hol
      have HO2:=hide (all_take (uh HO) ho hko)
      clear hOP hko hw hW hmem hoi htx hu ho hol hll hDl hD
      go_wp2_with (first
       | (at_builtin;refine wpList_appC rfl _ _ rfl X.heap.size _ (outB s s.attrs.length k) (D ++ ⟨#[10]⟩) rfl rfl ((uh HR).below (uh B5)) (by rw [ByteArray.size_append];have:=uh HOL;show _ + (D.size + 1)<=_;omega) (below_tr (uh HB) ((uh B5).mono (uh HB).size)).size ?_;intro v6 w6 r6 b6;have R6:=hide r6;have B6:=hide (below_tr (below_tr (uh HB) ((uh B5).mono (uh HB).size)) b6);clear r6 b6)
       | (go_at_call 14;refine (uh HOP _ (Below.refl _ _)).mono ?_;rintro e w5 ⟨rfl,b5⟩;have B5:=hide b5;clear b5))
      go_roundw
      case rel=>exact ⟨k + 1,by omega,by go_num,hide (by rw [uh HOS];exact uh R6),HO2,B6⟩
      case measure=>simp [intOf];omega
    ·obtain rfl:k=us.length:=by omega
     have ki1:¬ (us.length:Int) < (us.length:Int):=by omega
     have hall:s.ops.all opOk=true:=by have h:=uh HO;rwa [uh UL,List.take_length] at h
     have hsok:ScrOk s:=⟨uh HOK,by have:=uh H4;have:=uh UL;omega,hall⟩
     have HR1:=hide (show txL s=⟨(scrB s).toArray⟩ by unfold txL;rw [if_pos hsok])
     have HR2:=hide (show txE s=0 by unfold txE;rw [if_pos hsok])
     have hbk:=backC (uh HR)
     rw [show outB s s.attrs.length us.length=scrB s by rw [uh UL];exact outB_all s] at hbk
     clear hall hsok
     go_wp2
     go_ret2
     exact ⟨by rw [uh HR1,uh HR2];rfl,below_sub (uh BX) (uh HB)⟩
end Go.Proofs.YtdgoibnndfibnaaGreatDoor
