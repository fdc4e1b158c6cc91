/- ScriptWrites: the law. -/
import Derived.Test.YtdgoibnndfibnaaGreatDoorWS50
namespace Go.Proofs.YtdgoibnndfibnaaGreatDoor
open Go.RowKit Go.Sort
theorem Tryz.enters15:∀ args w,(callFunc 15 args).run Tryz.prog w=.ok (.enter 15 args) w:=enters_of Tryz.func15 (by kernel_rfl) rfl
theorem Tryz.enters16:∀ args w,(callFunc 16 args).run Tryz.prog w=.ok (.enter 16 args) w:=enters_of Tryz.func16 (by kernel_rfl) rfl
theorem kept_ints {B:Nat} {w:World} {u u':Ou} {o:Sop} (h:OpCp B w u' o) (hu:OpIn w u o) (hz:o.nums.length<=1000000000) :
  Calls Tryz.prog 15 #[.slice u'.qn u'.nn u'.cn,.slice u.qn u.nn u.cn] w fun e w'=>e=.returned (.bool true)/\Below w.heap.size w w':=by
 obtain ⟨g,hg⟩:=h.qn
 have hn:=h.nums
 rw [hg] at hn
 have hls:=hn.ls
 rw [hg,h.nn,hu.nn]
 exact keptI g u'.cn u.qn u.cn o.nums w (by omega) hls.2.2.2 h.ln hls.2.2.1 hu.nums
theorem kept_pairs {B:Nat} {w:World} {u u':Ou} {o:Sop} (h:OpCp B w u' o) (hu:OpIn w u o) (hz:o.ev.length<=1000000000) :
  Calls Tryz.prog 16 #[.slice u'.qe u'.ne u'.ce,.slice u.qe u.ne u.ce] w fun e w'=>e=.returned (.bool true)/\Below w.heap.size w w':=by
 obtain ⟨g,hg⟩:=h.qe
 have hn:=h.ev
 rw [hg] at hn
 have hls:=hn.ls
 rw [hg,h.ne,hu.ne]
 exact keptP g u'.ce u.qe u.ce o.ev w (by omega) hls.2.2.2 h.le hls.2.2.1 hu.ev
set_option maxHeartbeats 16000000 in
set_option maxRecDepth 100000 in
theorem writes_law {w:World} (qa:Option Addr) (ca:Nat) (qo:Option Addr) (co:Nat) (us:List Ou) (s:Scr) (T:ByteArray) (E:Int) (hin:TxIn w qa ca qo co us s) (hI:ScrI s) (hG:G w) (hop:us.length<=1000000000) (hZ:∀ o ∈ s.ops,o.text.size<=1000000000/\o.ev.length<=1000000000/\o.nums.length<=1000000000)
  (HF:Hid (∀ W:World,Below w.heap.size w W->Calls Tryz.prog 9 #[] W fun e w'=>e=.returned (.bool true)/\Below W.heap.size W w'))
  (HCP:Hid (∀ W:World,Below w.heap.size w W->Calls Tryz.prog 10 #[.agg #[.int .i64 s.cfg.d,.int .i64 s.cfg.c,.int .i64 s.cfg.s,.int .i64 s.cfg.t,.int .i64 s.cfg.h,.int .i64 s.cfg.q,.int .i64 s.cfg.w,.int .i64 s.cfg.u,.slice qa s.attrs.length ca,.slice qo us.length co]] W fun e w'=>(∃ (q3:Option Addr) (c3:Nat) (q4:Option Addr) (c4:Nat) (us':List Ou),e=.returned (.agg #[.int .i64 s.cfg.d,.int .i64 s.cfg.c,.int .i64 s.cfg.s,.int .i64 s.cfg.t,.int .i64 s.cfg.h,.int .i64 s.cfg.q,.int .i64 s.cfg.w,.int .i64 s.cfg.u,.slice q3 s.attrs.length c3,.slice q4 us.length c4])/\us'.length=us.length/\CpR W.heap.size w' q3 c3 q4 c4 us' s)/\Below W.heap.size W w'))
  (HT1:Hid (∀ (W:World) (q3:Option Addr) (c3:Nat) (q4:Option Addr) (c4:Nat) (us':List Ou),us'.length=us.length->Below w.heap.size w W->TxIn W q3 c3 q4 c4 us' s->Calls Tryz.prog 11 #[.agg #[.int .i64 s.cfg.d,.int .i64 s.cfg.c,.int .i64 s.cfg.s,.int .i64 s.cfg.t,.int .i64 s.cfg.h,.int .i64 s.cfg.q,.int .i64 s.cfg.w,.int .i64 s.cfg.u,.slice q3 s.attrs.length c3,.slice q4 us.length c4]] W fun e w'=>e=.returned (.tuple #[.string T,.int .i64 E])/\Below W.heap.size W w'))
  (HT2:Hid (∀ W:World,Below w.heap.size w W->Calls Tryz.prog 12 #[.agg #[.int .i64 s.cfg.d,.int .i64 s.cfg.c,.int .i64 s.cfg.s,.int .i64 s.cfg.t,.int .i64 s.cfg.h,.int .i64 s.cfg.q,.int .i64 s.cfg.w,.int .i64 s.cfg.u,.slice qa s.attrs.length ca,.slice qo us.length co]] W fun e w'=>e=.returned (.tuple #[.string T,.int .i64 E])/\Below W.heap.size W w'))
  (HS:Hid (∀ (W:World) (q3:Option Addr) (c3:Nat) (q4:Option Addr) (c4:Nat) (us':List Ou),us'.length=us.length->Below w.heap.size w W->TxIn W q3 c3 q4 c4 us' s->Calls Tryz.prog 17 #[.agg #[.int .i64 s.cfg.d,.int .i64 s.cfg.c,.int .i64 s.cfg.s,.int .i64 s.cfg.t,.int .i64 s.cfg.h,.int .i64 s.cfg.q,.int .i64 s.cfg.w,.int .i64 s.cfg.u,.slice q3 s.attrs.length c3,.slice q4 us.length c4],.agg #[.int .i64 s.cfg.d,.int .i64 s.cfg.c,.int .i64 s.cfg.s,.int .i64 s.cfg.t,.int .i64 s.cfg.h,.int .i64 s.cfg.q,.int .i64 s.cfg.w,.int .i64 s.cfg.u,.slice qa s.attrs.length ca,.slice qo us.length co]] W fun e w'=>e=.returned (.bool true)/\Below W.heap.size W w')) :
  Calls Tryz.prog 3 #[.agg #[.int .i64 s.cfg.d,.int .i64 s.cfg.c,.int .i64 s.cfg.s,.int .i64 s.cfg.t,.int .i64 s.cfg.h,.int .i64 s.cfg.q,.int .i64 s.cfg.w,.int .i64 s.cfg.u,.slice qa s.attrs.length ca,.slice qo us.length co]] w fun e w'=>e=.returned (.bool true)/\Below w.heap.size w w':=by
 have mixed:Tryz.prog.follows .mixedOrders=true:=by kernel_rfl
 obtain ⟨X,HX⟩:∃ X,w.alloc (.cells #[.int .i64 s.cfg.d,.int .i64 s.cfg.c,.int .i64 s.cfg.s,.int .i64 s.cfg.t,.int .i64 s.cfg.h,.int .i64 s.cfg.q,.int .i64 s.cfg.w,.int .i64 s.cfg.u,.slice qa s.attrs.length ca,.slice qo us.length co] 29)=X:=⟨_,rfl⟩
 have bX:Below w.heap.size w X:=by rw [<- HX];exact (Below.refl _ _).alloc (Nat.le_refl _) _
 have hx:X.heap[w.heap.size]? = some (.cells #[.int .i64 s.cfg.d,.int .i64 s.cfg.c,.int .i64 s.cfg.s,.int .i64 s.cfg.t,.int .i64 s.cfg.h,.int .i64 s.cfg.q,.int .i64 s.cfg.w,.int .i64 s.cfg.u,.slice qa s.attrs.length ca,.slice qo us.length co] 29 (0,0)):=by rw [<- HX];exact box_new _ _
 obtain ⟨x0,x1,x2,x3,x4,x5,x6,x7,x8,x9,xf⟩:=of10z hx
 have HXB:=hide hx
 have BX:=hide bX
 have HIN:=hide (hin.below bX)
 have HG:=hide (G_below hG bX)
 have HI:=hide hI
 have HZ:=hide hZ
 have UL:=hide hin.len
 replace HF:=hide ((uh HF) X bX)
 replace HCP:=hide (fun W (hW:Below X.heap.size X W)=>(uh HCP) W (below_sub bX hW))
 replace HT2:=hide (fun W (hW:Below X.heap.size X W)=>(uh HT2) W (below_sub bX hW))
 replace HT1:=hide (fun W q3 c3 q4 c4 us' hl (hW:Below X.heap.size X W)=>(uh HT1) W q3 c3 q4 c4 us' hl (below_sub bX hW))
 replace HS:=hide (fun W q3 c3 q4 c4 us' hl (hW:Below X.heap.size X W)=>(uh HS) W q3 c3 q4 c4 us' hl (below_sub bX hW))
 have hTT:(T.toList == T.toList)=true:=by simp
 have hEE:(E == E)=true:=by simp
 have a0:(us.length:Int)<=1000000000:=by omega
 clear bX hx hin hG hI hZ
 go_enter Tryz.func3,Tryz.ntmps3
 go_wp2_with (first
  | (go_at_call 12;refine (uh HT2 _ (below_sub (uh B2) (uh B3))).mono ?_;rintro e w4 ⟨rfl,b4⟩;have B4:=hide (below_sub (uh B3) b4);clear x0 x1 x2 x3 x4 x5 x6 x7 x8 x9 xf;obtain ⟨x0,x1,x2,x3,x4,x5,x6,x7,x8,x9,xf⟩:=of10z (blk_onS (uh HXB) (below_sub (uh B2) (uh B4)));clear b4)
  | (go_at_call 11;refine (uh HT1 _ q3 c3 q4 c4 us' (uh HLC) (uh B2) (uh HCR).tx).mono ?_;rintro e w3 ⟨rfl,b3⟩;have B3:=hide b3;clear x0 x1 x2 x3 x4 x5 x6 x7 x8 x9 xf;obtain ⟨x0,x1,x2,x3,x4,x5,x6,x7,x8,x9,xf⟩:=of10z (blk_onS (uh HXB) (below_sub (uh B2) b3));clear b3)
  | (go_at_call 10;refine (uh HCP _ (uh B1)).mono ?_;rintro e w2 ⟨⟨q3,c3,q4,c4,us',rfl,hlc,hcr⟩,b2⟩;obtain ⟨Y,HY⟩:∃ Y,w2.alloc (.cells #[.int .i64 s.cfg.d,.int .i64 s.cfg.c,.int .i64 s.cfg.s,.int .i64 s.cfg.t,.int .i64 s.cfg.h,.int .i64 s.cfg.q,.int .i64 s.cfg.w,.int .i64 s.cfg.u,.slice q3 s.attrs.length c3,.slice q4 us.length c4] 29)=Y:=⟨_,rfl⟩;have bY:Below w2.heap.size w2 Y:=(by rw [<- HY];exact (Below.refl _ _).alloc (Nat.le_refl _) _);have hY:Y.heap[w2.heap.size]? = some (.cells #[.int .i64 s.cfg.d,.int .i64 s.cfg.c,.int .i64 s.cfg.s,.int .i64 s.cfg.t,.int .i64 s.cfg.h,.int .i64 s.cfg.q,.int .i64 s.cfg.w,.int .i64 s.cfg.u,.slice q3 s.attrs.length c3,.slice q4 us.length c4] 29 (0,0)):=(by rw [<- HY];exact box_new _ _);have HMB:=hide hY;have HLC:=hide hlc;have HCR:=hide (hcr.below bY);have B2:=hide (below_sub (uh B1) (below_sub b2 bY));clear x0 x1 x2 x3 x4 x5 x6 x7 x8 x9 xf;obtain ⟨x0,x1,x2,x3,x4,x5,x6,x7,x8,x9,xf⟩:=of10z (blk_onS (uh HXB) (uh B2));obtain ⟨y0,y1,y2,y3,y4,y5,y6,y7,y8,y9,yf⟩:=of10z hY;clear b2 bY hY hlc hcr)
  | (go_at_call 9;refine (uh HF).mono ?_;rintro e w1 ⟨rfl,b1⟩;have B1:=hide b1;clear x0 x1 x2 x3 x4 x5 x6 x7 x8 x9 xf;obtain ⟨x0,x1,x2,x3,x4,x5,x6,x7,x8,x9,xf⟩:=of10z (blk_onS (uh HXB) b1);clear b1))
 clear x0 x1 x2 x3 x4 x5 x6 x7 x8 x9 xf y0 y1 y2 y3 y4 y5 y6 y7 y8 y9 yf
 go_loopw [31] (fun i wr=>∃ k:Nat,k<=us.length/\i=.int .i64 (k:Int)/\Hid (Below Y.heap.size Y wr)) (fun i _=>us.length - (intOf i).toNat)
 case atStart=>exact ⟨0,Nat.zero_le _,rfl,B4⟩
 case round =>
  clear B4 B3
  obtain ⟨k,hk,rfl,HB⟩:=hrel
  have bxr:=below_sub (uh B2) (uh HB)
  by_cases hlt:k < us.length
  ·obtain ⟨u,hu,_⟩:=get_at hlt
   obtain ⟨u',hu',_⟩:=get_at (show k < us'.length by have:=uh HLC;omega)
   obtain ⟨o,ho,_⟩:=get_at (show k < s.ops.length by have:=uh UL;omega)
   have hmem:=List.mem_of_getElem? ho
   obtain ⟨z1,z2,z3⟩:=uh HZ o hmem
   have htx:=(uh HIN).below bxr
   have hcr:=(uh HCR).below (uh HB)
   have hoi:=htx.ops k u o hu ho
   have hoc:=hcr.ops k u' o hu' ho
   have hOI:=(uh HI).ops o hmem
   have h1:=fun W (hW:Below wr.heap.size wr W)=>op_any (hoc.below hW).oin hOI (G_below (G_below (uh HG) bxr) hW) (by unfold OpZ;omega)
   have h2:=fun W (hW:Below wr.heap.size wr W)=>refOp_any (hoi.below hW) hOI z1 z2 z3
   have h3:=fun W (hW:Below wr.heap.size wr W)=>kept_ints (hoc.below hW) (hoi.below hW) z3
   have h4:=fun W (hW:Below wr.heap.size wr W)=>kept_pairs (hoc.below hW) (hoi.below hW) z2
   obtain ⟨L,hL⟩:∃ L,opL o=L:=⟨_,rfl⟩
   obtain ⟨F,hF⟩:∃ F,opE o=F:=⟨_,rfl⟩
   rw [hL,hF] at h1 h2
   unfold Ou.val at h1 h2
   have hLL:(L.toList != L.toList)=false:=by simp
   have hFF:(F != F)=false:=by simp
   obtain ⟨b,off,hq,hb1,c0,c1,c2,c3',c4',c5,c6⟩:=opsAt htx.op hu
   obtain ⟨b',off',hq',hb2,d0,d1,d2,d3,d4,d5,d6⟩:=opsAt hcr.op.ls hu'
   obtain ⟨Z,HZZ⟩:∃ Z,wr.alloc (.cells #[.int .i64 u.kind,.int .i64 u.who,.int .i64 u.ck,.int .i64 u.id,.string u.text,.slice u.qe u.ne u.ce,.slice u.qn u.nn u.cn] 42)=Z:=⟨_,rfl⟩
   have bZ:Below wr.heap.size wr Z:=by rw [<- HZZ];exact (Below.refl _ _).alloc (Nat.le_refl _) _
   have hZ:Z.heap[wr.heap.size]? = some (.cells #[.int .i64 u.kind,.int .i64 u.who,.int .i64 u.ck,.int .i64 u.id,.string u.text,.slice u.qe u.ne u.ce,.slice u.qn u.nn u.cn] 42 (0,0)):=by rw [<- HZZ];exact box_new _ _
   obtain ⟨l0,l1,l2,l3,l4,l5,l6⟩:=of7s hZ
   have hmb:=fun W (hW:Below wr.heap.size wr W)=>of10z (blk_onS (blk_onS (uh HMB) (uh HB)) hW)
   have hdd:=fun W (hW:Below wr.heap.size wr W)=>opsAt (hcr.below hW).op.ls hu'
   have HDD:=hide (show ∀ W,Below wr.heap.size wr W->W.cell? ⟨b',off' + k * 7,none⟩=some (.int .i64 u'.kind)/\W.cell? ⟨b',off' + k * 7 + 1,none⟩=some (.int .i64 u'.who)/\W.cell? ⟨b',off' + k * 7 + 2,none⟩=some (.int .i64 u'.ck)/\W.cell? ⟨b',off' + k * 7 + 3,none⟩=some (.int .i64 u'.id)/\W.cell? ⟨b',off' + k * 7 + 4,none⟩=some (.string u'.text)/\W.cell? ⟨b',off' + k * 7 + 5,none⟩=some (.slice u'.qe u'.ne u'.ce)/\W.cell? ⟨b',off' + k * 7 + 6,none⟩=some (.slice u'.qn u'.nn u'.cn) from fun W hW=>⟨(hW.cell (p:=⟨b',_,none⟩) hb2).trans d0,(hW.cell (p:=⟨b',_,none⟩) hb2).trans d1,(hW.cell (p:=⟨b',_,none⟩) hb2).trans d2,(hW.cell (p:=⟨b',_,none⟩) hb2).trans d3,(hW.cell (p:=⟨b',_,none⟩) hb2).trans d4,(hW.cell (p:=⟨b',_,none⟩) hb2).trans d5,(hW.cell (p:=⟨b',_,none⟩) hb2).trans d6⟩)
   have HM9:=hide (show ∀ W,Below wr.heap.size wr W->W.cell? ⟨w2.heap.size,9,none⟩=some (.slice (some ⟨b',off',none⟩) us.length c4) from fun W hW=>by
    obtain ⟨_,_,_,_,_,_,_,_,_,y9,_⟩:=hmb W hW
    rw [<- hq'];exact y9)
   obtain ⟨d0,d1,d2,d3,d4,d5,d6⟩:=uh HDD Z bZ
   have y9:=uh HM9 Z bZ
   have HO1:=hide h1
   have HO2:=hide h2
   have H15:=hide h3
   have H16:=hide h4
   have BZ:=hide bZ
   have HZB:=hide hZ
   have ki0:(0:Int)<=(k:Int):=by omega
   have ki1:(k:Int) < (us.length:Int):=by omega
   subst hq
   clear h1 h2 h3 h4 bZ hZ hmb hdd hoc hoi hcr htx hOI hmem z1 z2 z3 hu hu' ho hL hF hq' bxr
   go_upto_region 11 with (first
    | (go_at_call 14;refine (uh HO2 _ (uh B5)).mono ?_;rintro e w6 ⟨rfl,b6⟩;have B6:=hide (below_sub (uh B5) b6);clear l0 l1 l2 l3 l4 l5 l6;obtain ⟨l0,l1,l2,l3,l4,l5,l6⟩:=of7s (blk_onS (uh HZ5) b6);clear b6)
    | (go_at_call 13;refine (uh HO1 _ (uh BZ)).mono ?_;rintro e w5 ⟨rfl,b5⟩;have B5:=hide (below_sub (uh BZ) b5);clear l0 l1 l2 l3 l4 l5 l6;obtain ⟨l0,l1,l2,l3,l4,l5,l6⟩:=of7s (blk_onS (uh HZB) b5);have HZ5:=hide (blk_onS (uh HZB) b5);clear b5))
   clear d0 d1 d2 d3 d4 d5 d6 y9
   obtain ⟨d0,d1,d2,d3,d4,d5,d6⟩:=uh HDD w6 (uh B6)
   have y9:=uh HM9 w6 (uh B6)
   have g5:=cell_regrown d5
   have g6:=cell_regrown d6
   have g9:=cell_regrown y9
   have j5:=cell_regrown l5
   have j6:=cell_regrown l6
   have en15:=Tryz.enters15
   have en16:=Tryz.enters16
   have f15:=fun V (hV:Below w6.heap.size w6 V)=>uh H15 V (below_sub (uh B6) hV)
   have f16:=fun V (hV:Below w6.heap.size w6 V)=>uh H16 V (below_sub (uh B6) hV)
   refine wp_region_quiet_below (by assumption) (by kernel_rfl) ?_
   repeat (go_big_quiet_step (first | (go_at_fn 15;refine Calls.regrown_of (f15 _ (below_regrown _ _ _))) | (go_at_fn 16;refine Calls.regrown_of (f16 _ (below_regrown _ _ _)))))
   refine wpQuiet_nil ?_
   intro _ hw'
   obtain ⟨⟨dq,osq⟩,hw''⟩:=hw'
   subst hw''
   go_wp2
   go_roundw
   case rel=>exact ⟨k + 1,by omega,by go_num,hide (below_tr (uh HB) ((below_tr (uh B6) ((below_regrown _ _ _).mono (uh B6).size)).mono (uh HB).size))⟩
   case measure=>simp [intOf];omega
  ·obtain rfl:k=us.length:=by omega
   have ki1:¬ (us.length:Int) < (us.length:Int):=by omega
   obtain ⟨x0,x1,x2,x3,x4,x5,x6,x7,x8,x9,xf⟩:=of10z (blk_onS (uh HXB) bxr)
   obtain ⟨y0,y1,y2,y3,y4,y5,y6,y7,y8,y9,yf⟩:=of10z (blk_onS (uh HMB) (uh HB))
   clear bxr
   go_wp2_with (go_at_call 17;refine (uh HS _ q3 c3 q4 c4 us' (uh HLC) (below_sub (uh B2) (uh HB)) ((uh HCR).below (uh HB)).tx).mono ?_;rintro e w5 ⟨rfl,b5⟩;have B5:=hide (below_sub (below_sub (uh B2) (uh HB)) b5);clear b5)
   go_ret
   exact ⟨rfl,below_sub (uh BX) (uh B5)⟩
theorem scriptWrites_law {w:World} (hG:G w) (qa:Option Addr) (ca:Nat) (qo:Option Addr) (co:Nat) (us:List Ou) (s:Scr) (hin:TxIn w qa ca qo co us s) (hI:ScrI s) (hat:s.attrs.length<=1048576) (hW:opsW s.ops<=1048576) :
    Calls Tryz.prog 3 #[.agg #[.int .i64 s.cfg.d,.int .i64 s.cfg.c,.int .i64 s.cfg.s,.int .i64 s.cfg.t,.int .i64 s.cfg.h,.int .i64 s.cfg.q,.int .i64 s.cfg.w,.int .i64 s.cfg.u,.slice qa s.attrs.length ca,.slice qo us.length co]] w fun e w'=>e=.returned (.bool true)/\Below w.heap.size w w':=by
  have hol:=opsW_len s.ops
  have hul:=hin.len
  have hZ:∀ o ∈ s.ops,o.text.size<=1000000000/\o.ev.length<=1000000000/\o.nums.length<=1000000000:=fun o ho=>by
    have:=opsW_mem ho
    unfold opW1 at this;omega
  have hO:OpsZ s.ops:=fun o ho=>by have:=hZ o ho;omega
  have hT:ScrOk s->(scrB s).length<=140737488355328:=fun h=>by have:=scrB_len h hI;omega
  refine writes_law qa ca qo co us s (txL s) (txE s) hin hI hG (by omega) hZ (hide fun W hW=>fixed_any W (G_below hG hW))
    (hide fun W hb=>copied_any W qa ca qo co us s (hin.below hb) (by omega) (by omega) (fun o ho=>(hZ o ho).2))
    (hide fun W q3 c3 q4 c4 us' hl hb ht=>hl ▸ text_scr W (G_below hG hb) q3 c3 q4 c4 us' s ht hI (opsW_Z hW) (by omega) (by omega) hT)
    (hide fun W hb=>refText_scr W qa ca qo co us s (hin.below hb) hI hat hW)
    (hide fun W q3 c3 q4 c4 us' hl hb ht=>?_)
  have h:=refSame_scr W q3 c3 q4 c4 us' s qa ca qo co us s ht (hin.below hb) (by omega) (by omega) hO
  rw [sameB_refl,hl] at h
  exact h
end Go.Proofs.YtdgoibnndfibnaaGreatDoor
