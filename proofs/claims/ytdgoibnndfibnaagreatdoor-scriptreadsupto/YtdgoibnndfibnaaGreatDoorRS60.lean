/- The document's reads: a match. -/
import Derived.Test.YtdgoibnndfibnaaGreatDoorRS59
namespace Go.Proofs.YtdgoibnndfibnaaGreatDoor
open Go.RowKit Go.Sort
/-- The op's box while a match is read. -/
structure MS (w1 W:World) (X:Array Value):Prop where
 bel:Below w1.heap.size w1 W
 box:W.heap[w1.heap.size]? = some (.cells X 42 (0,0))
theorem MS.below {w1 W W':World} {X:Array Value} (h:MS w1 W X) (hb:Below W.heap.size W W'):MS w1 W' X:=⟨below_tr h.bel (hb.mono h.bel.size),blk_onS h.box hb⟩
theorem MS.blw {w1 W W':World} {X:Array Value} {B:Nat} (h:MS w1 W X) (hb:Below B W W') (h1:w1.heap.size < B):MS w1 W' X:=⟨below_tr h.bel (hb.mono (by omega)),(hb.block _ h1).trans h.box⟩
theorem MS.like {w1 W W':World} {X:Array Value} (h:MS w1 W X) (e1:W'.heap=W.heap) (e2:W'.os=W.os) (e3:W'.tape=W.tape) (e4:W'.output=W.output):MS w1 W' X:=h.below ⟨e2,e3,e4,by rw [e1];exact Nat.le_refl _,fun k _=>by rw [e1]⟩
theorem MS.set5 {w1 W:World} {a0 a1 a2 a3 a4 a5 a6:Value} (h:MS w1 W #[a0,a1,a2,a3,a4,a5,a6]) (v:Value):MS w1 (W.setCell ⟨w1.heap.size,5,none⟩ v) #[a0,a1,a2,a3,a4,v,a6]:=by
 refine ⟨below_tr h.bel (below_gr (gr_set (gr_refl _ _) 5 v) (heap_lt h.box)), ?_⟩
 have:=h.box
 simp [World.setCell,Array.getElem?_modify,this]
set_option maxHeartbeats 16000000 in
set_option maxRecDepth 100000 in
theorem reads_c4 (s:ByteArray) (w:World) (hz:s.size<=1048576) (hyes:∀ (x:ByteArray) (rest:List ByteArray),(x :: rest).map Lb=cutL (Lb s)->Lb x=wCall/\∃ a b args,rest=a :: b :: args/\Lb b=wMatch) :
  Calls Tryz.prog 45 #[.string s] w fun e w'=>(∃ u:Ou,e=.returned u.val/\OpOwn w.heap.size w' u (rfOp (Lb s)))/\Below w.heap.size w w':=by
 have mixed:Tryz.prog.follows .mixedOrders=true:=by kernel_rfl
 obtain ⟨X,HX⟩:∃ X,w.alloc (.cells #[.int .i64 0,.int .i64 0,.int .i64 0,.int .i64 0,.string ⟨#[]⟩,.slice none 0 0,.slice none 0 0] 42)=X:=⟨_,rfl⟩
 have bX:Below w.heap.size w X:=by rw [<- HX];exact (Below.refl _ _).alloc (Nat.le_refl _) _
 have hX:X.heap[w.heap.size]? = some (.cells #[.int .i64 0,.int .i64 0,.int .i64 0,.int .i64 0,.string ⟨#[]⟩,.slice none 0 0,.slice none 0 0] 42 (0,0)):=by rw [<- HX];exact box_new _ _
 have HC:=hide (refCut_any s X (by omega))
 have HXB:=hide hX
 have BX:=hide bX
 have HYES:=hide hyes
 clear bX hX hyes
 go_enter Tryz.func45,Tryz.ntmps45
 go_upto_region 5 with (go_at_call 43;refine (uh HC).mono ?_;rintro e w1 ⟨⟨q,cp,ws,rfl,hws,hown⟩,b1⟩;obtain ⟨x,rest,rfl⟩:=words_ne hws;obtain ⟨g,rfl⟩:=own_some hown;have hls:=hown.ls;have hlc:=hls.2.1;have n2:((rest.length:Int) + 1)<=(cp:Int):=(by simp at hlc;omega);obtain ⟨q5,HQ5⟩:∃ q5,(if cp=1 then (some ⟨g,0,none⟩:Option Addr) else some ⟨g,1,none⟩)=q5:=⟨_,rfl⟩;obtain ⟨g',off',hq,hgb,d0⟩:=strAt hls (j:=0) rfl;injection hq with hq;injection hq with hq1 hq2;subst hq1;have hq3:off'=0:=hq2.symm;subst hq3;obtain ⟨Y,HY⟩:∃ Y,w1.alloc (.cells #[.int .i64 0,.int .i64 0,.int .i64 0,.int .i64 0,.string ⟨#[]⟩,.slice none 0 0,.slice none 0 0] 42)=Y:=⟨_,rfl⟩;have bY:Below w1.heap.size w1 Y:=(by rw [<- HY];exact (Below.refl _ _).alloc (Nat.le_refl _) _);have hY:Y.heap[w1.heap.size]? = some (.cells #[.int .i64 0,.int .i64 0,.int .i64 0,.int .i64 0,.string ⟨#[]⟩,.slice none 0 0,.slice none 0 0] 42 (0,0)):=(by rw [<- HY];exact box_new _ _);have d1:=(bY.cell (p:=⟨g,0 + 0,none⟩) hgb).trans d0;rw [Nat.add_zero] at d1;have HLT:=hide (by rw [<- HQ5];exact sl_tail hls:SlOf encS 1 w1 q5 (cp - 1) rest);have HWS:=hide hws;have B1:=hide b1;have BY:=hide bY;have HYB:=hide hY;have HLE:=hide (words_len hws);clear hls hlc hown hws b1 bY hY d0 hq2)
 obtain ⟨h1,a,b,args,rfl,hb⟩:=uh HYES x rest (uh HWS)
 have e1:(x.toList == [99,97,108,108])=true:=by rw [ByteArray.toList_eq];show (Lb x == _)=true;rw [h1];rfl
 have hq5:q5=some ⟨g,1,none⟩:=by rw [<- HQ5,if_neg (by simp at n2;omega)]
 subst hq5
 have f1:(b.toList == [115,117,98])=false:=by rw [ByteArray.toList_eq];exact beq_eq_false_iff_ne.2 (by show Lb b ≠ _;rw [hb];decide)
 have f2:(b.toList == [114,101,112,108,97,99,101])=false:=by rw [ByteArray.toList_eq];exact beq_eq_false_iff_ne.2 (by show Lb b ≠ _;rw [hb];decide)
 have f3:(b.toList == [117,110,115,117,98])=false:=by rw [ByteArray.toList_eq];exact beq_eq_false_iff_ne.2 (by show Lb b ≠ _;rw [hb];decide)
 have f4:(b.toList == [109,97,116,99,104])=true:=by rw [ByteArray.toList_eq];show (Lb b == _)=true;rw [hb];rfl
 obtain ⟨g0,o0,q0,hgb,dA⟩:=strAt (uh HLT) (j:=0) rfl
 injection q0 with q0
 injection q0 with u0 v0
 subst u0 v0
 rw [show 1 + 0=1 from rfl] at dA
 have Z0:=hide (show a.size<=1048576 by have:=(uh HLE).2 a (by simp);omega)
 obtain ⟨g1,o1,q1,hgb,dB⟩:=strAt (uh HLT) (j:=1) rfl
 injection q1 with q1
 injection q1 with u1 v1
 subst u1 v1
 rw [show 1 + 1=2 from rfl] at dB
 have Z1:=hide (show b.size<=1048576 by have:=(uh HLE).2 b (by simp);omega)
 have HRF:=hide (show rfOp (Lb s)=⟨1,numR (Lb a),4,0,⟨#[]⟩,args.map fun s=>pairR (Lb s),[]⟩ by
  unfold rfOp
  rw [<- uh HWS]
  simp only [List.map_cons]
  unfold rfWs
  rw [show kindOfW opW 7 (Lb x)=1 by rw [h1];decide,if_pos rfl]
  show rfCall (numR (Lb a)) (kindOfW callW 4 (Lb b)) _=_
  rw [show kindOfW callW 4 (Lb b)=4 by rw [hb];decide]
  unfold rfCall
  rw [if_pos rfl,List.map_map]
  rfl)
 obtain ⟨y0,y1,y2,y3,y4,y5,y6,yf⟩:=of7z (uh HYB)
 have ys0:Y.cell? ⟨g,1,none⟩=some (.string a):=((uh BY).cell (p:=⟨g,1,none⟩) hgb).trans dA
 have ys1:Y.cell? ⟨g,2,none⟩=some (.string b):=((uh BY).cell (p:=⟨g,2,none⟩) hgb).trans dB
 obtain ⟨Y2,HY2⟩:∃ Z,Y.setCell ⟨w1.heap.size,0,none⟩ (.int .i64 1)=Z:=⟨_,rfl⟩
 have gY2:Y.grownBy Y2 (some w1.heap.size):=(by rw [<- HY2];exact gr_set (gr_refl _ _) _ _)
 have hY2:Y2.heap[w1.heap.size]? = some (.cells #[.int .i64 1,.int .i64 0,.int .i64 0,.int .i64 0,.string ⟨#[]⟩,.slice none 0 0,.slice none 0 0] 42 (0,0)):=(by rw [<- HY2];exact set7_0 (uh HYB) _)
 have bY2:Below w1.heap.size w1 Y2:=below_tr (uh BY) (below_gr gY2 (heap_lt (uh HYB)))
 obtain ⟨p20,p21,p22,p23,p24,p25,p26,p2f⟩:=of7z hY2
 have p2s0:Y2.cell? ⟨g,1,none⟩=some (.string a):=(bY2.cell (p:=⟨g,1,none⟩) hgb).trans dA
 have p2s1:Y2.cell? ⟨g,2,none⟩=some (.string b):=(bY2.cell (p:=⟨g,2,none⟩) hgb).trans dB
 obtain ⟨Y3,HY3⟩:∃ Z,Y2.setCell ⟨w1.heap.size,1,none⟩ (.int .i64 (numR (Lb a)))=Z:=⟨_,rfl⟩
 have gY3:Y2.grownBy Y3 (some w1.heap.size):=(by rw [<- HY3];exact gr_set (gr_refl _ _) _ _)
 have hY3:Y3.heap[w1.heap.size]? = some (.cells #[.int .i64 1,.int .i64 (numR (Lb a)),.int .i64 0,.int .i64 0,.string ⟨#[]⟩,.slice none 0 0,.slice none 0 0] 42 (0,0)):=(by rw [<- HY3];exact set7_1 hY2 _)
 have bY3:Below w1.heap.size w1 Y3:=below_tr bY2 (below_gr gY3 (heap_lt hY2))
 obtain ⟨p30,p31,p32,p33,p34,p35,p36,p3f⟩:=of7z hY3
 have p3s0:Y3.cell? ⟨g,1,none⟩=some (.string a):=(bY3.cell (p:=⟨g,1,none⟩) hgb).trans dA
 have p3s1:Y3.cell? ⟨g,2,none⟩=some (.string b):=(bY3.cell (p:=⟨g,2,none⟩) hgb).trans dB
 obtain ⟨Y4,HY4⟩:∃ Z,Y3.setCell ⟨w1.heap.size,2,none⟩ (.int .i64 4)=Z:=⟨_,rfl⟩
 have gY4:Y3.grownBy Y4 (some w1.heap.size):=(by rw [<- HY4];exact gr_set (gr_refl _ _) _ _)
 have hY4:Y4.heap[w1.heap.size]? = some (.cells #[.int .i64 1,.int .i64 (numR (Lb a)),.int .i64 4,.int .i64 0,.string ⟨#[]⟩,.slice none 0 0,.slice none 0 0] 42 (0,0)):=(by rw [<- HY4];exact set7_2 hY3 _)
 have bY4:Below w1.heap.size w1 Y4:=below_tr bY3 (below_gr gY4 (heap_lt hY3))
 obtain ⟨p40,p41,p42,p43,p44,p45,p46,p4f⟩:=of7z hY4
 have p4s0:Y4.cell? ⟨g,1,none⟩=some (.string a):=(bY4.cell (p:=⟨g,1,none⟩) hgb).trans dA
 have p4s1:Y4.cell? ⟨g,2,none⟩=some (.string b):=(bY4.cell (p:=⟨g,2,none⟩) hgb).trans dB
 have HI0:=hide (show MS w1 Y4 #[.int .i64 1,.int .i64 (numR (Lb a)),.int .i64 4,.int .i64 0,.string ⟨#[]⟩,.slice none 0 0,.slice none 0 0] from ⟨bY4,hY4⟩)
 have AL:args.length<=1048576:=by have:=(uh HLE).1;simp at this;omega
 obtain ⟨c9,rfl⟩:∃ c9,cp=c9 + 1:=⟨cp - 1,by simp at n2;omega⟩
 obtain ⟨q6,HQ6⟩:∃ q,(if c9=2 then (some ⟨g,1,none⟩:Option Addr) else some ⟨g,3,none⟩)=q:=⟨_,rfl⟩
 have n3:((args.length:Int) + 2)<=(c9:Int):=by simp only [List.length_cons] at n2;omega
 have HH:=hide hgb
 clear h1 hb hgb n2 dA dB hY4 bY4 gY4 hY3 bY3 gY3 hY2 bY2 gY2
 go_wp2_with (go_at_call 74;refine (refNumber_any a _ (by have:=uh Z0;omega)).mono ?_;rintro e wq ⟨rfl,rfl⟩)
 go_loopw [7] (fun i wr=>∃ (acc:List Pq) (q:Option Addr) (c:Nat),acc.length<=args.length/\i=.int .i64 acc.length/\Hid (acc=(args.take acc.length).map fun s=>pairR (Lb s))/\Hid (MS w1 wr #[.int .i64 1,.int .i64 (numR (Lb a)),.int .i64 4,.int .i64 0,.string ⟨#[]⟩,.slice q acc.length c,.slice none 0 0])/\Hid (OwnK encQ 78 4 (w1.heap.size + 1) wr q c acc)) (fun i _=>args.length - (intOf i).toNat)
 case atStart=>exact ⟨[],none,0,by simp,rfl,hide (by simp),HI0,hide (OwnK.nil _ _)⟩
 case round =>
  clear y0 y1 y2 y3 y4 y5 y6 yf p20 p21 p22 p23 p24 p25 p26 p2f p30 p31 p32 p33 p34 p35 p36 p3f p40 p41 p42 p43 p44 p45 p46 p4f ys0 ys1 p2s0 p2s1 p3s0 p3s1 p4s0 p4s1 HI0
  obtain ⟨acc,q,c,hle,rfl,HA,HI,OW⟩:=hrel
  obtain ⟨U,rfl⟩:∃ U,U=wr:=⟨_,rfl⟩
  have ki0:(0:Int)<=(acc.length:Int):=by omega
  by_cases hlt:acc.length < args.length
  ·obtain ⟨z,hx,_⟩:=get_at hlt
   obtain ⟨g9,o9,h9,_,dz⟩:=strAt (uh HLT) (j:=acc.length + 2) (x:=z) (by simpa using hx)
   injection h9 with h9
   injection h9 with u9 v9
   subst u9 v9
   have hq6:q6=some ⟨g,3,none⟩:=by rw [<- HQ6,if_neg (by omega)]
   subst hq6
   have tz:=((uh HI).bel.cell (p:=⟨g,1 + (acc.length + 2),none⟩) (uh HH)).trans dz
   rw [show 1 + (acc.length + 2)=3 + acc.length by omega] at tz
   obtain ⟨_,_,_,_,_,t5,_,tf⟩:=of7z (uh HI).box
   have ki1:(acc.length:Int) < (args.length:Int):=by omega
   have HZZ:=hide (show z.size<=1048576 by have:=(uh HLE).2 z (by simp [List.mem_of_getElem? hx]);omega)
   obtain ⟨pv,hpv⟩:∃ p,pairR (Lb z)=p:=⟨_,rfl⟩
   have HA2:=hide (show acc ++ [pv]=(args.take (acc ++ [pv]).length).map fun s=>pairR (Lb s) by
    rw [List.length_append,List.length_singleton,List.take_add_one,hx,List.map_append,<- uh HA,Option.toList_some,List.map_singleton,hpv])
   have PV:=hide (fun V e1 e2 e3 e4=>(uh HI).like (W':=V) e1 e2 e3 e4)
   clear hx dz
   go_wp2
   go_region_law (first
    | (refine step_app rowQ (by rfl) (.tmp 60) (.tmp 66) (by rfl) (w1.heap.size + 1) q c acc (some ⟨w5.heap.size,0,none⟩) 1 [pv] acc.length 1 (acc.length + 1) rfl rfl rfl (by rfl) (by rfl) (own_heap (by rfl) (uh O6)) (src_heap (by rfl) (uh S6)) (by unfold maxLen;omega) (by omega) (by have:=uh Z6;simp;omega) ?_;intro q5 c5 w6 o5 bl5 _ _;have O7:=hide o5;have P7:=hide ((uh PV6 _ (by rfl) (by rfl) (by rfl) (by rfl)).blw bl5 (by omega));clear t5 tf;obtain ⟨_,_,_,_,_,t5,_,tf⟩:=of7z (uh P7).box;clear o5 bl5)
    | (go_simp;go_at_call 75;refine (refPair_any z _ (uh HZZ) pv hpv).mono ?_;rintro e w5 ⟨rfl,hs⟩;have p5:=(uh PV _ (by rfl) (by rfl) (by rfl) (by rfl)).below hs;have o5:=OwnK.below (own_heap (by rfl) (uh OW)) hs;have O6:=hide (OwnK.below o5 ((Below.refl w5.heap.size w5).alloc (Nat.le_refl _) (.cells #[.string pv.1,.int .i64 pv.2.1,.int .i64 pv.2.2.1,.string pv.2.2.2] 78)));have S6:=hide (one_pair w5 pv).src;have PV6:=hide (fun V e1 e2 e3 e4=>(p5.below (bal (Below.refl _ _) (.cells #[.string pv.1,.int .i64 pv.2.1,.int .i64 pv.2.2.1,.string pv.2.2.2] 78))).like (W':=V) e1 e2 e3 e4);have Z6:=hide (show w1.heap.size + 1<=w5.heap.size from heap_lt p5.box);have zl:w1.heap.size < w5.heap.size:=heap_lt p5.box;have zn:¬ w5.heap.size=w1.heap.size:=(by omega);have zm:¬ w1.heap.size=w5.heap.size:=(by omega);clear t5 tf;obtain ⟨_,_,_,_,_,t5,_,tf⟩:=of7z p5.box;clear hs p5 o5))
   all_goals
    have P8:=hide ((uh P7).set5 (.slice q5 (acc.length + 1) c5))
    have O8:=hide (own_putb (uh O7) (show w1.heap.size < w1.heap.size + 1 by omega) 5 (.slice q5 (acc.length + 1) c5))
    clear t5 tf
    go_wp2
    go_roundw
    case rel=>exact ⟨acc ++ [pv],q5,c5,by simp;omega,by simp,HA2,hide (by rw [List.length_append];exact uh P8),O8⟩
    case measure=>simp [intOf];omega
  ·have ki1:¬ (acc.length:Int) < (args.length:Int):=by omega
   have HAL:=hide (show acc=args.map fun s=>pairR (Lb s) by rw [uh HA,List.take_of_length_le (by omega)])
   obtain ⟨t0,t1,t2,t3,t4,t5,t6,tf⟩:=of7z (uh HI).box
   have hxx:U.heap[w.heap.size]? = some (.cells #[.int .i64 0,.int .i64 0,.int .i64 0,.int .i64 0,.string ⟨#[]⟩,.slice none 0 0,.slice none 0 0] 42 (0,0)):=blk_onS (blk_onS (uh HXB) (uh B1)) (uh HI).bel
   obtain ⟨hres,hg4⟩:=set7_all hxx (.int .i64 1) (.int .i64 (numR (Lb a))) (.int .i64 4) (.int .i64 0) (.string ⟨#[]⟩) (.slice q acc.length c) (.slice none 0 0)
   obtain ⟨W9,HW9⟩:∃ Z,(((((((U.setCell ⟨w.heap.size,0,none⟩ (.int .i64 1)).setCell ⟨w.heap.size,1,none⟩ (.int .i64 (numR (Lb a)))).setCell ⟨w.heap.size,2,none⟩ (.int .i64 4)).setCell ⟨w.heap.size,3,none⟩ (.int .i64 0)).setCell ⟨w.heap.size,4,none⟩ (.string ⟨#[]⟩)).setCell ⟨w.heap.size,5,none⟩ (.slice q acc.length c)).setCell ⟨w.heap.size,6,none⟩ (.slice none 0 0))=Z:=⟨_,rfl⟩
   rw [HW9] at hres hg4
   have HRES:=hide hres
   have hne0:=heap_lt (blk_onS (uh HXB) (uh B1))
   have HON:=hide ((own_gr (uh OW) hg4 (by omega)).mono (show w.heap.size<=w1.heap.size + 1 by omega))
   have HBE:=hide (below_tr (below_sub (below_sub (uh BX) (uh B1)) (uh HI).bel) (below_gr hg4 (heap_lt hxx)))
   obtain ⟨x0,x1,x2,x3,x4,x5,x6,xf⟩:=of7z hxx
   have hne1:¬ w.heap.size=w1.heap.size:=by omega
   have hne2:¬ w1.heap.size=w.heap.size:=by omega
   clear hxx hres hg4 hne0
   go_wp2
   all_goals refine bodyPost_ret (results_cell_row rfl _ _ w.heap.size 42 _ (0,0) _ rfl (uh HRES) Tryz.underlying42 rfl Tryz.info42s) rfl ?_
   all_goals exact ⟨⟨⟨1,numR (Lb a),4,0,⟨#[]⟩,q,acc.length,c,none,0,0⟩,rfl,by rw [uh HRF,<- uh HAL];exact ⟨rfl,rfl,rfl,rfl,rfl,rfl,rfl,uh HON,OwnK.nil _ _⟩⟩,uh HBE⟩
end Go.Proofs.YtdgoibnndfibnaaGreatDoor
