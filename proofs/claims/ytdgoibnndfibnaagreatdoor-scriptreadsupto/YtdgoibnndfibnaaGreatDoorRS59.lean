/- The document's reads: calls that are no match. -/
import Derived.Test.YtdgoibnndfibnaaGreatDoorRS58
namespace Go.Proofs.YtdgoibnndfibnaaGreatDoor
open Go.RowKit Go.Sort
theorem kind4 {w:Bs} (h1:w ≠ wSub) (h2:w ≠ wReplace) (h3:w ≠ wUnsub) (h4:w ≠ wMatch):kindOfW callW 4 w=0:=by
 unfold kindOfW
 rw [List.find?_eq_none.2]
 ·rfl
 ·intro k hk
  rw [List.mem_range] at hk
  have:k=0 ∨ k=1 ∨ k=2 ∨ k=3:=by omega
  rw [decide_eq_true_eq]
  intro e
  rcases this with rfl | rfl | rfl | rfl
  ·exact h1 e.symm
  ·exact h2 e.symm
  ·exact h3 e.symm
  ·exact h4 e.symm
theorem set7_1 {W:World} {b:Nat} {a0 a1 a2 a3 a4 a5 a6:Value} {T:TypeId} (h:W.heap[b]? = some (.cells #[a0,a1,a2,a3,a4,a5,a6] T (0,0))) (v:Value):(W.setCell ⟨b,1,none⟩ v).heap[b]? = some (.cells #[a0,v,a2,a3,a4,a5,a6] T (0,0)):=by
 simp [World.setCell,Array.getElem?_modify,h]
theorem set7_2 {W:World} {b:Nat} {a0 a1 a2 a3 a4 a5 a6:Value} {T:TypeId} (h:W.heap[b]? = some (.cells #[a0,a1,a2,a3,a4,a5,a6] T (0,0))) (v:Value):(W.setCell ⟨b,2,none⟩ v).heap[b]? = some (.cells #[a0,a1,v,a3,a4,a5,a6] T (0,0)):=by
 simp [World.setCell,Array.getElem?_modify,h]
theorem set7_3 {W:World} {b:Nat} {a0 a1 a2 a3 a4 a5 a6:Value} {T:TypeId} (h:W.heap[b]? = some (.cells #[a0,a1,a2,a3,a4,a5,a6] T (0,0))) (v:Value):(W.setCell ⟨b,3,none⟩ v).heap[b]? = some (.cells #[a0,a1,a2,v,a4,a5,a6] T (0,0)):=by
 simp [World.setCell,Array.getElem?_modify,h]
theorem set7_4 {W:World} {b:Nat} {a0 a1 a2 a3 a4 a5 a6:Value} {T:TypeId} (h:W.heap[b]? = some (.cells #[a0,a1,a2,a3,a4,a5,a6] T (0,0))) (v:Value):(W.setCell ⟨b,4,none⟩ v).heap[b]? = some (.cells #[a0,a1,a2,a3,v,a5,a6] T (0,0)):=by
 simp [World.setCell,Array.getElem?_modify,h]
set_option maxHeartbeats 16000000 in
set_option maxRecDepth 100000 in
theorem reads_short (s:ByteArray) (w:World) (hz:s.size<=1048576) (hyes:∀ (x:ByteArray) (rest:List ByteArray),(x :: rest).map Lb=cutL (Lb s)->Lb x=wCall/\rest.length < 2) :
  Calls Tryz.prog 45 #[.string s] w fun e w'=>(∃ u:Ou,e=.returned u.val/\OpOwn w.heap.size w' u (rfOp (Lb s)))/\Below w.heap.size w w':=by
 have mixed:Tryz.prog.follows .mixedOrders=true:=by kernel_rfl
 obtain ⟨X,HX⟩:∃ X,w.alloc (.cells #[.int .i64 0,.int .i64 0,.int .i64 0,.int .i64 0,.string ⟨#[]⟩,.slice none 0 0,.slice none 0 0] 42)=X:=⟨_,rfl⟩
 have bX:Below w.heap.size w X:=by rw [<- HX];exact (Below.refl _ _).alloc (Nat.le_refl _) _
 have hX:X.heap[w.heap.size]? = some (.cells #[.int .i64 0,.int .i64 0,.int .i64 0,.int .i64 0,.string ⟨#[]⟩,.slice none 0 0,.slice none 0 0] 42 (0,0)):=by rw [<- HX];exact box_new _ _
 have HC:=hide (refCut_any s X (by omega))
 have HXB:=hide hX
 have BX:=hide bX
 have HYES:=hide hyes
 clear bX hX hyes
 go_enter Tryz.func45,Tryz.ntmps45
 go_upto_region 5 with (go_at_call 43;refine (uh HC).mono ?_;rintro e w1 ⟨⟨q,cp,ws,rfl,hws,hown⟩,b1⟩;obtain ⟨x,rest,rfl⟩:=words_ne hws;obtain ⟨g,rfl⟩:=own_some hown;have hls:=hown.ls;have hlc:=hls.2.1;have n2:((rest.length:Int) + 1)<=(cp:Int):=(by simp at hlc;omega);obtain ⟨q5,HQ5⟩:∃ q5,(if cp=1 then (some ⟨g,0,none⟩:Option Addr) else some ⟨g,1,none⟩)=q5:=⟨_,rfl⟩;obtain ⟨g',off',hq,hgb,d0⟩:=strAt hls (j:=0) rfl;injection hq with hq;injection hq with hq1 hq2;subst hq1;have hq3:off'=0:=hq2.symm;subst hq3;obtain ⟨Y,HY⟩:∃ Y,w1.alloc (.cells #[.int .i64 0,.int .i64 0,.int .i64 0,.int .i64 0,.string ⟨#[]⟩,.slice none 0 0,.slice none 0 0] 42)=Y:=⟨_,rfl⟩;have bY:Below w1.heap.size w1 Y:=(by rw [<- HY];exact (Below.refl _ _).alloc (Nat.le_refl _) _);have hY:Y.heap[w1.heap.size]? = some (.cells #[.int .i64 0,.int .i64 0,.int .i64 0,.int .i64 0,.string ⟨#[]⟩,.slice none 0 0,.slice none 0 0] 42 (0,0)):=(by rw [<- HY];exact box_new _ _);have d1:=(bY.cell (p:=⟨g,0 + 0,none⟩) hgb).trans d0;rw [Nat.add_zero] at d1;have HLT:=hide (by rw [<- HQ5];exact sl_tail hls:SlOf encS 1 w1 q5 (cp - 1) rest);have HWS:=hide hws;have B1:=hide b1;have BY:=hide bY;have HYB:=hide hY;have HLE:=hide (words_len hws);clear hls hlc hown hws b1 bY hY d0 hq2)
 obtain ⟨h1,hlt⟩:=uh HYES x rest (uh HWS)
 have e1:(x.toList == [99,97,108,108])=true:=by rw [ByteArray.toList_eq];show (Lb x == _)=true;rw [h1];rfl
 have HRF:=hide (show rfOp (Lb s)=⟨1,0,0,0,⟨#[]⟩,[],[]⟩ by
  unfold rfOp
  rw [<- uh HWS]
  simp only [List.map_cons]
  unfold rfWs
  rw [show kindOfW opW 7 (Lb x)=1 by rw [h1];decide,if_pos rfl]
  match rest,hlt with
  | [],_=>rfl
  | [a],_=>rfl
  | a :: b :: r,h=>simp at h;omega)
 obtain ⟨y0,y1,y2,y3,y4,y5,y6,yf⟩:=of7z (uh HYB)
 obtain ⟨Y2,HY2⟩:∃ Z,Y.setCell ⟨w1.heap.size,0,none⟩ (.int .i64 1)=Z:=⟨_,rfl⟩
 have gY2:Y.grownBy Y2 (some w1.heap.size):=(by rw [<- HY2];exact gr_set (gr_refl _ _) _ _)
 have hY2:Y2.heap[w1.heap.size]? = some (.cells #[.int .i64 1,.int .i64 0,.int .i64 0,.int .i64 0,.string ⟨#[]⟩,.slice none 0 0,.slice none 0 0] 42 (0,0)):=(by rw [<- HY2];exact set7_0 (uh HYB) _)
 have bY2:Below w1.heap.size w1 Y2:=below_tr (uh BY) (below_gr gY2 (heap_lt (uh HYB)))
 obtain ⟨p20,p21,p22,p23,p24,p25,p26,p2f⟩:=of7z hY2
 have hxx:Y2.heap[w.heap.size]? = some (.cells #[.int .i64 0,.int .i64 0,.int .i64 0,.int .i64 0,.string ⟨#[]⟩,.slice none 0 0,.slice none 0 0] 42 (0,0)):=blk_onS (blk_onS (uh HXB) (uh B1)) bY2
 obtain ⟨hres,hg4⟩:=set7_all hxx (.int .i64 1) (.int .i64 0) (.int .i64 0) (.int .i64 0) (.string ⟨#[]⟩) (.slice none 0 0) (.slice none 0 0)
 obtain ⟨W9,HW9⟩:∃ Z,(((((((Y2.setCell ⟨w.heap.size,0,none⟩ (.int .i64 1)).setCell ⟨w.heap.size,1,none⟩ (.int .i64 0)).setCell ⟨w.heap.size,2,none⟩ (.int .i64 0)).setCell ⟨w.heap.size,3,none⟩ (.int .i64 0)).setCell ⟨w.heap.size,4,none⟩ (.string ⟨#[]⟩)).setCell ⟨w.heap.size,5,none⟩ (.slice none 0 0)).setCell ⟨w.heap.size,6,none⟩ (.slice none 0 0))=Z:=⟨_,rfl⟩
 rw [HW9] at hres hg4
 have HRES:=hide hres
 have HBE:=hide (below_tr (below_sub (below_sub (uh BX) (uh B1)) bY2) (below_gr hg4 (heap_lt hxx)))
 obtain ⟨x0,x1,x2,x3,x4,x5,x6,xf⟩:=of7z hxx
 have hne1:¬ w.heap.size=w1.heap.size:=(by have:=heap_lt (blk_onS (uh HXB) (uh B1));omega)
 have hne2:¬ w1.heap.size=w.heap.size:=(by omega)
 clear hxx hres hg4
 have k1:(rest.length:Int) < 2:=by omega
 have k2:decide ((rest.length:Int) < 2)=true:=decide_eq_true k1
 clear h1 hY2 bY2 gY2 hlt
 go_wp2
 all_goals refine bodyPost_ret (results_cell_row rfl _ _ w.heap.size 42 _ (0,0) _ rfl (uh HRES) Tryz.underlying42 rfl Tryz.info42s) rfl ?_
 all_goals exact ⟨⟨⟨1,0,0,0,⟨#[]⟩,none,0,0,none,0,0⟩,rfl,by rw [uh HRF];exact ⟨rfl,rfl,rfl,rfl,rfl,rfl,rfl,OwnK.nil _ _,OwnK.nil _ _⟩⟩,uh HBE⟩
set_option maxHeartbeats 16000000 in
set_option maxRecDepth 100000 in
theorem reads_c0 (s:ByteArray) (w:World) (hz:s.size<=1048576) (hyes:∀ (x:ByteArray) (rest:List ByteArray),(x :: rest).map Lb=cutL (Lb s)->Lb x=wCall/\∃ a b args,rest=a :: b :: args/\(Lb b ≠ wSub/\Lb b ≠ wReplace/\Lb b ≠ wUnsub/\Lb b ≠ wMatch)) :
  Calls Tryz.prog 45 #[.string s] w fun e w'=>(∃ u:Ou,e=.returned u.val/\OpOwn w.heap.size w' u (rfOp (Lb s)))/\Below w.heap.size w w':=by
 have mixed:Tryz.prog.follows .mixedOrders=true:=by kernel_rfl
 obtain ⟨X,HX⟩:∃ X,w.alloc (.cells #[.int .i64 0,.int .i64 0,.int .i64 0,.int .i64 0,.string ⟨#[]⟩,.slice none 0 0,.slice none 0 0] 42)=X:=⟨_,rfl⟩
 have bX:Below w.heap.size w X:=by rw [<- HX];exact (Below.refl _ _).alloc (Nat.le_refl _) _
 have hX:X.heap[w.heap.size]? = some (.cells #[.int .i64 0,.int .i64 0,.int .i64 0,.int .i64 0,.string ⟨#[]⟩,.slice none 0 0,.slice none 0 0] 42 (0,0)):=by rw [<- HX];exact box_new _ _
 have HC:=hide (refCut_any s X (by omega))
 have HXB:=hide hX
 have BX:=hide bX
 have HYES:=hide hyes
 clear bX hX hyes
 go_enter Tryz.func45,Tryz.ntmps45
 go_upto_region 5 with (go_at_call 43;refine (uh HC).mono ?_;rintro e w1 ⟨⟨q,cp,ws,rfl,hws,hown⟩,b1⟩;obtain ⟨x,rest,rfl⟩:=words_ne hws;obtain ⟨g,rfl⟩:=own_some hown;have hls:=hown.ls;have hlc:=hls.2.1;have n2:((rest.length:Int) + 1)<=(cp:Int):=(by simp at hlc;omega);obtain ⟨q5,HQ5⟩:∃ q5,(if cp=1 then (some ⟨g,0,none⟩:Option Addr) else some ⟨g,1,none⟩)=q5:=⟨_,rfl⟩;obtain ⟨g',off',hq,hgb,d0⟩:=strAt hls (j:=0) rfl;injection hq with hq;injection hq with hq1 hq2;subst hq1;have hq3:off'=0:=hq2.symm;subst hq3;obtain ⟨Y,HY⟩:∃ Y,w1.alloc (.cells #[.int .i64 0,.int .i64 0,.int .i64 0,.int .i64 0,.string ⟨#[]⟩,.slice none 0 0,.slice none 0 0] 42)=Y:=⟨_,rfl⟩;have bY:Below w1.heap.size w1 Y:=(by rw [<- HY];exact (Below.refl _ _).alloc (Nat.le_refl _) _);have hY:Y.heap[w1.heap.size]? = some (.cells #[.int .i64 0,.int .i64 0,.int .i64 0,.int .i64 0,.string ⟨#[]⟩,.slice none 0 0,.slice none 0 0] 42 (0,0)):=(by rw [<- HY];exact box_new _ _);have d1:=(bY.cell (p:=⟨g,0 + 0,none⟩) hgb).trans d0;rw [Nat.add_zero] at d1;have HLT:=hide (by rw [<- HQ5];exact sl_tail hls:SlOf encS 1 w1 q5 (cp - 1) rest);have HWS:=hide hws;have B1:=hide b1;have BY:=hide bY;have HYB:=hide hY;have HLE:=hide (words_len hws);clear hls hlc hown hws b1 bY hY d0 hq2)
 obtain ⟨h1,a,b,args,rfl,hb⟩:=uh HYES x rest (uh HWS)
 have e1:(x.toList == [99,97,108,108])=true:=by rw [ByteArray.toList_eq];show (Lb x == _)=true;rw [h1];rfl
 have hq5:q5=some ⟨g,1,none⟩:=by rw [<- HQ5,if_neg (by simp at n2;omega)]
 subst hq5
 have f1:(b.toList == [115,117,98])=false:=by rw [ByteArray.toList_eq];exact beq_eq_false_iff_ne.2 hb.1
 have f2:(b.toList == [114,101,112,108,97,99,101])=false:=by rw [ByteArray.toList_eq];exact beq_eq_false_iff_ne.2 hb.2.1
 have f3:(b.toList == [117,110,115,117,98])=false:=by rw [ByteArray.toList_eq];exact beq_eq_false_iff_ne.2 hb.2.2.1
 have f4:(b.toList == [109,97,116,99,104])=false:=by rw [ByteArray.toList_eq];exact beq_eq_false_iff_ne.2 hb.2.2.2
 cases args with
 | nil =>
  obtain ⟨g0,o0,q0,hgb,dA⟩:=strAt (uh HLT) (j:=0) rfl
  injection q0 with q0
  injection q0 with u0 v0
  subst u0 v0
  rw [show 1 + 0=1 from rfl] at dA
  have Z0:=hide (show a.size<=1048576 by have:=(uh HLE).2 a (by simp);omega)
  obtain ⟨g1,o1,q1,hgb,dB⟩:=strAt (uh HLT) (j:=1) rfl
  injection q1 with q1
  injection q1 with u1 v1
  subst u1 v1
  rw [show 1 + 1=2 from rfl] at dB
  have Z1:=hide (show b.size<=1048576 by have:=(uh HLE).2 b (by simp);omega)
  have HRF:=hide (show rfOp (Lb s)=⟨1,numR (Lb a),0,0,⟨#[]⟩,[],[]⟩ by
   unfold rfOp
   rw [<- uh HWS]
   simp only [List.map_cons]
   unfold rfWs
   rw [show kindOfW opW 7 (Lb x)=1 by rw [h1];decide,if_pos rfl]
   show rfCall (numR (Lb a)) (kindOfW callW 4 (Lb b)) _=_
   rw [show kindOfW callW 4 (Lb b)=0 by exact kind4 hb.1 hb.2.1 hb.2.2.1 hb.2.2.2]
   rfl)
  have AA:True:=trivial
  obtain ⟨y0,y1,y2,y3,y4,y5,y6,yf⟩:=of7z (uh HYB)
  have ys0:Y.cell? ⟨g,1,none⟩=some (.string a):=((uh BY).cell (p:=⟨g,1,none⟩) hgb).trans dA
  have ys1:Y.cell? ⟨g,2,none⟩=some (.string b):=((uh BY).cell (p:=⟨g,2,none⟩) hgb).trans dB
  obtain ⟨Y2,HY2⟩:∃ Z,Y.setCell ⟨w1.heap.size,0,none⟩ (.int .i64 1)=Z:=⟨_,rfl⟩
  have gY2:Y.grownBy Y2 (some w1.heap.size):=(by rw [<- HY2];exact gr_set (gr_refl _ _) _ _)
  have hY2:Y2.heap[w1.heap.size]? = some (.cells #[.int .i64 1,.int .i64 0,.int .i64 0,.int .i64 0,.string ⟨#[]⟩,.slice none 0 0,.slice none 0 0] 42 (0,0)):=(by rw [<- HY2];exact set7_0 (uh HYB) _)
  have bY2:Below w1.heap.size w1 Y2:=below_tr (uh BY) (below_gr gY2 (heap_lt (uh HYB)))
  obtain ⟨p20,p21,p22,p23,p24,p25,p26,p2f⟩:=of7z hY2
  have p2s0:Y2.cell? ⟨g,1,none⟩=some (.string a):=(bY2.cell (p:=⟨g,1,none⟩) hgb).trans dA
  have p2s1:Y2.cell? ⟨g,2,none⟩=some (.string b):=(bY2.cell (p:=⟨g,2,none⟩) hgb).trans dB
  obtain ⟨Y3,HY3⟩:∃ Z,Y2.setCell ⟨w1.heap.size,1,none⟩ (.int .i64 (numR (Lb a)))=Z:=⟨_,rfl⟩
  have gY3:Y2.grownBy Y3 (some w1.heap.size):=(by rw [<- HY3];exact gr_set (gr_refl _ _) _ _)
  have hY3:Y3.heap[w1.heap.size]? = some (.cells #[.int .i64 1,.int .i64 (numR (Lb a)),.int .i64 0,.int .i64 0,.string ⟨#[]⟩,.slice none 0 0,.slice none 0 0] 42 (0,0)):=(by rw [<- HY3];exact set7_1 hY2 _)
  have bY3:Below w1.heap.size w1 Y3:=below_tr bY2 (below_gr gY3 (heap_lt hY2))
  obtain ⟨p30,p31,p32,p33,p34,p35,p36,p3f⟩:=of7z hY3
  have p3s0:Y3.cell? ⟨g,1,none⟩=some (.string a):=(bY3.cell (p:=⟨g,1,none⟩) hgb).trans dA
  have p3s1:Y3.cell? ⟨g,2,none⟩=some (.string b):=(bY3.cell (p:=⟨g,2,none⟩) hgb).trans dB
  have hxx:Y3.heap[w.heap.size]? = some (.cells #[.int .i64 0,.int .i64 0,.int .i64 0,.int .i64 0,.string ⟨#[]⟩,.slice none 0 0,.slice none 0 0] 42 (0,0)):=blk_onS (blk_onS (uh HXB) (uh B1)) bY3
  obtain ⟨hres,hg4⟩:=set7_all hxx (.int .i64 1) (.int .i64 (numR (Lb a))) (.int .i64 0) (.int .i64 0) (.string ⟨#[]⟩) (.slice none 0 0) (.slice none 0 0)
  obtain ⟨W9,HW9⟩:∃ Z,(((((((Y3.setCell ⟨w.heap.size,0,none⟩ (.int .i64 1)).setCell ⟨w.heap.size,1,none⟩ (.int .i64 (numR (Lb a)))).setCell ⟨w.heap.size,2,none⟩ (.int .i64 0)).setCell ⟨w.heap.size,3,none⟩ (.int .i64 0)).setCell ⟨w.heap.size,4,none⟩ (.string ⟨#[]⟩)).setCell ⟨w.heap.size,5,none⟩ (.slice none 0 0)).setCell ⟨w.heap.size,6,none⟩ (.slice none 0 0))=Z:=⟨_,rfl⟩
  rw [HW9] at hres hg4
  have HRES:=hide hres
  have HBE:=hide (below_tr (below_sub (below_sub (uh BX) (uh B1)) bY3) (below_gr hg4 (heap_lt hxx)))
  obtain ⟨x0,x1,x2,x3,x4,x5,x6,xf⟩:=of7z hxx
  have hne1:¬ w.heap.size=w1.heap.size:=(by have:=heap_lt (blk_onS (uh HXB) (uh B1));omega)
  have hne2:¬ w1.heap.size=w.heap.size:=(by omega)
  clear hxx hres hg4
  clear hY3 bY3 gY3 hY2 bY2 gY2
  have n3:(3:Int)<=(cp:Int):=by simp only [List.length_cons] at n2;omega
  clear h1 hb hgb n2 dA dB
  go_wp2_with (have tc:=AA;clear tc;go_at_call 74;refine (refNumber_any a _ (by have:=uh Z0;omega)).mono ?_;rintro e wq ⟨rfl,rfl⟩;clear AA)
  all_goals refine bodyPost_ret (results_cell_row rfl _ _ w.heap.size 42 _ (0,0) _ rfl (uh HRES) Tryz.underlying42 rfl Tryz.info42s) rfl ?_
  all_goals exact ⟨⟨⟨1,numR (Lb a),0,0,⟨#[]⟩,none,0,0,none,0,0⟩,rfl,by rw [uh HRF];exact ⟨rfl,rfl,rfl,rfl,rfl,rfl,rfl,OwnK.nil _ _,OwnK.nil _ _⟩⟩,uh HBE⟩
 | cons c r =>
  obtain ⟨g0,o0,q0,hgb,dA⟩:=strAt (uh HLT) (j:=0) rfl
  injection q0 with q0
  injection q0 with u0 v0
  subst u0 v0
  rw [show 1 + 0=1 from rfl] at dA
  have Z0:=hide (show a.size<=1048576 by have:=(uh HLE).2 a (by simp);omega)
  obtain ⟨g1,o1,q1,hgb,dB⟩:=strAt (uh HLT) (j:=1) rfl
  injection q1 with q1
  injection q1 with u1 v1
  subst u1 v1
  rw [show 1 + 1=2 from rfl] at dB
  have Z1:=hide (show b.size<=1048576 by have:=(uh HLE).2 b (by simp);omega)
  obtain ⟨g2,o2,q2,hgb,dC⟩:=strAt (uh HLT) (j:=2) rfl
  injection q2 with q2
  injection q2 with u2 v2
  subst u2 v2
  rw [show 1 + 2=3 from rfl] at dC
  have Z2:=hide (show c.size<=1048576 by have:=(uh HLE).2 c (by simp);omega)
  have HRF:=hide (show rfOp (Lb s)=⟨1,numR (Lb a),0,0,(unqV (Lb c)),[],[]⟩ by
   unfold rfOp
   rw [<- uh HWS]
   simp only [List.map_cons]
   unfold rfWs
   rw [show kindOfW opW 7 (Lb x)=1 by rw [h1];decide,if_pos rfl]
   show rfCall (numR (Lb a)) (kindOfW callW 4 (Lb b)) _=_
   rw [show kindOfW callW 4 (Lb b)=0 by exact kind4 hb.1 hb.2.1 hb.2.2.1 hb.2.2.2]
   rfl)
  have AA:True:=trivial
  obtain ⟨y0,y1,y2,y3,y4,y5,y6,yf⟩:=of7z (uh HYB)
  have ys0:Y.cell? ⟨g,1,none⟩=some (.string a):=((uh BY).cell (p:=⟨g,1,none⟩) hgb).trans dA
  have ys1:Y.cell? ⟨g,2,none⟩=some (.string b):=((uh BY).cell (p:=⟨g,2,none⟩) hgb).trans dB
  have ys2:Y.cell? ⟨g,3,none⟩=some (.string c):=((uh BY).cell (p:=⟨g,3,none⟩) hgb).trans dC
  obtain ⟨Y2,HY2⟩:∃ Z,Y.setCell ⟨w1.heap.size,0,none⟩ (.int .i64 1)=Z:=⟨_,rfl⟩
  have gY2:Y.grownBy Y2 (some w1.heap.size):=(by rw [<- HY2];exact gr_set (gr_refl _ _) _ _)
  have hY2:Y2.heap[w1.heap.size]? = some (.cells #[.int .i64 1,.int .i64 0,.int .i64 0,.int .i64 0,.string ⟨#[]⟩,.slice none 0 0,.slice none 0 0] 42 (0,0)):=(by rw [<- HY2];exact set7_0 (uh HYB) _)
  have bY2:Below w1.heap.size w1 Y2:=below_tr (uh BY) (below_gr gY2 (heap_lt (uh HYB)))
  obtain ⟨p20,p21,p22,p23,p24,p25,p26,p2f⟩:=of7z hY2
  have p2s0:Y2.cell? ⟨g,1,none⟩=some (.string a):=(bY2.cell (p:=⟨g,1,none⟩) hgb).trans dA
  have p2s1:Y2.cell? ⟨g,2,none⟩=some (.string b):=(bY2.cell (p:=⟨g,2,none⟩) hgb).trans dB
  have p2s2:Y2.cell? ⟨g,3,none⟩=some (.string c):=(bY2.cell (p:=⟨g,3,none⟩) hgb).trans dC
  obtain ⟨Y3,HY3⟩:∃ Z,Y2.setCell ⟨w1.heap.size,1,none⟩ (.int .i64 (numR (Lb a)))=Z:=⟨_,rfl⟩
  have gY3:Y2.grownBy Y3 (some w1.heap.size):=(by rw [<- HY3];exact gr_set (gr_refl _ _) _ _)
  have hY3:Y3.heap[w1.heap.size]? = some (.cells #[.int .i64 1,.int .i64 (numR (Lb a)),.int .i64 0,.int .i64 0,.string ⟨#[]⟩,.slice none 0 0,.slice none 0 0] 42 (0,0)):=(by rw [<- HY3];exact set7_1 hY2 _)
  have bY3:Below w1.heap.size w1 Y3:=below_tr bY2 (below_gr gY3 (heap_lt hY2))
  obtain ⟨p30,p31,p32,p33,p34,p35,p36,p3f⟩:=of7z hY3
  have p3s0:Y3.cell? ⟨g,1,none⟩=some (.string a):=(bY3.cell (p:=⟨g,1,none⟩) hgb).trans dA
  have p3s1:Y3.cell? ⟨g,2,none⟩=some (.string b):=(bY3.cell (p:=⟨g,2,none⟩) hgb).trans dB
  have p3s2:Y3.cell? ⟨g,3,none⟩=some (.string c):=(bY3.cell (p:=⟨g,3,none⟩) hgb).trans dC
  have HHc:=hide hY3
  have HBc:=hide bY3
  clear hY3 bY3 gY3 hY2 bY2 gY2
  have n3:(4:Int)<=(cp:Int):=by simp only [List.length_cons] at n2;omega
  have n4:¬ cp - 1=2:=by omega
  clear h1 hb hgb n2 dA dB dC
  go_wp2_with (first | (have tc:=AA;clear tc;go_at_call 74;refine (refNumber_any a _ (by have:=uh Z0;omega)).mono ?_;rintro e wq ⟨rfl,rfl⟩;clear AA) | (go_at_call 76;refine (refUnq_val c _ (uh Z2)).mono ?_;rintro e w3 ⟨⟨E,rfl⟩,b3⟩;obtain ⟨V,HV⟩:∃ Z,Z=w3:=⟨_,rfl⟩;subst HV;have hV:=blk_onS (uh HHc) b3;have bV:=below_sub (uh HBc) b3;obtain ⟨v0,v1,v2,v3,v4,v5,v6,vf⟩:=of7z hV;obtain ⟨Y5,HY5⟩:∃ Z,V.setCell ⟨w1.heap.size,4,none⟩ (.string (unqV (Lb c)))=Z:=⟨_,rfl⟩;have gY5:V.grownBy Y5 (some w1.heap.size):=(by rw [<- HY5];exact gr_set (gr_refl _ _) _ _);have hY5:Y5.heap[w1.heap.size]? = some (.cells #[.int .i64 1,.int .i64 (numR (Lb a)),.int .i64 0,.int .i64 0,.string (unqV (Lb c)),.slice none 0 0,.slice none 0 0] 42 (0,0)):=(by rw [<- HY5];exact set7_4 hV _);have bY5:Below w1.heap.size w1 Y5:=below_tr bV (below_gr gY5 (heap_lt hV));obtain ⟨p50,p51,p52,p53,p54,p55,p56,p5f⟩:=of7z hY5;have hxx:Y5.heap[w.heap.size]? = some (.cells #[.int .i64 0,.int .i64 0,.int .i64 0,.int .i64 0,.string ⟨#[]⟩,.slice none 0 0,.slice none 0 0] 42 (0,0)):=blk_onS (blk_onS (uh HXB) (uh B1)) bY5;obtain ⟨hres,hg4⟩:=set7_all hxx (.int .i64 1) (.int .i64 (numR (Lb a))) (.int .i64 0) (.int .i64 0) (.string (unqV (Lb c))) (.slice none 0 0) (.slice none 0 0);obtain ⟨W9,HW9⟩:∃ Z,(((((((Y5.setCell ⟨w.heap.size,0,none⟩ (.int .i64 1)).setCell ⟨w.heap.size,1,none⟩ (.int .i64 (numR (Lb a)))).setCell ⟨w.heap.size,2,none⟩ (.int .i64 0)).setCell ⟨w.heap.size,3,none⟩ (.int .i64 0)).setCell ⟨w.heap.size,4,none⟩ (.string (unqV (Lb c)))).setCell ⟨w.heap.size,5,none⟩ (.slice none 0 0)).setCell ⟨w.heap.size,6,none⟩ (.slice none 0 0))=Z:=⟨_,rfl⟩;rw [HW9] at hres hg4;have HRES:=hide hres;have HBE:=hide (below_tr (below_sub (below_sub (uh BX) (uh B1)) bY5) (below_gr hg4 (heap_lt hxx)));obtain ⟨x0,x1,x2,x3,x4,x5,x6,xf⟩:=of7z hxx;have hne1:¬ w.heap.size=w1.heap.size:=(by have:=heap_lt (blk_onS (uh HXB) (uh B1));omega);have hne2:¬ w1.heap.size=w.heap.size:=(by omega);clear hxx hres hg4;clear hY5 bY5 gY5 hV bV b3))
  all_goals refine bodyPost_ret (results_cell_row rfl _ _ w.heap.size 42 _ (0,0) _ rfl (uh HRES) Tryz.underlying42 rfl Tryz.info42s) rfl ?_
  all_goals exact ⟨⟨⟨1,numR (Lb a),0,0,(unqV (Lb c)),none,0,0,none,0,0⟩,rfl,by rw [uh HRF];exact ⟨rfl,rfl,rfl,rfl,rfl,rfl,rfl,OwnK.nil _ _,OwnK.nil _ _⟩⟩,uh HBE⟩
set_option maxHeartbeats 16000000 in
set_option maxRecDepth 100000 in
theorem reads_c1 (s:ByteArray) (w:World) (hz:s.size<=1048576) (hyes:∀ (x:ByteArray) (rest:List ByteArray),(x :: rest).map Lb=cutL (Lb s)->Lb x=wCall/\∃ a b args,rest=a :: b :: args/\Lb b=wSub) :
  Calls Tryz.prog 45 #[.string s] w fun e w'=>(∃ u:Ou,e=.returned u.val/\OpOwn w.heap.size w' u (rfOp (Lb s)))/\Below w.heap.size w w':=by
 have mixed:Tryz.prog.follows .mixedOrders=true:=by kernel_rfl
 obtain ⟨X,HX⟩:∃ X,w.alloc (.cells #[.int .i64 0,.int .i64 0,.int .i64 0,.int .i64 0,.string ⟨#[]⟩,.slice none 0 0,.slice none 0 0] 42)=X:=⟨_,rfl⟩
 have bX:Below w.heap.size w X:=by rw [<- HX];exact (Below.refl _ _).alloc (Nat.le_refl _) _
 have hX:X.heap[w.heap.size]? = some (.cells #[.int .i64 0,.int .i64 0,.int .i64 0,.int .i64 0,.string ⟨#[]⟩,.slice none 0 0,.slice none 0 0] 42 (0,0)):=by rw [<- HX];exact box_new _ _
 have HC:=hide (refCut_any s X (by omega))
 have HXB:=hide hX
 have BX:=hide bX
 have HYES:=hide hyes
 clear bX hX hyes
 go_enter Tryz.func45,Tryz.ntmps45
 go_upto_region 5 with (go_at_call 43;refine (uh HC).mono ?_;rintro e w1 ⟨⟨q,cp,ws,rfl,hws,hown⟩,b1⟩;obtain ⟨x,rest,rfl⟩:=words_ne hws;obtain ⟨g,rfl⟩:=own_some hown;have hls:=hown.ls;have hlc:=hls.2.1;have n2:((rest.length:Int) + 1)<=(cp:Int):=(by simp at hlc;omega);obtain ⟨q5,HQ5⟩:∃ q5,(if cp=1 then (some ⟨g,0,none⟩:Option Addr) else some ⟨g,1,none⟩)=q5:=⟨_,rfl⟩;obtain ⟨g',off',hq,hgb,d0⟩:=strAt hls (j:=0) rfl;injection hq with hq;injection hq with hq1 hq2;subst hq1;have hq3:off'=0:=hq2.symm;subst hq3;obtain ⟨Y,HY⟩:∃ Y,w1.alloc (.cells #[.int .i64 0,.int .i64 0,.int .i64 0,.int .i64 0,.string ⟨#[]⟩,.slice none 0 0,.slice none 0 0] 42)=Y:=⟨_,rfl⟩;have bY:Below w1.heap.size w1 Y:=(by rw [<- HY];exact (Below.refl _ _).alloc (Nat.le_refl _) _);have hY:Y.heap[w1.heap.size]? = some (.cells #[.int .i64 0,.int .i64 0,.int .i64 0,.int .i64 0,.string ⟨#[]⟩,.slice none 0 0,.slice none 0 0] 42 (0,0)):=(by rw [<- HY];exact box_new _ _);have d1:=(bY.cell (p:=⟨g,0 + 0,none⟩) hgb).trans d0;rw [Nat.add_zero] at d1;have HLT:=hide (by rw [<- HQ5];exact sl_tail hls:SlOf encS 1 w1 q5 (cp - 1) rest);have HWS:=hide hws;have B1:=hide b1;have BY:=hide bY;have HYB:=hide hY;have HLE:=hide (words_len hws);clear hls hlc hown hws b1 bY hY d0 hq2)
 obtain ⟨h1,a,b,args,rfl,hb⟩:=uh HYES x rest (uh HWS)
 have e1:(x.toList == [99,97,108,108])=true:=by rw [ByteArray.toList_eq];show (Lb x == _)=true;rw [h1];rfl
 have hq5:q5=some ⟨g,1,none⟩:=by rw [<- HQ5,if_neg (by simp at n2;omega)]
 subst hq5
 have f1:(b.toList == [115,117,98])=true:=by rw [ByteArray.toList_eq];show (Lb b == _)=true;rw [hb];rfl
 cases args with
 | nil =>
  obtain ⟨g0,o0,q0,hgb,dA⟩:=strAt (uh HLT) (j:=0) rfl
  injection q0 with q0
  injection q0 with u0 v0
  subst u0 v0
  rw [show 1 + 0=1 from rfl] at dA
  have Z0:=hide (show a.size<=1048576 by have:=(uh HLE).2 a (by simp);omega)
  obtain ⟨g1,o1,q1,hgb,dB⟩:=strAt (uh HLT) (j:=1) rfl
  injection q1 with q1
  injection q1 with u1 v1
  subst u1 v1
  rw [show 1 + 1=2 from rfl] at dB
  have Z1:=hide (show b.size<=1048576 by have:=(uh HLE).2 b (by simp);omega)
  have HRF:=hide (show rfOp (Lb s)=⟨1,numR (Lb a),1,0,⟨#[]⟩,[],[]⟩ by
   unfold rfOp
   rw [<- uh HWS]
   simp only [List.map_cons]
   unfold rfWs
   rw [show kindOfW opW 7 (Lb x)=1 by rw [h1];decide,if_pos rfl]
   show rfCall (numR (Lb a)) (kindOfW callW 4 (Lb b)) _=_
   rw [show kindOfW callW 4 (Lb b)=1 by rw [hb];decide]
   rfl)
  have AA:True:=trivial
  obtain ⟨y0,y1,y2,y3,y4,y5,y6,yf⟩:=of7z (uh HYB)
  have ys0:Y.cell? ⟨g,1,none⟩=some (.string a):=((uh BY).cell (p:=⟨g,1,none⟩) hgb).trans dA
  have ys1:Y.cell? ⟨g,2,none⟩=some (.string b):=((uh BY).cell (p:=⟨g,2,none⟩) hgb).trans dB
  obtain ⟨Y2,HY2⟩:∃ Z,Y.setCell ⟨w1.heap.size,0,none⟩ (.int .i64 1)=Z:=⟨_,rfl⟩
  have gY2:Y.grownBy Y2 (some w1.heap.size):=(by rw [<- HY2];exact gr_set (gr_refl _ _) _ _)
  have hY2:Y2.heap[w1.heap.size]? = some (.cells #[.int .i64 1,.int .i64 0,.int .i64 0,.int .i64 0,.string ⟨#[]⟩,.slice none 0 0,.slice none 0 0] 42 (0,0)):=(by rw [<- HY2];exact set7_0 (uh HYB) _)
  have bY2:Below w1.heap.size w1 Y2:=below_tr (uh BY) (below_gr gY2 (heap_lt (uh HYB)))
  obtain ⟨p20,p21,p22,p23,p24,p25,p26,p2f⟩:=of7z hY2
  have p2s0:Y2.cell? ⟨g,1,none⟩=some (.string a):=(bY2.cell (p:=⟨g,1,none⟩) hgb).trans dA
  have p2s1:Y2.cell? ⟨g,2,none⟩=some (.string b):=(bY2.cell (p:=⟨g,2,none⟩) hgb).trans dB
  obtain ⟨Y3,HY3⟩:∃ Z,Y2.setCell ⟨w1.heap.size,1,none⟩ (.int .i64 (numR (Lb a)))=Z:=⟨_,rfl⟩
  have gY3:Y2.grownBy Y3 (some w1.heap.size):=(by rw [<- HY3];exact gr_set (gr_refl _ _) _ _)
  have hY3:Y3.heap[w1.heap.size]? = some (.cells #[.int .i64 1,.int .i64 (numR (Lb a)),.int .i64 0,.int .i64 0,.string ⟨#[]⟩,.slice none 0 0,.slice none 0 0] 42 (0,0)):=(by rw [<- HY3];exact set7_1 hY2 _)
  have bY3:Below w1.heap.size w1 Y3:=below_tr bY2 (below_gr gY3 (heap_lt hY2))
  obtain ⟨p30,p31,p32,p33,p34,p35,p36,p3f⟩:=of7z hY3
  have p3s0:Y3.cell? ⟨g,1,none⟩=some (.string a):=(bY3.cell (p:=⟨g,1,none⟩) hgb).trans dA
  have p3s1:Y3.cell? ⟨g,2,none⟩=some (.string b):=(bY3.cell (p:=⟨g,2,none⟩) hgb).trans dB
  obtain ⟨Y4,HY4⟩:∃ Z,Y3.setCell ⟨w1.heap.size,2,none⟩ (.int .i64 1)=Z:=⟨_,rfl⟩
  have gY4:Y3.grownBy Y4 (some w1.heap.size):=(by rw [<- HY4];exact gr_set (gr_refl _ _) _ _)
  have hY4:Y4.heap[w1.heap.size]? = some (.cells #[.int .i64 1,.int .i64 (numR (Lb a)),.int .i64 1,.int .i64 0,.string ⟨#[]⟩,.slice none 0 0,.slice none 0 0] 42 (0,0)):=(by rw [<- HY4];exact set7_2 hY3 _)
  have bY4:Below w1.heap.size w1 Y4:=below_tr bY3 (below_gr gY4 (heap_lt hY3))
  obtain ⟨p40,p41,p42,p43,p44,p45,p46,p4f⟩:=of7z hY4
  have p4s0:Y4.cell? ⟨g,1,none⟩=some (.string a):=(bY4.cell (p:=⟨g,1,none⟩) hgb).trans dA
  have p4s1:Y4.cell? ⟨g,2,none⟩=some (.string b):=(bY4.cell (p:=⟨g,2,none⟩) hgb).trans dB
  have hxx:Y4.heap[w.heap.size]? = some (.cells #[.int .i64 0,.int .i64 0,.int .i64 0,.int .i64 0,.string ⟨#[]⟩,.slice none 0 0,.slice none 0 0] 42 (0,0)):=blk_onS (blk_onS (uh HXB) (uh B1)) bY4
  obtain ⟨hres,hg4⟩:=set7_all hxx (.int .i64 1) (.int .i64 (numR (Lb a))) (.int .i64 1) (.int .i64 0) (.string ⟨#[]⟩) (.slice none 0 0) (.slice none 0 0)
  obtain ⟨W9,HW9⟩:∃ Z,(((((((Y4.setCell ⟨w.heap.size,0,none⟩ (.int .i64 1)).setCell ⟨w.heap.size,1,none⟩ (.int .i64 (numR (Lb a)))).setCell ⟨w.heap.size,2,none⟩ (.int .i64 1)).setCell ⟨w.heap.size,3,none⟩ (.int .i64 0)).setCell ⟨w.heap.size,4,none⟩ (.string ⟨#[]⟩)).setCell ⟨w.heap.size,5,none⟩ (.slice none 0 0)).setCell ⟨w.heap.size,6,none⟩ (.slice none 0 0))=Z:=⟨_,rfl⟩
  rw [HW9] at hres hg4
  have HRES:=hide hres
  have HBE:=hide (below_tr (below_sub (below_sub (uh BX) (uh B1)) bY4) (below_gr hg4 (heap_lt hxx)))
  obtain ⟨x0,x1,x2,x3,x4,x5,x6,xf⟩:=of7z hxx
  have hne1:¬ w.heap.size=w1.heap.size:=(by have:=heap_lt (blk_onS (uh HXB) (uh B1));omega)
  have hne2:¬ w1.heap.size=w.heap.size:=(by omega)
  clear hxx hres hg4
  clear hY4 bY4 gY4 hY3 bY3 gY3 hY2 bY2 gY2
  have n3:(3:Int)<=(cp:Int):=by simp only [List.length_cons] at n2;omega
  clear h1 hb hgb n2 dA dB
  go_wp2_with (have tc:=AA;clear tc;go_at_call 74;refine (refNumber_any a _ (by have:=uh Z0;omega)).mono ?_;rintro e wq ⟨rfl,rfl⟩;clear AA)
  all_goals refine bodyPost_ret (results_cell_row rfl _ _ w.heap.size 42 _ (0,0) _ rfl (uh HRES) Tryz.underlying42 rfl Tryz.info42s) rfl ?_
  all_goals exact ⟨⟨⟨1,numR (Lb a),1,0,⟨#[]⟩,none,0,0,none,0,0⟩,rfl,by rw [uh HRF];exact ⟨rfl,rfl,rfl,rfl,rfl,rfl,rfl,OwnK.nil _ _,OwnK.nil _ _⟩⟩,uh HBE⟩
 | cons c r =>
  obtain ⟨g0,o0,q0,hgb,dA⟩:=strAt (uh HLT) (j:=0) rfl
  injection q0 with q0
  injection q0 with u0 v0
  subst u0 v0
  rw [show 1 + 0=1 from rfl] at dA
  have Z0:=hide (show a.size<=1048576 by have:=(uh HLE).2 a (by simp);omega)
  obtain ⟨g1,o1,q1,hgb,dB⟩:=strAt (uh HLT) (j:=1) rfl
  injection q1 with q1
  injection q1 with u1 v1
  subst u1 v1
  rw [show 1 + 1=2 from rfl] at dB
  have Z1:=hide (show b.size<=1048576 by have:=(uh HLE).2 b (by simp);omega)
  obtain ⟨g2,o2,q2,hgb,dC⟩:=strAt (uh HLT) (j:=2) rfl
  injection q2 with q2
  injection q2 with u2 v2
  subst u2 v2
  rw [show 1 + 2=3 from rfl] at dC
  have Z2:=hide (show c.size<=1048576 by have:=(uh HLE).2 c (by simp);omega)
  have HRF:=hide (show rfOp (Lb s)=⟨1,numR (Lb a),1,0,(unqV (Lb c)),[],[]⟩ by
   unfold rfOp
   rw [<- uh HWS]
   simp only [List.map_cons]
   unfold rfWs
   rw [show kindOfW opW 7 (Lb x)=1 by rw [h1];decide,if_pos rfl]
   show rfCall (numR (Lb a)) (kindOfW callW 4 (Lb b)) _=_
   rw [show kindOfW callW 4 (Lb b)=1 by rw [hb];decide]
   rfl)
  have AA:True:=trivial
  obtain ⟨y0,y1,y2,y3,y4,y5,y6,yf⟩:=of7z (uh HYB)
  have ys0:Y.cell? ⟨g,1,none⟩=some (.string a):=((uh BY).cell (p:=⟨g,1,none⟩) hgb).trans dA
  have ys1:Y.cell? ⟨g,2,none⟩=some (.string b):=((uh BY).cell (p:=⟨g,2,none⟩) hgb).trans dB
  have ys2:Y.cell? ⟨g,3,none⟩=some (.string c):=((uh BY).cell (p:=⟨g,3,none⟩) hgb).trans dC
  obtain ⟨Y2,HY2⟩:∃ Z,Y.setCell ⟨w1.heap.size,0,none⟩ (.int .i64 1)=Z:=⟨_,rfl⟩
  have gY2:Y.grownBy Y2 (some w1.heap.size):=(by rw [<- HY2];exact gr_set (gr_refl _ _) _ _)
  have hY2:Y2.heap[w1.heap.size]? = some (.cells #[.int .i64 1,.int .i64 0,.int .i64 0,.int .i64 0,.string ⟨#[]⟩,.slice none 0 0,.slice none 0 0] 42 (0,0)):=(by rw [<- HY2];exact set7_0 (uh HYB) _)
  have bY2:Below w1.heap.size w1 Y2:=below_tr (uh BY) (below_gr gY2 (heap_lt (uh HYB)))
  obtain ⟨p20,p21,p22,p23,p24,p25,p26,p2f⟩:=of7z hY2
  have p2s0:Y2.cell? ⟨g,1,none⟩=some (.string a):=(bY2.cell (p:=⟨g,1,none⟩) hgb).trans dA
  have p2s1:Y2.cell? ⟨g,2,none⟩=some (.string b):=(bY2.cell (p:=⟨g,2,none⟩) hgb).trans dB
  have p2s2:Y2.cell? ⟨g,3,none⟩=some (.string c):=(bY2.cell (p:=⟨g,3,none⟩) hgb).trans dC
  obtain ⟨Y3,HY3⟩:∃ Z,Y2.setCell ⟨w1.heap.size,1,none⟩ (.int .i64 (numR (Lb a)))=Z:=⟨_,rfl⟩
  have gY3:Y2.grownBy Y3 (some w1.heap.size):=(by rw [<- HY3];exact gr_set (gr_refl _ _) _ _)
  have hY3:Y3.heap[w1.heap.size]? = some (.cells #[.int .i64 1,.int .i64 (numR (Lb a)),.int .i64 0,.int .i64 0,.string ⟨#[]⟩,.slice none 0 0,.slice none 0 0] 42 (0,0)):=(by rw [<- HY3];exact set7_1 hY2 _)
  have bY3:Below w1.heap.size w1 Y3:=below_tr bY2 (below_gr gY3 (heap_lt hY2))
  obtain ⟨p30,p31,p32,p33,p34,p35,p36,p3f⟩:=of7z hY3
  have p3s0:Y3.cell? ⟨g,1,none⟩=some (.string a):=(bY3.cell (p:=⟨g,1,none⟩) hgb).trans dA
  have p3s1:Y3.cell? ⟨g,2,none⟩=some (.string b):=(bY3.cell (p:=⟨g,2,none⟩) hgb).trans dB
  have p3s2:Y3.cell? ⟨g,3,none⟩=some (.string c):=(bY3.cell (p:=⟨g,3,none⟩) hgb).trans dC
  obtain ⟨Y4,HY4⟩:∃ Z,Y3.setCell ⟨w1.heap.size,2,none⟩ (.int .i64 1)=Z:=⟨_,rfl⟩
  have gY4:Y3.grownBy Y4 (some w1.heap.size):=(by rw [<- HY4];exact gr_set (gr_refl _ _) _ _)
  have hY4:Y4.heap[w1.heap.size]? = some (.cells #[.int .i64 1,.int .i64 (numR (Lb a)),.int .i64 1,.int .i64 0,.string ⟨#[]⟩,.slice none 0 0,.slice none 0 0] 42 (0,0)):=(by rw [<- HY4];exact set7_2 hY3 _)
  have bY4:Below w1.heap.size w1 Y4:=below_tr bY3 (below_gr gY4 (heap_lt hY3))
  obtain ⟨p40,p41,p42,p43,p44,p45,p46,p4f⟩:=of7z hY4
  have p4s0:Y4.cell? ⟨g,1,none⟩=some (.string a):=(bY4.cell (p:=⟨g,1,none⟩) hgb).trans dA
  have p4s1:Y4.cell? ⟨g,2,none⟩=some (.string b):=(bY4.cell (p:=⟨g,2,none⟩) hgb).trans dB
  have p4s2:Y4.cell? ⟨g,3,none⟩=some (.string c):=(bY4.cell (p:=⟨g,3,none⟩) hgb).trans dC
  have HHc:=hide hY4
  have HBc:=hide bY4
  clear hY4 bY4 gY4 hY3 bY3 gY3 hY2 bY2 gY2
  have n3:(4:Int)<=(cp:Int):=by simp only [List.length_cons] at n2;omega
  have n4:¬ cp - 1=2:=by omega
  clear h1 hb hgb n2 dA dB dC
  go_wp2_with (first | (have tc:=AA;clear tc;go_at_call 74;refine (refNumber_any a _ (by have:=uh Z0;omega)).mono ?_;rintro e wq ⟨rfl,rfl⟩;clear AA) | (go_at_call 76;refine (refUnq_val c _ (uh Z2)).mono ?_;rintro e w3 ⟨⟨E,rfl⟩,b3⟩;obtain ⟨V,HV⟩:∃ Z,Z=w3:=⟨_,rfl⟩;subst HV;have hV:=blk_onS (uh HHc) b3;have bV:=below_sub (uh HBc) b3;obtain ⟨v0,v1,v2,v3,v4,v5,v6,vf⟩:=of7z hV;obtain ⟨Y6,HY6⟩:∃ Z,V.setCell ⟨w1.heap.size,4,none⟩ (.string (unqV (Lb c)))=Z:=⟨_,rfl⟩;have gY6:V.grownBy Y6 (some w1.heap.size):=(by rw [<- HY6];exact gr_set (gr_refl _ _) _ _);have hY6:Y6.heap[w1.heap.size]? = some (.cells #[.int .i64 1,.int .i64 (numR (Lb a)),.int .i64 1,.int .i64 0,.string (unqV (Lb c)),.slice none 0 0,.slice none 0 0] 42 (0,0)):=(by rw [<- HY6];exact set7_4 hV _);have bY6:Below w1.heap.size w1 Y6:=below_tr bV (below_gr gY6 (heap_lt hV));obtain ⟨p60,p61,p62,p63,p64,p65,p66,p6f⟩:=of7z hY6;have hxx:Y6.heap[w.heap.size]? = some (.cells #[.int .i64 0,.int .i64 0,.int .i64 0,.int .i64 0,.string ⟨#[]⟩,.slice none 0 0,.slice none 0 0] 42 (0,0)):=blk_onS (blk_onS (uh HXB) (uh B1)) bY6;obtain ⟨hres,hg4⟩:=set7_all hxx (.int .i64 1) (.int .i64 (numR (Lb a))) (.int .i64 1) (.int .i64 0) (.string (unqV (Lb c))) (.slice none 0 0) (.slice none 0 0);obtain ⟨W9,HW9⟩:∃ Z,(((((((Y6.setCell ⟨w.heap.size,0,none⟩ (.int .i64 1)).setCell ⟨w.heap.size,1,none⟩ (.int .i64 (numR (Lb a)))).setCell ⟨w.heap.size,2,none⟩ (.int .i64 1)).setCell ⟨w.heap.size,3,none⟩ (.int .i64 0)).setCell ⟨w.heap.size,4,none⟩ (.string (unqV (Lb c)))).setCell ⟨w.heap.size,5,none⟩ (.slice none 0 0)).setCell ⟨w.heap.size,6,none⟩ (.slice none 0 0))=Z:=⟨_,rfl⟩;rw [HW9] at hres hg4;have HRES:=hide hres;have HBE:=hide (below_tr (below_sub (below_sub (uh BX) (uh B1)) bY6) (below_gr hg4 (heap_lt hxx)));obtain ⟨x0,x1,x2,x3,x4,x5,x6,xf⟩:=of7z hxx;have hne1:¬ w.heap.size=w1.heap.size:=(by have:=heap_lt (blk_onS (uh HXB) (uh B1));omega);have hne2:¬ w1.heap.size=w.heap.size:=(by omega);clear hxx hres hg4;clear hY6 bY6 gY6 hV bV b3))
  all_goals refine bodyPost_ret (results_cell_row rfl _ _ w.heap.size 42 _ (0,0) _ rfl (uh HRES) Tryz.underlying42 rfl Tryz.info42s) rfl ?_
  all_goals exact ⟨⟨⟨1,numR (Lb a),1,0,(unqV (Lb c)),none,0,0,none,0,0⟩,rfl,by rw [uh HRF];exact ⟨rfl,rfl,rfl,rfl,rfl,rfl,rfl,OwnK.nil _ _,OwnK.nil _ _⟩⟩,uh HBE⟩
set_option maxHeartbeats 16000000 in
set_option maxRecDepth 100000 in
theorem reads_c2 (s:ByteArray) (w:World) (hz:s.size<=1048576) (hyes:∀ (x:ByteArray) (rest:List ByteArray),(x :: rest).map Lb=cutL (Lb s)->Lb x=wCall/\∃ a b args,rest=a :: b :: args/\Lb b=wReplace) :
  Calls Tryz.prog 45 #[.string s] w fun e w'=>(∃ u:Ou,e=.returned u.val/\OpOwn w.heap.size w' u (rfOp (Lb s)))/\Below w.heap.size w w':=by
 have mixed:Tryz.prog.follows .mixedOrders=true:=by kernel_rfl
 obtain ⟨X,HX⟩:∃ X,w.alloc (.cells #[.int .i64 0,.int .i64 0,.int .i64 0,.int .i64 0,.string ⟨#[]⟩,.slice none 0 0,.slice none 0 0] 42)=X:=⟨_,rfl⟩
 have bX:Below w.heap.size w X:=by rw [<- HX];exact (Below.refl _ _).alloc (Nat.le_refl _) _
 have hX:X.heap[w.heap.size]? = some (.cells #[.int .i64 0,.int .i64 0,.int .i64 0,.int .i64 0,.string ⟨#[]⟩,.slice none 0 0,.slice none 0 0] 42 (0,0)):=by rw [<- HX];exact box_new _ _
 have HC:=hide (refCut_any s X (by omega))
 have HXB:=hide hX
 have BX:=hide bX
 have HYES:=hide hyes
 clear bX hX hyes
 go_enter Tryz.func45,Tryz.ntmps45
 go_upto_region 5 with (go_at_call 43;refine (uh HC).mono ?_;rintro e w1 ⟨⟨q,cp,ws,rfl,hws,hown⟩,b1⟩;obtain ⟨x,rest,rfl⟩:=words_ne hws;obtain ⟨g,rfl⟩:=own_some hown;have hls:=hown.ls;have hlc:=hls.2.1;have n2:((rest.length:Int) + 1)<=(cp:Int):=(by simp at hlc;omega);obtain ⟨q5,HQ5⟩:∃ q5,(if cp=1 then (some ⟨g,0,none⟩:Option Addr) else some ⟨g,1,none⟩)=q5:=⟨_,rfl⟩;obtain ⟨g',off',hq,hgb,d0⟩:=strAt hls (j:=0) rfl;injection hq with hq;injection hq with hq1 hq2;subst hq1;have hq3:off'=0:=hq2.symm;subst hq3;obtain ⟨Y,HY⟩:∃ Y,w1.alloc (.cells #[.int .i64 0,.int .i64 0,.int .i64 0,.int .i64 0,.string ⟨#[]⟩,.slice none 0 0,.slice none 0 0] 42)=Y:=⟨_,rfl⟩;have bY:Below w1.heap.size w1 Y:=(by rw [<- HY];exact (Below.refl _ _).alloc (Nat.le_refl _) _);have hY:Y.heap[w1.heap.size]? = some (.cells #[.int .i64 0,.int .i64 0,.int .i64 0,.int .i64 0,.string ⟨#[]⟩,.slice none 0 0,.slice none 0 0] 42 (0,0)):=(by rw [<- HY];exact box_new _ _);have d1:=(bY.cell (p:=⟨g,0 + 0,none⟩) hgb).trans d0;rw [Nat.add_zero] at d1;have HLT:=hide (by rw [<- HQ5];exact sl_tail hls:SlOf encS 1 w1 q5 (cp - 1) rest);have HWS:=hide hws;have B1:=hide b1;have BY:=hide bY;have HYB:=hide hY;have HLE:=hide (words_len hws);clear hls hlc hown hws b1 bY hY d0 hq2)
 obtain ⟨h1,a,b,args,rfl,hb⟩:=uh HYES x rest (uh HWS)
 have e1:(x.toList == [99,97,108,108])=true:=by rw [ByteArray.toList_eq];show (Lb x == _)=true;rw [h1];rfl
 have hq5:q5=some ⟨g,1,none⟩:=by rw [<- HQ5,if_neg (by simp at n2;omega)]
 subst hq5
 have f1:(b.toList == [115,117,98])=false:=by rw [ByteArray.toList_eq];exact beq_eq_false_iff_ne.2 (by show Lb b ≠ _;rw [hb];decide)
 have f2:(b.toList == [114,101,112,108,97,99,101])=true:=by rw [ByteArray.toList_eq];show (Lb b == _)=true;rw [hb];rfl
 cases args with
 | nil =>
  obtain ⟨g0,o0,q0,hgb,dA⟩:=strAt (uh HLT) (j:=0) rfl
  injection q0 with q0
  injection q0 with u0 v0
  subst u0 v0
  rw [show 1 + 0=1 from rfl] at dA
  have Z0:=hide (show a.size<=1048576 by have:=(uh HLE).2 a (by simp);omega)
  obtain ⟨g1,o1,q1,hgb,dB⟩:=strAt (uh HLT) (j:=1) rfl
  injection q1 with q1
  injection q1 with u1 v1
  subst u1 v1
  rw [show 1 + 1=2 from rfl] at dB
  have Z1:=hide (show b.size<=1048576 by have:=(uh HLE).2 b (by simp);omega)
  have HRF:=hide (show rfOp (Lb s)=⟨1,numR (Lb a),2,0,⟨#[]⟩,[],[]⟩ by
   unfold rfOp
   rw [<- uh HWS]
   simp only [List.map_cons]
   unfold rfWs
   rw [show kindOfW opW 7 (Lb x)=1 by rw [h1];decide,if_pos rfl]
   show rfCall (numR (Lb a)) (kindOfW callW 4 (Lb b)) _=_
   rw [show kindOfW callW 4 (Lb b)=2 by rw [hb];decide]
   rfl)
  have AA:True:=trivial
  obtain ⟨y0,y1,y2,y3,y4,y5,y6,yf⟩:=of7z (uh HYB)
  have ys0:Y.cell? ⟨g,1,none⟩=some (.string a):=((uh BY).cell (p:=⟨g,1,none⟩) hgb).trans dA
  have ys1:Y.cell? ⟨g,2,none⟩=some (.string b):=((uh BY).cell (p:=⟨g,2,none⟩) hgb).trans dB
  obtain ⟨Y2,HY2⟩:∃ Z,Y.setCell ⟨w1.heap.size,0,none⟩ (.int .i64 1)=Z:=⟨_,rfl⟩
  have gY2:Y.grownBy Y2 (some w1.heap.size):=(by rw [<- HY2];exact gr_set (gr_refl _ _) _ _)
  have hY2:Y2.heap[w1.heap.size]? = some (.cells #[.int .i64 1,.int .i64 0,.int .i64 0,.int .i64 0,.string ⟨#[]⟩,.slice none 0 0,.slice none 0 0] 42 (0,0)):=(by rw [<- HY2];exact set7_0 (uh HYB) _)
  have bY2:Below w1.heap.size w1 Y2:=below_tr (uh BY) (below_gr gY2 (heap_lt (uh HYB)))
  obtain ⟨p20,p21,p22,p23,p24,p25,p26,p2f⟩:=of7z hY2
  have p2s0:Y2.cell? ⟨g,1,none⟩=some (.string a):=(bY2.cell (p:=⟨g,1,none⟩) hgb).trans dA
  have p2s1:Y2.cell? ⟨g,2,none⟩=some (.string b):=(bY2.cell (p:=⟨g,2,none⟩) hgb).trans dB
  obtain ⟨Y3,HY3⟩:∃ Z,Y2.setCell ⟨w1.heap.size,1,none⟩ (.int .i64 (numR (Lb a)))=Z:=⟨_,rfl⟩
  have gY3:Y2.grownBy Y3 (some w1.heap.size):=(by rw [<- HY3];exact gr_set (gr_refl _ _) _ _)
  have hY3:Y3.heap[w1.heap.size]? = some (.cells #[.int .i64 1,.int .i64 (numR (Lb a)),.int .i64 0,.int .i64 0,.string ⟨#[]⟩,.slice none 0 0,.slice none 0 0] 42 (0,0)):=(by rw [<- HY3];exact set7_1 hY2 _)
  have bY3:Below w1.heap.size w1 Y3:=below_tr bY2 (below_gr gY3 (heap_lt hY2))
  obtain ⟨p30,p31,p32,p33,p34,p35,p36,p3f⟩:=of7z hY3
  have p3s0:Y3.cell? ⟨g,1,none⟩=some (.string a):=(bY3.cell (p:=⟨g,1,none⟩) hgb).trans dA
  have p3s1:Y3.cell? ⟨g,2,none⟩=some (.string b):=(bY3.cell (p:=⟨g,2,none⟩) hgb).trans dB
  obtain ⟨Y4,HY4⟩:∃ Z,Y3.setCell ⟨w1.heap.size,2,none⟩ (.int .i64 2)=Z:=⟨_,rfl⟩
  have gY4:Y3.grownBy Y4 (some w1.heap.size):=(by rw [<- HY4];exact gr_set (gr_refl _ _) _ _)
  have hY4:Y4.heap[w1.heap.size]? = some (.cells #[.int .i64 1,.int .i64 (numR (Lb a)),.int .i64 2,.int .i64 0,.string ⟨#[]⟩,.slice none 0 0,.slice none 0 0] 42 (0,0)):=(by rw [<- HY4];exact set7_2 hY3 _)
  have bY4:Below w1.heap.size w1 Y4:=below_tr bY3 (below_gr gY4 (heap_lt hY3))
  obtain ⟨p40,p41,p42,p43,p44,p45,p46,p4f⟩:=of7z hY4
  have p4s0:Y4.cell? ⟨g,1,none⟩=some (.string a):=(bY4.cell (p:=⟨g,1,none⟩) hgb).trans dA
  have p4s1:Y4.cell? ⟨g,2,none⟩=some (.string b):=(bY4.cell (p:=⟨g,2,none⟩) hgb).trans dB
  have hxx:Y4.heap[w.heap.size]? = some (.cells #[.int .i64 0,.int .i64 0,.int .i64 0,.int .i64 0,.string ⟨#[]⟩,.slice none 0 0,.slice none 0 0] 42 (0,0)):=blk_onS (blk_onS (uh HXB) (uh B1)) bY4
  obtain ⟨hres,hg4⟩:=set7_all hxx (.int .i64 1) (.int .i64 (numR (Lb a))) (.int .i64 2) (.int .i64 0) (.string ⟨#[]⟩) (.slice none 0 0) (.slice none 0 0)
  obtain ⟨W9,HW9⟩:∃ Z,(((((((Y4.setCell ⟨w.heap.size,0,none⟩ (.int .i64 1)).setCell ⟨w.heap.size,1,none⟩ (.int .i64 (numR (Lb a)))).setCell ⟨w.heap.size,2,none⟩ (.int .i64 2)).setCell ⟨w.heap.size,3,none⟩ (.int .i64 0)).setCell ⟨w.heap.size,4,none⟩ (.string ⟨#[]⟩)).setCell ⟨w.heap.size,5,none⟩ (.slice none 0 0)).setCell ⟨w.heap.size,6,none⟩ (.slice none 0 0))=Z:=⟨_,rfl⟩
  rw [HW9] at hres hg4
  have HRES:=hide hres
  have HBE:=hide (below_tr (below_sub (below_sub (uh BX) (uh B1)) bY4) (below_gr hg4 (heap_lt hxx)))
  obtain ⟨x0,x1,x2,x3,x4,x5,x6,xf⟩:=of7z hxx
  have hne1:¬ w.heap.size=w1.heap.size:=(by have:=heap_lt (blk_onS (uh HXB) (uh B1));omega)
  have hne2:¬ w1.heap.size=w.heap.size:=(by omega)
  clear hxx hres hg4
  clear hY4 bY4 gY4 hY3 bY3 gY3 hY2 bY2 gY2
  have n3:(3:Int)<=(cp:Int):=by simp only [List.length_cons] at n2;omega
  clear h1 hb hgb n2 dA dB
  go_wp2_with (have tc:=AA;clear tc;go_at_call 74;refine (refNumber_any a _ (by have:=uh Z0;omega)).mono ?_;rintro e wq ⟨rfl,rfl⟩;clear AA)
  all_goals refine bodyPost_ret (results_cell_row rfl _ _ w.heap.size 42 _ (0,0) _ rfl (uh HRES) Tryz.underlying42 rfl Tryz.info42s) rfl ?_
  all_goals exact ⟨⟨⟨1,numR (Lb a),2,0,⟨#[]⟩,none,0,0,none,0,0⟩,rfl,by rw [uh HRF];exact ⟨rfl,rfl,rfl,rfl,rfl,rfl,rfl,OwnK.nil _ _,OwnK.nil _ _⟩⟩,uh HBE⟩
 | cons c r =>
  cases r with
  | nil =>
   obtain ⟨g0,o0,q0,hgb,dA⟩:=strAt (uh HLT) (j:=0) rfl
   injection q0 with q0
   injection q0 with u0 v0
   subst u0 v0
   rw [show 1 + 0=1 from rfl] at dA
   have Z0:=hide (show a.size<=1048576 by have:=(uh HLE).2 a (by simp);omega)
   obtain ⟨g1,o1,q1,hgb,dB⟩:=strAt (uh HLT) (j:=1) rfl
   injection q1 with q1
   injection q1 with u1 v1
   subst u1 v1
   rw [show 1 + 1=2 from rfl] at dB
   have Z1:=hide (show b.size<=1048576 by have:=(uh HLE).2 b (by simp);omega)
   obtain ⟨g2,o2,q2,hgb,dC⟩:=strAt (uh HLT) (j:=2) rfl
   injection q2 with q2
   injection q2 with u2 v2
   subst u2 v2
   rw [show 1 + 2=3 from rfl] at dC
   have Z2:=hide (show c.size<=1048576 by have:=(uh HLE).2 c (by simp);omega)
   have HRF:=hide (show rfOp (Lb s)=⟨1,numR (Lb a),2,(numR (Lb c)),⟨#[]⟩,[],[]⟩ by
    unfold rfOp
    rw [<- uh HWS]
    simp only [List.map_cons]
    unfold rfWs
    rw [show kindOfW opW 7 (Lb x)=1 by rw [h1];decide,if_pos rfl]
    show rfCall (numR (Lb a)) (kindOfW callW 4 (Lb b)) _=_
    rw [show kindOfW callW 4 (Lb b)=2 by rw [hb];decide]
    rfl)
   have AA:True:=trivial
   obtain ⟨y0,y1,y2,y3,y4,y5,y6,yf⟩:=of7z (uh HYB)
   have ys0:Y.cell? ⟨g,1,none⟩=some (.string a):=((uh BY).cell (p:=⟨g,1,none⟩) hgb).trans dA
   have ys1:Y.cell? ⟨g,2,none⟩=some (.string b):=((uh BY).cell (p:=⟨g,2,none⟩) hgb).trans dB
   have ys2:Y.cell? ⟨g,3,none⟩=some (.string c):=((uh BY).cell (p:=⟨g,3,none⟩) hgb).trans dC
   obtain ⟨Y2,HY2⟩:∃ Z,Y.setCell ⟨w1.heap.size,0,none⟩ (.int .i64 1)=Z:=⟨_,rfl⟩
   have gY2:Y.grownBy Y2 (some w1.heap.size):=(by rw [<- HY2];exact gr_set (gr_refl _ _) _ _)
   have hY2:Y2.heap[w1.heap.size]? = some (.cells #[.int .i64 1,.int .i64 0,.int .i64 0,.int .i64 0,.string ⟨#[]⟩,.slice none 0 0,.slice none 0 0] 42 (0,0)):=(by rw [<- HY2];exact set7_0 (uh HYB) _)
   have bY2:Below w1.heap.size w1 Y2:=below_tr (uh BY) (below_gr gY2 (heap_lt (uh HYB)))
   obtain ⟨p20,p21,p22,p23,p24,p25,p26,p2f⟩:=of7z hY2
   have p2s0:Y2.cell? ⟨g,1,none⟩=some (.string a):=(bY2.cell (p:=⟨g,1,none⟩) hgb).trans dA
   have p2s1:Y2.cell? ⟨g,2,none⟩=some (.string b):=(bY2.cell (p:=⟨g,2,none⟩) hgb).trans dB
   have p2s2:Y2.cell? ⟨g,3,none⟩=some (.string c):=(bY2.cell (p:=⟨g,3,none⟩) hgb).trans dC
   obtain ⟨Y3,HY3⟩:∃ Z,Y2.setCell ⟨w1.heap.size,1,none⟩ (.int .i64 (numR (Lb a)))=Z:=⟨_,rfl⟩
   have gY3:Y2.grownBy Y3 (some w1.heap.size):=(by rw [<- HY3];exact gr_set (gr_refl _ _) _ _)
   have hY3:Y3.heap[w1.heap.size]? = some (.cells #[.int .i64 1,.int .i64 (numR (Lb a)),.int .i64 0,.int .i64 0,.string ⟨#[]⟩,.slice none 0 0,.slice none 0 0] 42 (0,0)):=(by rw [<- HY3];exact set7_1 hY2 _)
   have bY3:Below w1.heap.size w1 Y3:=below_tr bY2 (below_gr gY3 (heap_lt hY2))
   obtain ⟨p30,p31,p32,p33,p34,p35,p36,p3f⟩:=of7z hY3
   have p3s0:Y3.cell? ⟨g,1,none⟩=some (.string a):=(bY3.cell (p:=⟨g,1,none⟩) hgb).trans dA
   have p3s1:Y3.cell? ⟨g,2,none⟩=some (.string b):=(bY3.cell (p:=⟨g,2,none⟩) hgb).trans dB
   have p3s2:Y3.cell? ⟨g,3,none⟩=some (.string c):=(bY3.cell (p:=⟨g,3,none⟩) hgb).trans dC
   obtain ⟨Y4,HY4⟩:∃ Z,Y3.setCell ⟨w1.heap.size,2,none⟩ (.int .i64 2)=Z:=⟨_,rfl⟩
   have gY4:Y3.grownBy Y4 (some w1.heap.size):=(by rw [<- HY4];exact gr_set (gr_refl _ _) _ _)
   have hY4:Y4.heap[w1.heap.size]? = some (.cells #[.int .i64 1,.int .i64 (numR (Lb a)),.int .i64 2,.int .i64 0,.string ⟨#[]⟩,.slice none 0 0,.slice none 0 0] 42 (0,0)):=(by rw [<- HY4];exact set7_2 hY3 _)
   have bY4:Below w1.heap.size w1 Y4:=below_tr bY3 (below_gr gY4 (heap_lt hY3))
   obtain ⟨p40,p41,p42,p43,p44,p45,p46,p4f⟩:=of7z hY4
   have p4s0:Y4.cell? ⟨g,1,none⟩=some (.string a):=(bY4.cell (p:=⟨g,1,none⟩) hgb).trans dA
   have p4s1:Y4.cell? ⟨g,2,none⟩=some (.string b):=(bY4.cell (p:=⟨g,2,none⟩) hgb).trans dB
   have p4s2:Y4.cell? ⟨g,3,none⟩=some (.string c):=(bY4.cell (p:=⟨g,3,none⟩) hgb).trans dC
   obtain ⟨Y5,HY5⟩:∃ Z,Y4.setCell ⟨w1.heap.size,3,none⟩ (.int .i64 (numR (Lb c)))=Z:=⟨_,rfl⟩
   have gY5:Y4.grownBy Y5 (some w1.heap.size):=(by rw [<- HY5];exact gr_set (gr_refl _ _) _ _)
   have hY5:Y5.heap[w1.heap.size]? = some (.cells #[.int .i64 1,.int .i64 (numR (Lb a)),.int .i64 2,.int .i64 (numR (Lb c)),.string ⟨#[]⟩,.slice none 0 0,.slice none 0 0] 42 (0,0)):=(by rw [<- HY5];exact set7_3 hY4 _)
   have bY5:Below w1.heap.size w1 Y5:=below_tr bY4 (below_gr gY5 (heap_lt hY4))
   obtain ⟨p50,p51,p52,p53,p54,p55,p56,p5f⟩:=of7z hY5
   have p5s0:Y5.cell? ⟨g,1,none⟩=some (.string a):=(bY5.cell (p:=⟨g,1,none⟩) hgb).trans dA
   have p5s1:Y5.cell? ⟨g,2,none⟩=some (.string b):=(bY5.cell (p:=⟨g,2,none⟩) hgb).trans dB
   have p5s2:Y5.cell? ⟨g,3,none⟩=some (.string c):=(bY5.cell (p:=⟨g,3,none⟩) hgb).trans dC
   have hxx:Y5.heap[w.heap.size]? = some (.cells #[.int .i64 0,.int .i64 0,.int .i64 0,.int .i64 0,.string ⟨#[]⟩,.slice none 0 0,.slice none 0 0] 42 (0,0)):=blk_onS (blk_onS (uh HXB) (uh B1)) bY5
   obtain ⟨hres,hg4⟩:=set7_all hxx (.int .i64 1) (.int .i64 (numR (Lb a))) (.int .i64 2) (.int .i64 (numR (Lb c))) (.string ⟨#[]⟩) (.slice none 0 0) (.slice none 0 0)
   obtain ⟨W9,HW9⟩:∃ Z,(((((((Y5.setCell ⟨w.heap.size,0,none⟩ (.int .i64 1)).setCell ⟨w.heap.size,1,none⟩ (.int .i64 (numR (Lb a)))).setCell ⟨w.heap.size,2,none⟩ (.int .i64 2)).setCell ⟨w.heap.size,3,none⟩ (.int .i64 (numR (Lb c)))).setCell ⟨w.heap.size,4,none⟩ (.string ⟨#[]⟩)).setCell ⟨w.heap.size,5,none⟩ (.slice none 0 0)).setCell ⟨w.heap.size,6,none⟩ (.slice none 0 0))=Z:=⟨_,rfl⟩
   rw [HW9] at hres hg4
   have HRES:=hide hres
   have HBE:=hide (below_tr (below_sub (below_sub (uh BX) (uh B1)) bY5) (below_gr hg4 (heap_lt hxx)))
   obtain ⟨x0,x1,x2,x3,x4,x5,x6,xf⟩:=of7z hxx
   have hne1:¬ w.heap.size=w1.heap.size:=(by have:=heap_lt (blk_onS (uh HXB) (uh B1));omega)
   have hne2:¬ w1.heap.size=w.heap.size:=(by omega)
   clear hxx hres hg4
   clear hY5 bY5 gY5 hY4 bY4 gY4 hY3 bY3 gY3 hY2 bY2 gY2
   have n3:(4:Int)<=(cp:Int):=by simp only [List.length_cons] at n2;omega
   have n4:¬ cp - 1=2:=by omega
   clear h1 hb hgb n2 dA dB dC
   go_wp2_with (first | (have tc:=AA;clear tc;go_at_call 74;refine (refNumber_any a _ (by have:=uh Z0;omega)).mono ?_;rintro e wq ⟨rfl,rfl⟩;clear AA) | (go_at_call 74;refine (refNumber_any c _ (by have:=uh Z2;omega)).mono ?_;rintro e wq ⟨rfl,rfl⟩))
   all_goals refine bodyPost_ret (results_cell_row rfl _ _ w.heap.size 42 _ (0,0) _ rfl (uh HRES) Tryz.underlying42 rfl Tryz.info42s) rfl ?_
   all_goals exact ⟨⟨⟨1,numR (Lb a),2,(numR (Lb c)),⟨#[]⟩,none,0,0,none,0,0⟩,rfl,by rw [uh HRF];exact ⟨rfl,rfl,rfl,rfl,rfl,rfl,rfl,OwnK.nil _ _,OwnK.nil _ _⟩⟩,uh HBE⟩
  | cons d r =>
   obtain ⟨g0,o0,q0,hgb,dA⟩:=strAt (uh HLT) (j:=0) rfl
   injection q0 with q0
   injection q0 with u0 v0
   subst u0 v0
   rw [show 1 + 0=1 from rfl] at dA
   have Z0:=hide (show a.size<=1048576 by have:=(uh HLE).2 a (by simp);omega)
   obtain ⟨g1,o1,q1,hgb,dB⟩:=strAt (uh HLT) (j:=1) rfl
   injection q1 with q1
   injection q1 with u1 v1
   subst u1 v1
   rw [show 1 + 1=2 from rfl] at dB
   have Z1:=hide (show b.size<=1048576 by have:=(uh HLE).2 b (by simp);omega)
   obtain ⟨g2,o2,q2,hgb,dC⟩:=strAt (uh HLT) (j:=2) rfl
   injection q2 with q2
   injection q2 with u2 v2
   subst u2 v2
   rw [show 1 + 2=3 from rfl] at dC
   have Z2:=hide (show c.size<=1048576 by have:=(uh HLE).2 c (by simp);omega)
   obtain ⟨g3,o3,q3,hgb,dD⟩:=strAt (uh HLT) (j:=3) rfl
   injection q3 with q3
   injection q3 with u3 v3
   subst u3 v3
   rw [show 1 + 3=4 from rfl] at dD
   have Z3:=hide (show d.size<=1048576 by have:=(uh HLE).2 d (by simp);omega)
   have HRF:=hide (show rfOp (Lb s)=⟨1,numR (Lb a),2,(numR (Lb c)),(unqV (Lb d)),[],[]⟩ by
    unfold rfOp
    rw [<- uh HWS]
    simp only [List.map_cons]
    unfold rfWs
    rw [show kindOfW opW 7 (Lb x)=1 by rw [h1];decide,if_pos rfl]
    show rfCall (numR (Lb a)) (kindOfW callW 4 (Lb b)) _=_
    rw [show kindOfW callW 4 (Lb b)=2 by rw [hb];decide]
    rfl)
   have AA:True:=trivial
   obtain ⟨y0,y1,y2,y3,y4,y5,y6,yf⟩:=of7z (uh HYB)
   have ys0:Y.cell? ⟨g,1,none⟩=some (.string a):=((uh BY).cell (p:=⟨g,1,none⟩) hgb).trans dA
   have ys1:Y.cell? ⟨g,2,none⟩=some (.string b):=((uh BY).cell (p:=⟨g,2,none⟩) hgb).trans dB
   have ys2:Y.cell? ⟨g,3,none⟩=some (.string c):=((uh BY).cell (p:=⟨g,3,none⟩) hgb).trans dC
   have ys3:Y.cell? ⟨g,4,none⟩=some (.string d):=((uh BY).cell (p:=⟨g,4,none⟩) hgb).trans dD
   obtain ⟨Y2,HY2⟩:∃ Z,Y.setCell ⟨w1.heap.size,0,none⟩ (.int .i64 1)=Z:=⟨_,rfl⟩
   have gY2:Y.grownBy Y2 (some w1.heap.size):=(by rw [<- HY2];exact gr_set (gr_refl _ _) _ _)
   have hY2:Y2.heap[w1.heap.size]? = some (.cells #[.int .i64 1,.int .i64 0,.int .i64 0,.int .i64 0,.string ⟨#[]⟩,.slice none 0 0,.slice none 0 0] 42 (0,0)):=(by rw [<- HY2];exact set7_0 (uh HYB) _)
   have bY2:Below w1.heap.size w1 Y2:=below_tr (uh BY) (below_gr gY2 (heap_lt (uh HYB)))
   obtain ⟨p20,p21,p22,p23,p24,p25,p26,p2f⟩:=of7z hY2
   have p2s0:Y2.cell? ⟨g,1,none⟩=some (.string a):=(bY2.cell (p:=⟨g,1,none⟩) hgb).trans dA
   have p2s1:Y2.cell? ⟨g,2,none⟩=some (.string b):=(bY2.cell (p:=⟨g,2,none⟩) hgb).trans dB
   have p2s2:Y2.cell? ⟨g,3,none⟩=some (.string c):=(bY2.cell (p:=⟨g,3,none⟩) hgb).trans dC
   have p2s3:Y2.cell? ⟨g,4,none⟩=some (.string d):=(bY2.cell (p:=⟨g,4,none⟩) hgb).trans dD
   obtain ⟨Y3,HY3⟩:∃ Z,Y2.setCell ⟨w1.heap.size,1,none⟩ (.int .i64 (numR (Lb a)))=Z:=⟨_,rfl⟩
   have gY3:Y2.grownBy Y3 (some w1.heap.size):=(by rw [<- HY3];exact gr_set (gr_refl _ _) _ _)
   have hY3:Y3.heap[w1.heap.size]? = some (.cells #[.int .i64 1,.int .i64 (numR (Lb a)),.int .i64 0,.int .i64 0,.string ⟨#[]⟩,.slice none 0 0,.slice none 0 0] 42 (0,0)):=(by rw [<- HY3];exact set7_1 hY2 _)
   have bY3:Below w1.heap.size w1 Y3:=below_tr bY2 (below_gr gY3 (heap_lt hY2))
   obtain ⟨p30,p31,p32,p33,p34,p35,p36,p3f⟩:=of7z hY3
   have p3s0:Y3.cell? ⟨g,1,none⟩=some (.string a):=(bY3.cell (p:=⟨g,1,none⟩) hgb).trans dA
   have p3s1:Y3.cell? ⟨g,2,none⟩=some (.string b):=(bY3.cell (p:=⟨g,2,none⟩) hgb).trans dB
   have p3s2:Y3.cell? ⟨g,3,none⟩=some (.string c):=(bY3.cell (p:=⟨g,3,none⟩) hgb).trans dC
   have p3s3:Y3.cell? ⟨g,4,none⟩=some (.string d):=(bY3.cell (p:=⟨g,4,none⟩) hgb).trans dD
   obtain ⟨Y4,HY4⟩:∃ Z,Y3.setCell ⟨w1.heap.size,2,none⟩ (.int .i64 2)=Z:=⟨_,rfl⟩
   have gY4:Y3.grownBy Y4 (some w1.heap.size):=(by rw [<- HY4];exact gr_set (gr_refl _ _) _ _)
   have hY4:Y4.heap[w1.heap.size]? = some (.cells #[.int .i64 1,.int .i64 (numR (Lb a)),.int .i64 2,.int .i64 0,.string ⟨#[]⟩,.slice none 0 0,.slice none 0 0] 42 (0,0)):=(by rw [<- HY4];exact set7_2 hY3 _)
   have bY4:Below w1.heap.size w1 Y4:=below_tr bY3 (below_gr gY4 (heap_lt hY3))
   obtain ⟨p40,p41,p42,p43,p44,p45,p46,p4f⟩:=of7z hY4
   have p4s0:Y4.cell? ⟨g,1,none⟩=some (.string a):=(bY4.cell (p:=⟨g,1,none⟩) hgb).trans dA
   have p4s1:Y4.cell? ⟨g,2,none⟩=some (.string b):=(bY4.cell (p:=⟨g,2,none⟩) hgb).trans dB
   have p4s2:Y4.cell? ⟨g,3,none⟩=some (.string c):=(bY4.cell (p:=⟨g,3,none⟩) hgb).trans dC
   have p4s3:Y4.cell? ⟨g,4,none⟩=some (.string d):=(bY4.cell (p:=⟨g,4,none⟩) hgb).trans dD
   obtain ⟨Y5,HY5⟩:∃ Z,Y4.setCell ⟨w1.heap.size,3,none⟩ (.int .i64 (numR (Lb c)))=Z:=⟨_,rfl⟩
   have gY5:Y4.grownBy Y5 (some w1.heap.size):=(by rw [<- HY5];exact gr_set (gr_refl _ _) _ _)
   have hY5:Y5.heap[w1.heap.size]? = some (.cells #[.int .i64 1,.int .i64 (numR (Lb a)),.int .i64 2,.int .i64 (numR (Lb c)),.string ⟨#[]⟩,.slice none 0 0,.slice none 0 0] 42 (0,0)):=(by rw [<- HY5];exact set7_3 hY4 _)
   have bY5:Below w1.heap.size w1 Y5:=below_tr bY4 (below_gr gY5 (heap_lt hY4))
   obtain ⟨p50,p51,p52,p53,p54,p55,p56,p5f⟩:=of7z hY5
   have p5s0:Y5.cell? ⟨g,1,none⟩=some (.string a):=(bY5.cell (p:=⟨g,1,none⟩) hgb).trans dA
   have p5s1:Y5.cell? ⟨g,2,none⟩=some (.string b):=(bY5.cell (p:=⟨g,2,none⟩) hgb).trans dB
   have p5s2:Y5.cell? ⟨g,3,none⟩=some (.string c):=(bY5.cell (p:=⟨g,3,none⟩) hgb).trans dC
   have p5s3:Y5.cell? ⟨g,4,none⟩=some (.string d):=(bY5.cell (p:=⟨g,4,none⟩) hgb).trans dD
   have HHc:=hide hY5
   have HBc:=hide bY5
   clear hY5 bY5 gY5 hY4 bY4 gY4 hY3 bY3 gY3 hY2 bY2 gY2
   have n3:(5:Int)<=(cp:Int):=by simp only [List.length_cons] at n2;omega
   have n4:¬ cp - 1=2:=by omega
   have n5:¬ cp - 1 - 2=1:=by omega
   clear h1 hb hgb n2 dA dB dC dD
   go_wp2_with (first | (have tc:=AA;clear tc;go_at_call 74;refine (refNumber_any a _ (by have:=uh Z0;omega)).mono ?_;rintro e wq ⟨rfl,rfl⟩;clear AA) | (go_at_call 74;refine (refNumber_any c _ (by have:=uh Z2;omega)).mono ?_;rintro e wq ⟨rfl,rfl⟩) | (go_at_call 76;refine (refUnq_val d _ (uh Z3)).mono ?_;rintro e w3 ⟨⟨E,rfl⟩,b3⟩;obtain ⟨V,HV⟩:∃ Z,Z=w3:=⟨_,rfl⟩;subst HV;have hV:=blk_onS (uh HHc) b3;have bV:=below_sub (uh HBc) b3;obtain ⟨v0,v1,v2,v3,v4,v5,v6,vf⟩:=of7z hV;obtain ⟨Y7,HY7⟩:∃ Z,V.setCell ⟨w1.heap.size,4,none⟩ (.string (unqV (Lb d)))=Z:=⟨_,rfl⟩;have gY7:V.grownBy Y7 (some w1.heap.size):=(by rw [<- HY7];exact gr_set (gr_refl _ _) _ _);have hY7:Y7.heap[w1.heap.size]? = some (.cells #[.int .i64 1,.int .i64 (numR (Lb a)),.int .i64 2,.int .i64 (numR (Lb c)),.string (unqV (Lb d)),.slice none 0 0,.slice none 0 0] 42 (0,0)):=(by rw [<- HY7];exact set7_4 hV _);have bY7:Below w1.heap.size w1 Y7:=below_tr bV (below_gr gY7 (heap_lt hV));obtain ⟨p70,p71,p72,p73,p74,p75,p76,p7f⟩:=of7z hY7;have hxx:Y7.heap[w.heap.size]? = some (.cells #[.int .i64 0,.int .i64 0,.int .i64 0,.int .i64 0,.string ⟨#[]⟩,.slice none 0 0,.slice none 0 0] 42 (0,0)):=blk_onS (blk_onS (uh HXB) (uh B1)) bY7;obtain ⟨hres,hg4⟩:=set7_all hxx (.int .i64 1) (.int .i64 (numR (Lb a))) (.int .i64 2) (.int .i64 (numR (Lb c))) (.string (unqV (Lb d))) (.slice none 0 0) (.slice none 0 0);obtain ⟨W9,HW9⟩:∃ Z,(((((((Y7.setCell ⟨w.heap.size,0,none⟩ (.int .i64 1)).setCell ⟨w.heap.size,1,none⟩ (.int .i64 (numR (Lb a)))).setCell ⟨w.heap.size,2,none⟩ (.int .i64 2)).setCell ⟨w.heap.size,3,none⟩ (.int .i64 (numR (Lb c)))).setCell ⟨w.heap.size,4,none⟩ (.string (unqV (Lb d)))).setCell ⟨w.heap.size,5,none⟩ (.slice none 0 0)).setCell ⟨w.heap.size,6,none⟩ (.slice none 0 0))=Z:=⟨_,rfl⟩;rw [HW9] at hres hg4;have HRES:=hide hres;have HBE:=hide (below_tr (below_sub (below_sub (uh BX) (uh B1)) bY7) (below_gr hg4 (heap_lt hxx)));obtain ⟨x0,x1,x2,x3,x4,x5,x6,xf⟩:=of7z hxx;have hne1:¬ w.heap.size=w1.heap.size:=(by have:=heap_lt (blk_onS (uh HXB) (uh B1));omega);have hne2:¬ w1.heap.size=w.heap.size:=(by omega);clear hxx hres hg4;clear hY7 bY7 gY7 hV bV b3))
   all_goals refine bodyPost_ret (results_cell_row rfl _ _ w.heap.size 42 _ (0,0) _ rfl (uh HRES) Tryz.underlying42 rfl Tryz.info42s) rfl ?_
   all_goals exact ⟨⟨⟨1,numR (Lb a),2,(numR (Lb c)),(unqV (Lb d)),none,0,0,none,0,0⟩,rfl,by rw [uh HRF];exact ⟨rfl,rfl,rfl,rfl,rfl,rfl,rfl,OwnK.nil _ _,OwnK.nil _ _⟩⟩,uh HBE⟩
set_option maxHeartbeats 16000000 in
set_option maxRecDepth 100000 in
theorem reads_c3 (s:ByteArray) (w:World) (hz:s.size<=1048576) (hyes:∀ (x:ByteArray) (rest:List ByteArray),(x :: rest).map Lb=cutL (Lb s)->Lb x=wCall/\∃ a b args,rest=a :: b :: args/\Lb b=wUnsub) :
  Calls Tryz.prog 45 #[.string s] w fun e w'=>(∃ u:Ou,e=.returned u.val/\OpOwn w.heap.size w' u (rfOp (Lb s)))/\Below w.heap.size w w':=by
 have mixed:Tryz.prog.follows .mixedOrders=true:=by kernel_rfl
 obtain ⟨X,HX⟩:∃ X,w.alloc (.cells #[.int .i64 0,.int .i64 0,.int .i64 0,.int .i64 0,.string ⟨#[]⟩,.slice none 0 0,.slice none 0 0] 42)=X:=⟨_,rfl⟩
 have bX:Below w.heap.size w X:=by rw [<- HX];exact (Below.refl _ _).alloc (Nat.le_refl _) _
 have hX:X.heap[w.heap.size]? = some (.cells #[.int .i64 0,.int .i64 0,.int .i64 0,.int .i64 0,.string ⟨#[]⟩,.slice none 0 0,.slice none 0 0] 42 (0,0)):=by rw [<- HX];exact box_new _ _
 have HC:=hide (refCut_any s X (by omega))
 have HXB:=hide hX
 have BX:=hide bX
 have HYES:=hide hyes
 clear bX hX hyes
 go_enter Tryz.func45,Tryz.ntmps45
 go_upto_region 5 with (go_at_call 43;refine (uh HC).mono ?_;rintro e w1 ⟨⟨q,cp,ws,rfl,hws,hown⟩,b1⟩;obtain ⟨x,rest,rfl⟩:=words_ne hws;obtain ⟨g,rfl⟩:=own_some hown;have hls:=hown.ls;have hlc:=hls.2.1;have n2:((rest.length:Int) + 1)<=(cp:Int):=(by simp at hlc;omega);obtain ⟨q5,HQ5⟩:∃ q5,(if cp=1 then (some ⟨g,0,none⟩:Option Addr) else some ⟨g,1,none⟩)=q5:=⟨_,rfl⟩;obtain ⟨g',off',hq,hgb,d0⟩:=strAt hls (j:=0) rfl;injection hq with hq;injection hq with hq1 hq2;subst hq1;have hq3:off'=0:=hq2.symm;subst hq3;obtain ⟨Y,HY⟩:∃ Y,w1.alloc (.cells #[.int .i64 0,.int .i64 0,.int .i64 0,.int .i64 0,.string ⟨#[]⟩,.slice none 0 0,.slice none 0 0] 42)=Y:=⟨_,rfl⟩;have bY:Below w1.heap.size w1 Y:=(by rw [<- HY];exact (Below.refl _ _).alloc (Nat.le_refl _) _);have hY:Y.heap[w1.heap.size]? = some (.cells #[.int .i64 0,.int .i64 0,.int .i64 0,.int .i64 0,.string ⟨#[]⟩,.slice none 0 0,.slice none 0 0] 42 (0,0)):=(by rw [<- HY];exact box_new _ _);have d1:=(bY.cell (p:=⟨g,0 + 0,none⟩) hgb).trans d0;rw [Nat.add_zero] at d1;have HLT:=hide (by rw [<- HQ5];exact sl_tail hls:SlOf encS 1 w1 q5 (cp - 1) rest);have HWS:=hide hws;have B1:=hide b1;have BY:=hide bY;have HYB:=hide hY;have HLE:=hide (words_len hws);clear hls hlc hown hws b1 bY hY d0 hq2)
 obtain ⟨h1,a,b,args,rfl,hb⟩:=uh HYES x rest (uh HWS)
 have e1:(x.toList == [99,97,108,108])=true:=by rw [ByteArray.toList_eq];show (Lb x == _)=true;rw [h1];rfl
 have hq5:q5=some ⟨g,1,none⟩:=by rw [<- HQ5,if_neg (by simp at n2;omega)]
 subst hq5
 have f1:(b.toList == [115,117,98])=false:=by rw [ByteArray.toList_eq];exact beq_eq_false_iff_ne.2 (by show Lb b ≠ _;rw [hb];decide)
 have f2:(b.toList == [114,101,112,108,97,99,101])=false:=by rw [ByteArray.toList_eq];exact beq_eq_false_iff_ne.2 (by show Lb b ≠ _;rw [hb];decide)
 have f3:(b.toList == [117,110,115,117,98])=true:=by rw [ByteArray.toList_eq];show (Lb b == _)=true;rw [hb];rfl
 cases args with
 | nil =>
  obtain ⟨g0,o0,q0,hgb,dA⟩:=strAt (uh HLT) (j:=0) rfl
  injection q0 with q0
  injection q0 with u0 v0
  subst u0 v0
  rw [show 1 + 0=1 from rfl] at dA
  have Z0:=hide (show a.size<=1048576 by have:=(uh HLE).2 a (by simp);omega)
  obtain ⟨g1,o1,q1,hgb,dB⟩:=strAt (uh HLT) (j:=1) rfl
  injection q1 with q1
  injection q1 with u1 v1
  subst u1 v1
  rw [show 1 + 1=2 from rfl] at dB
  have Z1:=hide (show b.size<=1048576 by have:=(uh HLE).2 b (by simp);omega)
  have HRF:=hide (show rfOp (Lb s)=⟨1,numR (Lb a),3,0,⟨#[]⟩,[],[]⟩ by
   unfold rfOp
   rw [<- uh HWS]
   simp only [List.map_cons]
   unfold rfWs
   rw [show kindOfW opW 7 (Lb x)=1 by rw [h1];decide,if_pos rfl]
   show rfCall (numR (Lb a)) (kindOfW callW 4 (Lb b)) _=_
   rw [show kindOfW callW 4 (Lb b)=3 by rw [hb];decide]
   rfl)
  have AA:True:=trivial
  obtain ⟨y0,y1,y2,y3,y4,y5,y6,yf⟩:=of7z (uh HYB)
  have ys0:Y.cell? ⟨g,1,none⟩=some (.string a):=((uh BY).cell (p:=⟨g,1,none⟩) hgb).trans dA
  have ys1:Y.cell? ⟨g,2,none⟩=some (.string b):=((uh BY).cell (p:=⟨g,2,none⟩) hgb).trans dB
  obtain ⟨Y2,HY2⟩:∃ Z,Y.setCell ⟨w1.heap.size,0,none⟩ (.int .i64 1)=Z:=⟨_,rfl⟩
  have gY2:Y.grownBy Y2 (some w1.heap.size):=(by rw [<- HY2];exact gr_set (gr_refl _ _) _ _)
  have hY2:Y2.heap[w1.heap.size]? = some (.cells #[.int .i64 1,.int .i64 0,.int .i64 0,.int .i64 0,.string ⟨#[]⟩,.slice none 0 0,.slice none 0 0] 42 (0,0)):=(by rw [<- HY2];exact set7_0 (uh HYB) _)
  have bY2:Below w1.heap.size w1 Y2:=below_tr (uh BY) (below_gr gY2 (heap_lt (uh HYB)))
  obtain ⟨p20,p21,p22,p23,p24,p25,p26,p2f⟩:=of7z hY2
  have p2s0:Y2.cell? ⟨g,1,none⟩=some (.string a):=(bY2.cell (p:=⟨g,1,none⟩) hgb).trans dA
  have p2s1:Y2.cell? ⟨g,2,none⟩=some (.string b):=(bY2.cell (p:=⟨g,2,none⟩) hgb).trans dB
  obtain ⟨Y3,HY3⟩:∃ Z,Y2.setCell ⟨w1.heap.size,1,none⟩ (.int .i64 (numR (Lb a)))=Z:=⟨_,rfl⟩
  have gY3:Y2.grownBy Y3 (some w1.heap.size):=(by rw [<- HY3];exact gr_set (gr_refl _ _) _ _)
  have hY3:Y3.heap[w1.heap.size]? = some (.cells #[.int .i64 1,.int .i64 (numR (Lb a)),.int .i64 0,.int .i64 0,.string ⟨#[]⟩,.slice none 0 0,.slice none 0 0] 42 (0,0)):=(by rw [<- HY3];exact set7_1 hY2 _)
  have bY3:Below w1.heap.size w1 Y3:=below_tr bY2 (below_gr gY3 (heap_lt hY2))
  obtain ⟨p30,p31,p32,p33,p34,p35,p36,p3f⟩:=of7z hY3
  have p3s0:Y3.cell? ⟨g,1,none⟩=some (.string a):=(bY3.cell (p:=⟨g,1,none⟩) hgb).trans dA
  have p3s1:Y3.cell? ⟨g,2,none⟩=some (.string b):=(bY3.cell (p:=⟨g,2,none⟩) hgb).trans dB
  obtain ⟨Y4,HY4⟩:∃ Z,Y3.setCell ⟨w1.heap.size,2,none⟩ (.int .i64 3)=Z:=⟨_,rfl⟩
  have gY4:Y3.grownBy Y4 (some w1.heap.size):=(by rw [<- HY4];exact gr_set (gr_refl _ _) _ _)
  have hY4:Y4.heap[w1.heap.size]? = some (.cells #[.int .i64 1,.int .i64 (numR (Lb a)),.int .i64 3,.int .i64 0,.string ⟨#[]⟩,.slice none 0 0,.slice none 0 0] 42 (0,0)):=(by rw [<- HY4];exact set7_2 hY3 _)
  have bY4:Below w1.heap.size w1 Y4:=below_tr bY3 (below_gr gY4 (heap_lt hY3))
  obtain ⟨p40,p41,p42,p43,p44,p45,p46,p4f⟩:=of7z hY4
  have p4s0:Y4.cell? ⟨g,1,none⟩=some (.string a):=(bY4.cell (p:=⟨g,1,none⟩) hgb).trans dA
  have p4s1:Y4.cell? ⟨g,2,none⟩=some (.string b):=(bY4.cell (p:=⟨g,2,none⟩) hgb).trans dB
  have hxx:Y4.heap[w.heap.size]? = some (.cells #[.int .i64 0,.int .i64 0,.int .i64 0,.int .i64 0,.string ⟨#[]⟩,.slice none 0 0,.slice none 0 0] 42 (0,0)):=blk_onS (blk_onS (uh HXB) (uh B1)) bY4
  obtain ⟨hres,hg4⟩:=set7_all hxx (.int .i64 1) (.int .i64 (numR (Lb a))) (.int .i64 3) (.int .i64 0) (.string ⟨#[]⟩) (.slice none 0 0) (.slice none 0 0)
  obtain ⟨W9,HW9⟩:∃ Z,(((((((Y4.setCell ⟨w.heap.size,0,none⟩ (.int .i64 1)).setCell ⟨w.heap.size,1,none⟩ (.int .i64 (numR (Lb a)))).setCell ⟨w.heap.size,2,none⟩ (.int .i64 3)).setCell ⟨w.heap.size,3,none⟩ (.int .i64 0)).setCell ⟨w.heap.size,4,none⟩ (.string ⟨#[]⟩)).setCell ⟨w.heap.size,5,none⟩ (.slice none 0 0)).setCell ⟨w.heap.size,6,none⟩ (.slice none 0 0))=Z:=⟨_,rfl⟩
  rw [HW9] at hres hg4
  have HRES:=hide hres
  have HBE:=hide (below_tr (below_sub (below_sub (uh BX) (uh B1)) bY4) (below_gr hg4 (heap_lt hxx)))
  obtain ⟨x0,x1,x2,x3,x4,x5,x6,xf⟩:=of7z hxx
  have hne1:¬ w.heap.size=w1.heap.size:=(by have:=heap_lt (blk_onS (uh HXB) (uh B1));omega)
  have hne2:¬ w1.heap.size=w.heap.size:=(by omega)
  clear hxx hres hg4
  clear hY4 bY4 gY4 hY3 bY3 gY3 hY2 bY2 gY2
  have n3:(3:Int)<=(cp:Int):=by simp only [List.length_cons] at n2;omega
  clear h1 hb hgb n2 dA dB
  go_wp2_with (have tc:=AA;clear tc;go_at_call 74;refine (refNumber_any a _ (by have:=uh Z0;omega)).mono ?_;rintro e wq ⟨rfl,rfl⟩;clear AA)
  all_goals refine bodyPost_ret (results_cell_row rfl _ _ w.heap.size 42 _ (0,0) _ rfl (uh HRES) Tryz.underlying42 rfl Tryz.info42s) rfl ?_
  all_goals exact ⟨⟨⟨1,numR (Lb a),3,0,⟨#[]⟩,none,0,0,none,0,0⟩,rfl,by rw [uh HRF];exact ⟨rfl,rfl,rfl,rfl,rfl,rfl,rfl,OwnK.nil _ _,OwnK.nil _ _⟩⟩,uh HBE⟩
 | cons c r =>
  cases r with
  | nil =>
   obtain ⟨g0,o0,q0,hgb,dA⟩:=strAt (uh HLT) (j:=0) rfl
   injection q0 with q0
   injection q0 with u0 v0
   subst u0 v0
   rw [show 1 + 0=1 from rfl] at dA
   have Z0:=hide (show a.size<=1048576 by have:=(uh HLE).2 a (by simp);omega)
   obtain ⟨g1,o1,q1,hgb,dB⟩:=strAt (uh HLT) (j:=1) rfl
   injection q1 with q1
   injection q1 with u1 v1
   subst u1 v1
   rw [show 1 + 1=2 from rfl] at dB
   have Z1:=hide (show b.size<=1048576 by have:=(uh HLE).2 b (by simp);omega)
   obtain ⟨g2,o2,q2,hgb,dC⟩:=strAt (uh HLT) (j:=2) rfl
   injection q2 with q2
   injection q2 with u2 v2
   subst u2 v2
   rw [show 1 + 2=3 from rfl] at dC
   have Z2:=hide (show c.size<=1048576 by have:=(uh HLE).2 c (by simp);omega)
   have HRF:=hide (show rfOp (Lb s)=⟨1,numR (Lb a),3,(numR (Lb c)),⟨#[]⟩,[],[]⟩ by
    unfold rfOp
    rw [<- uh HWS]
    simp only [List.map_cons]
    unfold rfWs
    rw [show kindOfW opW 7 (Lb x)=1 by rw [h1];decide,if_pos rfl]
    show rfCall (numR (Lb a)) (kindOfW callW 4 (Lb b)) _=_
    rw [show kindOfW callW 4 (Lb b)=3 by rw [hb];decide]
    rfl)
   have AA:True:=trivial
   obtain ⟨y0,y1,y2,y3,y4,y5,y6,yf⟩:=of7z (uh HYB)
   have ys0:Y.cell? ⟨g,1,none⟩=some (.string a):=((uh BY).cell (p:=⟨g,1,none⟩) hgb).trans dA
   have ys1:Y.cell? ⟨g,2,none⟩=some (.string b):=((uh BY).cell (p:=⟨g,2,none⟩) hgb).trans dB
   have ys2:Y.cell? ⟨g,3,none⟩=some (.string c):=((uh BY).cell (p:=⟨g,3,none⟩) hgb).trans dC
   obtain ⟨Y2,HY2⟩:∃ Z,Y.setCell ⟨w1.heap.size,0,none⟩ (.int .i64 1)=Z:=⟨_,rfl⟩
   have gY2:Y.grownBy Y2 (some w1.heap.size):=(by rw [<- HY2];exact gr_set (gr_refl _ _) _ _)
   have hY2:Y2.heap[w1.heap.size]? = some (.cells #[.int .i64 1,.int .i64 0,.int .i64 0,.int .i64 0,.string ⟨#[]⟩,.slice none 0 0,.slice none 0 0] 42 (0,0)):=(by rw [<- HY2];exact set7_0 (uh HYB) _)
   have bY2:Below w1.heap.size w1 Y2:=below_tr (uh BY) (below_gr gY2 (heap_lt (uh HYB)))
   obtain ⟨p20,p21,p22,p23,p24,p25,p26,p2f⟩:=of7z hY2
   have p2s0:Y2.cell? ⟨g,1,none⟩=some (.string a):=(bY2.cell (p:=⟨g,1,none⟩) hgb).trans dA
   have p2s1:Y2.cell? ⟨g,2,none⟩=some (.string b):=(bY2.cell (p:=⟨g,2,none⟩) hgb).trans dB
   have p2s2:Y2.cell? ⟨g,3,none⟩=some (.string c):=(bY2.cell (p:=⟨g,3,none⟩) hgb).trans dC
   obtain ⟨Y3,HY3⟩:∃ Z,Y2.setCell ⟨w1.heap.size,1,none⟩ (.int .i64 (numR (Lb a)))=Z:=⟨_,rfl⟩
   have gY3:Y2.grownBy Y3 (some w1.heap.size):=(by rw [<- HY3];exact gr_set (gr_refl _ _) _ _)
   have hY3:Y3.heap[w1.heap.size]? = some (.cells #[.int .i64 1,.int .i64 (numR (Lb a)),.int .i64 0,.int .i64 0,.string ⟨#[]⟩,.slice none 0 0,.slice none 0 0] 42 (0,0)):=(by rw [<- HY3];exact set7_1 hY2 _)
   have bY3:Below w1.heap.size w1 Y3:=below_tr bY2 (below_gr gY3 (heap_lt hY2))
   obtain ⟨p30,p31,p32,p33,p34,p35,p36,p3f⟩:=of7z hY3
   have p3s0:Y3.cell? ⟨g,1,none⟩=some (.string a):=(bY3.cell (p:=⟨g,1,none⟩) hgb).trans dA
   have p3s1:Y3.cell? ⟨g,2,none⟩=some (.string b):=(bY3.cell (p:=⟨g,2,none⟩) hgb).trans dB
   have p3s2:Y3.cell? ⟨g,3,none⟩=some (.string c):=(bY3.cell (p:=⟨g,3,none⟩) hgb).trans dC
   obtain ⟨Y4,HY4⟩:∃ Z,Y3.setCell ⟨w1.heap.size,2,none⟩ (.int .i64 3)=Z:=⟨_,rfl⟩
   have gY4:Y3.grownBy Y4 (some w1.heap.size):=(by rw [<- HY4];exact gr_set (gr_refl _ _) _ _)
   have hY4:Y4.heap[w1.heap.size]? = some (.cells #[.int .i64 1,.int .i64 (numR (Lb a)),.int .i64 3,.int .i64 0,.string ⟨#[]⟩,.slice none 0 0,.slice none 0 0] 42 (0,0)):=(by rw [<- HY4];exact set7_2 hY3 _)
   have bY4:Below w1.heap.size w1 Y4:=below_tr bY3 (below_gr gY4 (heap_lt hY3))
   obtain ⟨p40,p41,p42,p43,p44,p45,p46,p4f⟩:=of7z hY4
   have p4s0:Y4.cell? ⟨g,1,none⟩=some (.string a):=(bY4.cell (p:=⟨g,1,none⟩) hgb).trans dA
   have p4s1:Y4.cell? ⟨g,2,none⟩=some (.string b):=(bY4.cell (p:=⟨g,2,none⟩) hgb).trans dB
   have p4s2:Y4.cell? ⟨g,3,none⟩=some (.string c):=(bY4.cell (p:=⟨g,3,none⟩) hgb).trans dC
   obtain ⟨Y5,HY5⟩:∃ Z,Y4.setCell ⟨w1.heap.size,3,none⟩ (.int .i64 (numR (Lb c)))=Z:=⟨_,rfl⟩
   have gY5:Y4.grownBy Y5 (some w1.heap.size):=(by rw [<- HY5];exact gr_set (gr_refl _ _) _ _)
   have hY5:Y5.heap[w1.heap.size]? = some (.cells #[.int .i64 1,.int .i64 (numR (Lb a)),.int .i64 3,.int .i64 (numR (Lb c)),.string ⟨#[]⟩,.slice none 0 0,.slice none 0 0] 42 (0,0)):=(by rw [<- HY5];exact set7_3 hY4 _)
   have bY5:Below w1.heap.size w1 Y5:=below_tr bY4 (below_gr gY5 (heap_lt hY4))
   obtain ⟨p50,p51,p52,p53,p54,p55,p56,p5f⟩:=of7z hY5
   have p5s0:Y5.cell? ⟨g,1,none⟩=some (.string a):=(bY5.cell (p:=⟨g,1,none⟩) hgb).trans dA
   have p5s1:Y5.cell? ⟨g,2,none⟩=some (.string b):=(bY5.cell (p:=⟨g,2,none⟩) hgb).trans dB
   have p5s2:Y5.cell? ⟨g,3,none⟩=some (.string c):=(bY5.cell (p:=⟨g,3,none⟩) hgb).trans dC
   have hxx:Y5.heap[w.heap.size]? = some (.cells #[.int .i64 0,.int .i64 0,.int .i64 0,.int .i64 0,.string ⟨#[]⟩,.slice none 0 0,.slice none 0 0] 42 (0,0)):=blk_onS (blk_onS (uh HXB) (uh B1)) bY5
   obtain ⟨hres,hg4⟩:=set7_all hxx (.int .i64 1) (.int .i64 (numR (Lb a))) (.int .i64 3) (.int .i64 (numR (Lb c))) (.string ⟨#[]⟩) (.slice none 0 0) (.slice none 0 0)
   obtain ⟨W9,HW9⟩:∃ Z,(((((((Y5.setCell ⟨w.heap.size,0,none⟩ (.int .i64 1)).setCell ⟨w.heap.size,1,none⟩ (.int .i64 (numR (Lb a)))).setCell ⟨w.heap.size,2,none⟩ (.int .i64 3)).setCell ⟨w.heap.size,3,none⟩ (.int .i64 (numR (Lb c)))).setCell ⟨w.heap.size,4,none⟩ (.string ⟨#[]⟩)).setCell ⟨w.heap.size,5,none⟩ (.slice none 0 0)).setCell ⟨w.heap.size,6,none⟩ (.slice none 0 0))=Z:=⟨_,rfl⟩
   rw [HW9] at hres hg4
   have HRES:=hide hres
   have HBE:=hide (below_tr (below_sub (below_sub (uh BX) (uh B1)) bY5) (below_gr hg4 (heap_lt hxx)))
   obtain ⟨x0,x1,x2,x3,x4,x5,x6,xf⟩:=of7z hxx
   have hne1:¬ w.heap.size=w1.heap.size:=(by have:=heap_lt (blk_onS (uh HXB) (uh B1));omega)
   have hne2:¬ w1.heap.size=w.heap.size:=(by omega)
   clear hxx hres hg4
   clear hY5 bY5 gY5 hY4 bY4 gY4 hY3 bY3 gY3 hY2 bY2 gY2
   have n3:(4:Int)<=(cp:Int):=by simp only [List.length_cons] at n2;omega
   have n4:¬ cp - 1=2:=by omega
   clear h1 hb hgb n2 dA dB dC
   go_wp2_with (first | (have tc:=AA;clear tc;go_at_call 74;refine (refNumber_any a _ (by have:=uh Z0;omega)).mono ?_;rintro e wq ⟨rfl,rfl⟩;clear AA) | (go_at_call 74;refine (refNumber_any c _ (by have:=uh Z2;omega)).mono ?_;rintro e wq ⟨rfl,rfl⟩))
   all_goals refine bodyPost_ret (results_cell_row rfl _ _ w.heap.size 42 _ (0,0) _ rfl (uh HRES) Tryz.underlying42 rfl Tryz.info42s) rfl ?_
   all_goals exact ⟨⟨⟨1,numR (Lb a),3,(numR (Lb c)),⟨#[]⟩,none,0,0,none,0,0⟩,rfl,by rw [uh HRF];exact ⟨rfl,rfl,rfl,rfl,rfl,rfl,rfl,OwnK.nil _ _,OwnK.nil _ _⟩⟩,uh HBE⟩
  | cons d r =>
   obtain ⟨g0,o0,q0,hgb,dA⟩:=strAt (uh HLT) (j:=0) rfl
   injection q0 with q0
   injection q0 with u0 v0
   subst u0 v0
   rw [show 1 + 0=1 from rfl] at dA
   have Z0:=hide (show a.size<=1048576 by have:=(uh HLE).2 a (by simp);omega)
   obtain ⟨g1,o1,q1,hgb,dB⟩:=strAt (uh HLT) (j:=1) rfl
   injection q1 with q1
   injection q1 with u1 v1
   subst u1 v1
   rw [show 1 + 1=2 from rfl] at dB
   have Z1:=hide (show b.size<=1048576 by have:=(uh HLE).2 b (by simp);omega)
   obtain ⟨g2,o2,q2,hgb,dC⟩:=strAt (uh HLT) (j:=2) rfl
   injection q2 with q2
   injection q2 with u2 v2
   subst u2 v2
   rw [show 1 + 2=3 from rfl] at dC
   have Z2:=hide (show c.size<=1048576 by have:=(uh HLE).2 c (by simp);omega)
   obtain ⟨g3,o3,q3,hgb,dD⟩:=strAt (uh HLT) (j:=3) rfl
   injection q3 with q3
   injection q3 with u3 v3
   subst u3 v3
   rw [show 1 + 3=4 from rfl] at dD
   have Z3:=hide (show d.size<=1048576 by have:=(uh HLE).2 d (by simp);omega)
   have HRF:=hide (show rfOp (Lb s)=⟨1,numR (Lb a),3,(numR (Lb c)),(unqV (Lb d)),[],[]⟩ by
    unfold rfOp
    rw [<- uh HWS]
    simp only [List.map_cons]
    unfold rfWs
    rw [show kindOfW opW 7 (Lb x)=1 by rw [h1];decide,if_pos rfl]
    show rfCall (numR (Lb a)) (kindOfW callW 4 (Lb b)) _=_
    rw [show kindOfW callW 4 (Lb b)=3 by rw [hb];decide]
    rfl)
   have AA:True:=trivial
   obtain ⟨y0,y1,y2,y3,y4,y5,y6,yf⟩:=of7z (uh HYB)
   have ys0:Y.cell? ⟨g,1,none⟩=some (.string a):=((uh BY).cell (p:=⟨g,1,none⟩) hgb).trans dA
   have ys1:Y.cell? ⟨g,2,none⟩=some (.string b):=((uh BY).cell (p:=⟨g,2,none⟩) hgb).trans dB
   have ys2:Y.cell? ⟨g,3,none⟩=some (.string c):=((uh BY).cell (p:=⟨g,3,none⟩) hgb).trans dC
   have ys3:Y.cell? ⟨g,4,none⟩=some (.string d):=((uh BY).cell (p:=⟨g,4,none⟩) hgb).trans dD
   obtain ⟨Y2,HY2⟩:∃ Z,Y.setCell ⟨w1.heap.size,0,none⟩ (.int .i64 1)=Z:=⟨_,rfl⟩
   have gY2:Y.grownBy Y2 (some w1.heap.size):=(by rw [<- HY2];exact gr_set (gr_refl _ _) _ _)
   have hY2:Y2.heap[w1.heap.size]? = some (.cells #[.int .i64 1,.int .i64 0,.int .i64 0,.int .i64 0,.string ⟨#[]⟩,.slice none 0 0,.slice none 0 0] 42 (0,0)):=(by rw [<- HY2];exact set7_0 (uh HYB) _)
   have bY2:Below w1.heap.size w1 Y2:=below_tr (uh BY) (below_gr gY2 (heap_lt (uh HYB)))
   obtain ⟨p20,p21,p22,p23,p24,p25,p26,p2f⟩:=of7z hY2
   have p2s0:Y2.cell? ⟨g,1,none⟩=some (.string a):=(bY2.cell (p:=⟨g,1,none⟩) hgb).trans dA
   have p2s1:Y2.cell? ⟨g,2,none⟩=some (.string b):=(bY2.cell (p:=⟨g,2,none⟩) hgb).trans dB
   have p2s2:Y2.cell? ⟨g,3,none⟩=some (.string c):=(bY2.cell (p:=⟨g,3,none⟩) hgb).trans dC
   have p2s3:Y2.cell? ⟨g,4,none⟩=some (.string d):=(bY2.cell (p:=⟨g,4,none⟩) hgb).trans dD
   obtain ⟨Y3,HY3⟩:∃ Z,Y2.setCell ⟨w1.heap.size,1,none⟩ (.int .i64 (numR (Lb a)))=Z:=⟨_,rfl⟩
   have gY3:Y2.grownBy Y3 (some w1.heap.size):=(by rw [<- HY3];exact gr_set (gr_refl _ _) _ _)
   have hY3:Y3.heap[w1.heap.size]? = some (.cells #[.int .i64 1,.int .i64 (numR (Lb a)),.int .i64 0,.int .i64 0,.string ⟨#[]⟩,.slice none 0 0,.slice none 0 0] 42 (0,0)):=(by rw [<- HY3];exact set7_1 hY2 _)
   have bY3:Below w1.heap.size w1 Y3:=below_tr bY2 (below_gr gY3 (heap_lt hY2))
   obtain ⟨p30,p31,p32,p33,p34,p35,p36,p3f⟩:=of7z hY3
   have p3s0:Y3.cell? ⟨g,1,none⟩=some (.string a):=(bY3.cell (p:=⟨g,1,none⟩) hgb).trans dA
   have p3s1:Y3.cell? ⟨g,2,none⟩=some (.string b):=(bY3.cell (p:=⟨g,2,none⟩) hgb).trans dB
   have p3s2:Y3.cell? ⟨g,3,none⟩=some (.string c):=(bY3.cell (p:=⟨g,3,none⟩) hgb).trans dC
   have p3s3:Y3.cell? ⟨g,4,none⟩=some (.string d):=(bY3.cell (p:=⟨g,4,none⟩) hgb).trans dD
   obtain ⟨Y4,HY4⟩:∃ Z,Y3.setCell ⟨w1.heap.size,2,none⟩ (.int .i64 3)=Z:=⟨_,rfl⟩
   have gY4:Y3.grownBy Y4 (some w1.heap.size):=(by rw [<- HY4];exact gr_set (gr_refl _ _) _ _)
   have hY4:Y4.heap[w1.heap.size]? = some (.cells #[.int .i64 1,.int .i64 (numR (Lb a)),.int .i64 3,.int .i64 0,.string ⟨#[]⟩,.slice none 0 0,.slice none 0 0] 42 (0,0)):=(by rw [<- HY4];exact set7_2 hY3 _)
   have bY4:Below w1.heap.size w1 Y4:=below_tr bY3 (below_gr gY4 (heap_lt hY3))
   obtain ⟨p40,p41,p42,p43,p44,p45,p46,p4f⟩:=of7z hY4
   have p4s0:Y4.cell? ⟨g,1,none⟩=some (.string a):=(bY4.cell (p:=⟨g,1,none⟩) hgb).trans dA
   have p4s1:Y4.cell? ⟨g,2,none⟩=some (.string b):=(bY4.cell (p:=⟨g,2,none⟩) hgb).trans dB
   have p4s2:Y4.cell? ⟨g,3,none⟩=some (.string c):=(bY4.cell (p:=⟨g,3,none⟩) hgb).trans dC
   have p4s3:Y4.cell? ⟨g,4,none⟩=some (.string d):=(bY4.cell (p:=⟨g,4,none⟩) hgb).trans dD
   obtain ⟨Y5,HY5⟩:∃ Z,Y4.setCell ⟨w1.heap.size,3,none⟩ (.int .i64 (numR (Lb c)))=Z:=⟨_,rfl⟩
   have gY5:Y4.grownBy Y5 (some w1.heap.size):=(by rw [<- HY5];exact gr_set (gr_refl _ _) _ _)
   have hY5:Y5.heap[w1.heap.size]? = some (.cells #[.int .i64 1,.int .i64 (numR (Lb a)),.int .i64 3,.int .i64 (numR (Lb c)),.string ⟨#[]⟩,.slice none 0 0,.slice none 0 0] 42 (0,0)):=(by rw [<- HY5];exact set7_3 hY4 _)
   have bY5:Below w1.heap.size w1 Y5:=below_tr bY4 (below_gr gY5 (heap_lt hY4))
   obtain ⟨p50,p51,p52,p53,p54,p55,p56,p5f⟩:=of7z hY5
   have p5s0:Y5.cell? ⟨g,1,none⟩=some (.string a):=(bY5.cell (p:=⟨g,1,none⟩) hgb).trans dA
   have p5s1:Y5.cell? ⟨g,2,none⟩=some (.string b):=(bY5.cell (p:=⟨g,2,none⟩) hgb).trans dB
   have p5s2:Y5.cell? ⟨g,3,none⟩=some (.string c):=(bY5.cell (p:=⟨g,3,none⟩) hgb).trans dC
   have p5s3:Y5.cell? ⟨g,4,none⟩=some (.string d):=(bY5.cell (p:=⟨g,4,none⟩) hgb).trans dD
   have HHc:=hide hY5
   have HBc:=hide bY5
   clear hY5 bY5 gY5 hY4 bY4 gY4 hY3 bY3 gY3 hY2 bY2 gY2
   have n3:(5:Int)<=(cp:Int):=by simp only [List.length_cons] at n2;omega
   have n4:¬ cp - 1=2:=by omega
   have n5:¬ cp - 1 - 2=1:=by omega
   clear h1 hb hgb n2 dA dB dC dD
   go_wp2_with (first | (have tc:=AA;clear tc;go_at_call 74;refine (refNumber_any a _ (by have:=uh Z0;omega)).mono ?_;rintro e wq ⟨rfl,rfl⟩;clear AA) | (go_at_call 74;refine (refNumber_any c _ (by have:=uh Z2;omega)).mono ?_;rintro e wq ⟨rfl,rfl⟩) | (go_at_call 76;refine (refUnq_val d _ (uh Z3)).mono ?_;rintro e w3 ⟨⟨E,rfl⟩,b3⟩;obtain ⟨V,HV⟩:∃ Z,Z=w3:=⟨_,rfl⟩;subst HV;have hV:=blk_onS (uh HHc) b3;have bV:=below_sub (uh HBc) b3;obtain ⟨v0,v1,v2,v3,v4,v5,v6,vf⟩:=of7z hV;obtain ⟨Y7,HY7⟩:∃ Z,V.setCell ⟨w1.heap.size,4,none⟩ (.string (unqV (Lb d)))=Z:=⟨_,rfl⟩;have gY7:V.grownBy Y7 (some w1.heap.size):=(by rw [<- HY7];exact gr_set (gr_refl _ _) _ _);have hY7:Y7.heap[w1.heap.size]? = some (.cells #[.int .i64 1,.int .i64 (numR (Lb a)),.int .i64 3,.int .i64 (numR (Lb c)),.string (unqV (Lb d)),.slice none 0 0,.slice none 0 0] 42 (0,0)):=(by rw [<- HY7];exact set7_4 hV _);have bY7:Below w1.heap.size w1 Y7:=below_tr bV (below_gr gY7 (heap_lt hV));obtain ⟨p70,p71,p72,p73,p74,p75,p76,p7f⟩:=of7z hY7;have hxx:Y7.heap[w.heap.size]? = some (.cells #[.int .i64 0,.int .i64 0,.int .i64 0,.int .i64 0,.string ⟨#[]⟩,.slice none 0 0,.slice none 0 0] 42 (0,0)):=blk_onS (blk_onS (uh HXB) (uh B1)) bY7;obtain ⟨hres,hg4⟩:=set7_all hxx (.int .i64 1) (.int .i64 (numR (Lb a))) (.int .i64 3) (.int .i64 (numR (Lb c))) (.string (unqV (Lb d))) (.slice none 0 0) (.slice none 0 0);obtain ⟨W9,HW9⟩:∃ Z,(((((((Y7.setCell ⟨w.heap.size,0,none⟩ (.int .i64 1)).setCell ⟨w.heap.size,1,none⟩ (.int .i64 (numR (Lb a)))).setCell ⟨w.heap.size,2,none⟩ (.int .i64 3)).setCell ⟨w.heap.size,3,none⟩ (.int .i64 (numR (Lb c)))).setCell ⟨w.heap.size,4,none⟩ (.string (unqV (Lb d)))).setCell ⟨w.heap.size,5,none⟩ (.slice none 0 0)).setCell ⟨w.heap.size,6,none⟩ (.slice none 0 0))=Z:=⟨_,rfl⟩;rw [HW9] at hres hg4;have HRES:=hide hres;have HBE:=hide (below_tr (below_sub (below_sub (uh BX) (uh B1)) bY7) (below_gr hg4 (heap_lt hxx)));obtain ⟨x0,x1,x2,x3,x4,x5,x6,xf⟩:=of7z hxx;have hne1:¬ w.heap.size=w1.heap.size:=(by have:=heap_lt (blk_onS (uh HXB) (uh B1));omega);have hne2:¬ w1.heap.size=w.heap.size:=(by omega);clear hxx hres hg4;clear hY7 bY7 gY7 hV bV b3))
   all_goals refine bodyPost_ret (results_cell_row rfl _ _ w.heap.size 42 _ (0,0) _ rfl (uh HRES) Tryz.underlying42 rfl Tryz.info42s) rfl ?_
   all_goals exact ⟨⟨⟨1,numR (Lb a),3,(numR (Lb c)),(unqV (Lb d)),none,0,0,none,0,0⟩,rfl,by rw [uh HRF];exact ⟨rfl,rfl,rfl,rfl,rfl,rfl,rfl,OwnK.nil _ _,OwnK.nil _ _⟩⟩,uh HBE⟩
end Go.Proofs.YtdgoibnndfibnaaGreatDoor
