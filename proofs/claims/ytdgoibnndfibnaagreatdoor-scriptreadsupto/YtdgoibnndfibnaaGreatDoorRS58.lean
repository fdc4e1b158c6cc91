/- The document's reads: lines that are no call. -/
import Derived.Test.YtdgoibnndfibnaaGreatDoorRZay
namespace Go.Proofs.YtdgoibnndfibnaaGreatDoor
open Go.RowKit Go.Sort
theorem words_ne {ws:List ByteArray} {l:Bs} (h:ws.map Lb=cutL l):∃ x rest,ws=x :: rest:=by
 cases ws with
 | nil=>exact absurd h.symm (cutG_ne l.length false [] l (Nat.le_refl _))
 | cons x rest=>exact ⟨x,rest,rfl⟩
theorem own_some {α:Type} [Inhabited α] {enc:α->List Value} {e:TypeId} {k B:Nat} {w:World} {q:Option Addr} {c:Nat} {x:α} {l:List α} (h:OwnK enc e k B w q c (x :: l)):∃ g,q=some ⟨g,0,none⟩:=by
 rcases h.2 with ⟨h0,_⟩ | ⟨g,cp,cur,hv,_⟩
 ·injection h0 with _ h1;simp at h1
 ·injection hv with h1;exact ⟨g,h1⟩
theorem sl_tail {w:World} {g cp:Nat} {x:ByteArray} {l:List ByteArray} (h:SlOf encS 1 w (some ⟨g,0,none⟩) cp (x :: l)):SlOf encS 1 w (if cp=1 then (some ⟨g,0,none⟩:Option Addr) else some ⟨g,1,none⟩) (cp - 1) l:=by
 have h1:=h.2.1
 simp only [List.length_cons] at h1
 have h2:=h.2.2.1
 refine ⟨fun e=>(by split at e <;> cases e),by omega,by omega,fun h0=>?_⟩
 rw [if_neg (by omega)]
 obtain ⟨b,off,hq,hb,hc⟩:=h.2.2.2 (by simp)
 injection hq with hq
 injection hq with hq1 hq2
 subst hq1 hq2
 refine ⟨g,1,rfl,hb,fun j u hj=>?_⟩
 have:=hc (j + 1) u (by
  have e:=flat_app encS 1 (by decide) [x] l
  rw [List.singleton_append] at e
  rw [e,List.getElem?_append_right (by simp [flatK])]
  simpa [flatK] using hj)
 rw [show 0 + (j + 1)=1 + j by omega] at this
 exact this
theorem cutG_len:∀ (k:Nat) (q:Bool) (acc l:Bs),l.length<=k->(cutG q acc l).length<=l.length + 1/\∀ w ∈ cutG q acc l,w.length<=acc.length + l.length:=by
 intro k
 induction k with
 | zero =>
  intro q acc l hl
  obtain rfl:=List.eq_nil_of_length_eq_zero (Nat.le_zero.1 hl)
  rw [cutG_end]
  exact ⟨by simp,fun w hw=>by rw [List.mem_singleton] at hw;subst hw;simp⟩
 | succ k ih =>
  intro q acc l hl
  match l with
  | []=>rw [cutG_end];exact ⟨by simp,fun w hw=>by rw [List.mem_singleton] at hw;subst hw;simp⟩
  | [c] =>
   unfold cutG
   split
   ·exact ⟨by simp,fun w hw=>by rw [List.mem_singleton] at hw;subst hw;simp⟩
   ·split
    ·exact ⟨by simp,fun w hw=>by rw [List.mem_singleton] at hw;subst hw;simp⟩
    ·split
     ·exact ⟨by simp,fun w hw=>by
       rcases List.mem_cons.1 hw with rfl | hw
       ·simp
       ·rw [List.mem_singleton] at hw;subst hw;simp⟩
     ·exact ⟨by simp,fun w hw=>by rw [List.mem_singleton] at hw;subst hw;simp⟩
  | c :: d :: r =>
   simp only [List.length_cons] at hl
   rw [cutG]
   split
   ·obtain ⟨h1,h2⟩:=ih q (acc ++ [c,d]) r (by omega)
    refine ⟨by simp only [List.length_cons];omega,fun w hw=>?_⟩
    have:=h2 w hw
    simp only [List.length_append,List.length_cons,List.length_nil] at this ⊢
    omega
   ·split
    ·obtain ⟨h1,h2⟩:=ih (!q) (acc ++ [c]) (d :: r) (by simp;omega)
     refine ⟨by simp only [List.length_cons] at *;omega,fun w hw=>?_⟩
     have:=h2 w hw
     simp only [List.length_append,List.length_cons,List.length_nil] at this ⊢
     omega
    ·split
     ·obtain ⟨h1,h2⟩:=ih q [] (d :: r) (by simp;omega)
      refine ⟨by simp only [List.length_cons] at *;omega,fun w hw=>?_⟩
      rcases List.mem_cons.1 hw with rfl | hw
      ·omega
      ·have:=h2 w hw
       simp only [List.length_cons,List.length_nil] at this ⊢
       omega
     ·obtain ⟨h1,h2⟩:=ih q (acc ++ [c]) (d :: r) (by simp;omega)
      refine ⟨by simp only [List.length_cons] at *;omega,fun w hw=>?_⟩
      have:=h2 w hw
      simp only [List.length_append,List.length_cons,List.length_nil] at this ⊢
      omega
theorem words_len {x:ByteArray} {rest:List ByteArray} {s:ByteArray} (h:(x :: rest).map Lb=cutL (Lb s)):rest.length<=s.size/\∀ r ∈ x :: rest,r.size<=s.size:=by
 obtain ⟨h1,h2⟩:=cutG_len (Lb s).length false [] (Lb s) (Nat.le_refl _)
 have h3:cutG false [] (Lb s)=(x :: rest).map Lb:=h.symm
 rw [h3] at h1 h2
 rw [lb_len] at h1 h2
 simp only [List.length_map,List.length_cons,List.length_nil] at h1 h2
 refine ⟨by omega,fun r hr=>?_⟩
 have:=h2 (Lb r) (List.mem_map_of_mem hr)
 rw [lb_len] at this
 omega
theorem kind7 {w:Bs} (h1:w ≠ wCall) (h2:w ≠ wStep) (h3:w ≠ wDrain) (h4:w ≠ wStop) (h5:w ≠ wArm) (h6:w ≠ wCrash) (h7:w ≠ wTidy):kindOfW opW 7 w=0:=by
 unfold kindOfW
 rw [List.find?_eq_none.2]
 ·rfl
 ·intro k hk
  rw [List.mem_range] at hk
  have:k=0 ∨ k=1 ∨ k=2 ∨ k=3 ∨ k=4 ∨ k=5 ∨ k=6:=by omega
  rw [decide_eq_true_eq]
  intro e
  rcases this with rfl | rfl | rfl | rfl | rfl | rfl | rfl
  ·exact h1 e.symm
  ·exact h2 e.symm
  ·exact h3 e.symm
  ·exact h4 e.symm
  ·exact h5 e.symm
  ·exact h6 e.symm
  ·exact h7 e.symm
theorem set7_0 {W:World} {b:Nat} {a0 a1 a2 a3 a4 a5 a6:Value} {T:TypeId} (h:W.heap[b]? = some (.cells #[a0,a1,a2,a3,a4,a5,a6] T (0,0))) (v:Value):(W.setCell ⟨b,0,none⟩ v).heap[b]? = some (.cells #[v,a1,a2,a3,a4,a5,a6] T (0,0)):=by
 simp [World.setCell,Array.getElem?_modify,h]
theorem set7_all {W:World} {b:Nat} {T:TypeId} {a0 a1 a2 a3 a4 a5 a6:Value} (h:W.heap[b]? = some (.cells #[a0,a1,a2,a3,a4,a5,a6] T (0,0))) (v0 v1 v2 v3 v4 v5 v6:Value):((((((((W.setCell ⟨b,0,none⟩ v0).setCell ⟨b,1,none⟩ v1).setCell ⟨b,2,none⟩ v2).setCell ⟨b,3,none⟩ v3).setCell ⟨b,4,none⟩ v4).setCell ⟨b,5,none⟩ v5).setCell ⟨b,6,none⟩ v6)).heap[b]? = some (.cells #[v0,v1,v2,v3,v4,v5,v6] T (0,0))/\W.grownBy (((((((W.setCell ⟨b,0,none⟩ v0).setCell ⟨b,1,none⟩ v1).setCell ⟨b,2,none⟩ v2).setCell ⟨b,3,none⟩ v3).setCell ⟨b,4,none⟩ v4).setCell ⟨b,5,none⟩ v5).setCell ⟨b,6,none⟩ v6) (some b):=by
 refine ⟨?_,gr_set (gr_set (gr_set (gr_set (gr_set (gr_set (gr_set (gr_refl _ _) _ _) _ _) _ _) _ _) _ _) _ _) _ _⟩
 simp [World.setCell,Array.getElem?_modify,h]
theorem Tryz.info42s:(Tryz.prog.info? 42).map (·.size)=some 7:=by kernel_rfl
set_option maxHeartbeats 16000000 in
set_option maxRecDepth 100000 in
theorem reads_no (s:ByteArray) (w:World) (hz:s.size<=1048576) (hno:∀ (x:ByteArray) (rest:List ByteArray),(x :: rest).map Lb=cutL (Lb s)->Lb x ≠ wCall) :
  Calls Tryz.prog 45 #[.string s] w fun e w'=>(∃ u:Ou,e=.returned u.val/\OpOwn w.heap.size w' u (rfOp (Lb s)))/\Below w.heap.size w w':=by
 have mixed:Tryz.prog.follows .mixedOrders=true:=by kernel_rfl
 obtain ⟨X,HX⟩:∃ X,w.alloc (.cells #[.int .i64 0,.int .i64 0,.int .i64 0,.int .i64 0,.string ⟨#[]⟩,.slice none 0 0,.slice none 0 0] 42)=X:=⟨_,rfl⟩
 have bX:Below w.heap.size w X:=by rw [<- HX];exact (Below.refl _ _).alloc (Nat.le_refl _) _
 have hX:X.heap[w.heap.size]? = some (.cells #[.int .i64 0,.int .i64 0,.int .i64 0,.int .i64 0,.string ⟨#[]⟩,.slice none 0 0,.slice none 0 0] 42 (0,0)):=by rw [<- HX];exact box_new _ _
 have HC:=hide (refCut_any s X (by omega))
 have HXB:=hide hX
 have BX:=hide bX
 have HNO:=hide hno
 clear bX hX hno
 go_enter Tryz.func45,Tryz.ntmps45
 go_upto_region 5 with (go_at_call 43;refine (uh HC).mono ?_;rintro e w1 ⟨⟨q,cp,ws,rfl,hws,hown⟩,b1⟩;obtain ⟨x,rest,rfl⟩:=words_ne hws;obtain ⟨g,rfl⟩:=own_some hown;have hls:=hown.ls;have hlc:=hls.2.1;have n2:((rest.length:Int) + 1)<=(cp:Int):=(by simp at hlc;omega);obtain ⟨q5,HQ5⟩:∃ q5,(if cp=1 then (some ⟨g,0,none⟩:Option Addr) else some ⟨g,1,none⟩)=q5:=⟨_,rfl⟩;obtain ⟨g',off',hq,hgb,d0⟩:=strAt hls (j:=0) rfl;injection hq with hq;injection hq with hq1 hq2;subst hq1;have hq3:off'=0:=hq2.symm;subst hq3;obtain ⟨Y,HY⟩:∃ Y,w1.alloc (.cells #[.int .i64 0,.int .i64 0,.int .i64 0,.int .i64 0,.string ⟨#[]⟩,.slice none 0 0,.slice none 0 0] 42)=Y:=⟨_,rfl⟩;have bY:Below w1.heap.size w1 Y:=(by rw [<- HY];exact (Below.refl _ _).alloc (Nat.le_refl _) _);have hY:Y.heap[w1.heap.size]? = some (.cells #[.int .i64 0,.int .i64 0,.int .i64 0,.int .i64 0,.string ⟨#[]⟩,.slice none 0 0,.slice none 0 0] 42 (0,0)):=(by rw [<- HY];exact box_new _ _);have d1:=(bY.cell (p:=⟨g,0 + 0,none⟩) hgb).trans d0;rw [Nat.add_zero] at d1;have HLT:=hide (by rw [<- HQ5];exact sl_tail hls:SlOf encS 1 w1 q5 (cp - 1) rest);have HWS:=hide hws;have B1:=hide b1;have BY:=hide bY;have HYB:=hide hY;have HLE:=hide (words_len hws);clear hls hlc hown hws b1 bY hY d0 hq2)
 have h1:=uh HNO x rest (uh HWS)
 by_cases h2:Lb x=wStep
 ·skip
  have e1:(x.toList == [99,97,108,108])=false:=by rw [ByteArray.toList_eq];exact beq_eq_false_iff_ne.2 h1
  have e2:(x.toList == [115,116,101,112])=true:=by rw [ByteArray.toList_eq];show (Lb x == _)=true;rw [h2];rfl
  have hkd:kindOfW opW 7 (Lb x)=2:=by rw [h2];decide
  obtain ⟨Y2,HY2⟩:∃ Z,Y.setCell ⟨w1.heap.size,0,none⟩ (.int .i64 2)=Z:=⟨_,rfl⟩
  have hg2:Y.grownBy Y2 (some w1.heap.size):=by rw [<- HY2];exact gr_set (gr_refl _ _) _ _
  have hY2:Y2.heap[w1.heap.size]? = some (.cells #[.int .i64 2,.int .i64 0,.int .i64 0,.int .i64 0,.string ⟨#[]⟩,.slice none 0 0,.slice none 0 0] 42 (0,0)):=by rw [<- HY2];exact set7_0 (uh HYB) _
  have b2:Below w1.heap.size w1 Y2:=below_tr (uh BY) (below_gr hg2 (heap_lt (uh HYB)))
  have HRF:=hide (show rfOp (Lb s)=⟨2,0,0,0,⟨#[]⟩,[],rest.map fun s=>numR (Lb s)⟩ by
   unfold rfOp
   rw [<- uh HWS]
   simp only [List.map_cons]
   unfold rfWs
   rw [hkd,if_neg (by decide),List.map_map]
   rfl)
  have HB2:=hide b2
  have HY2B:=hide hY2
  have hNU:=refNumbers_any q5 (cp - 1) rest Y2 (by have:=(uh HLE).1;omega) (fun r hr=>by have:=(uh HLE).2 r (List.mem_cons_of_mem _ hr);omega) ((uh HLT).below b2)
  have HNU:=hide hNU
  obtain ⟨y0,y1,y2,y3,y4,y5,y6,yf⟩:=of7z (uh HYB)
  obtain ⟨z0,z1,z2,z3,z4,z5,z6,zf⟩:=of7z hY2
  clear b2 hY2 hNU hkd hg2 h1 h2
  go_wp2_with (go_at_call 42;refine (uh HNU).mono ?_;rintro e w3 ⟨⟨qn,cn,rfl,hon⟩,b3⟩;obtain ⟨W3,HW3⟩:∃ Z,w3.setCell ⟨w1.heap.size,6,none⟩ (.slice qn rest.length cn)=Z:=⟨_,rfl⟩;have h3b:=blk_onS (uh HY2B) b3;have hg3:w3.grownBy W3 (some w1.heap.size):=(by rw [<- HW3];exact gr_set (gr_refl _ _) _ _);have h3c:W3.heap[w1.heap.size]? = some (.cells #[.int .i64 2,.int .i64 0,.int .i64 0,.int .i64 0,.string ⟨#[]⟩,.slice none 0 0,.slice qn rest.length cn] 42 (0,0)):=(by rw [<- HW3];exact set7_6 h3b _);have hb3:Below w1.heap.size w1 W3:=below_tr (below_sub (uh HB2) b3) (below_gr hg3 (heap_lt h3b));have hon3:=hon.ty hg3 h3b (by decide);have hxx:W3.heap[w.heap.size]? = some (.cells #[.int .i64 0,.int .i64 0,.int .i64 0,.int .i64 0,.string ⟨#[]⟩,.slice none 0 0,.slice none 0 0] 42 (0,0)):=blk_onS (blk_onS (uh HXB) (uh B1)) hb3;obtain ⟨hres,hg4⟩:=set7_all hxx (.int .i64 2) (.int .i64 0) (.int .i64 0) (.int .i64 0) (.string ⟨#[]⟩) (.slice none 0 0) (.slice qn rest.length cn);obtain ⟨W9,HW9⟩:∃ Z,(((((((W3.setCell ⟨w.heap.size,0,none⟩ (.int .i64 2)).setCell ⟨w.heap.size,1,none⟩ (.int .i64 0)).setCell ⟨w.heap.size,2,none⟩ (.int .i64 0)).setCell ⟨w.heap.size,3,none⟩ (.int .i64 0)).setCell ⟨w.heap.size,4,none⟩ (.string ⟨#[]⟩)).setCell ⟨w.heap.size,5,none⟩ (.slice none 0 0)).setCell ⟨w.heap.size,6,none⟩ (.slice qn rest.length cn))=Z:=⟨_,rfl⟩;rw [HW9] at hres hg4;have HRES:=hide hres;have HON:=hide ((hon3.ty hg4 hxx (by decide)).mono (show w.heap.size<=Y2.heap.size from (by have:=(uh BX).size;have:=(uh B1).size;have:=(uh HB2).size;omega)));have HBE:=hide (below_tr (below_sub (below_sub (uh BX) (uh B1)) hb3) (below_gr hg4 (heap_lt hxx)));clear y0 y1 y2 y3 y4 y5 y6 yf;obtain ⟨y0,y1,y2,y3,y4,y5,y6,yf⟩:=of7z h3b;obtain ⟨v0,v1,v2,v3,v4,v5,v6,vf⟩:=of7z h3c;obtain ⟨x0,x1,x2,x3,x4,x5,x6,xf⟩:=of7z hxx;have hne1:¬ w.heap.size=w1.heap.size:=(by have:=heap_lt (blk_onS (uh HXB) (uh B1));omega);have hne2:¬ w1.heap.size=w.heap.size:=(by omega);clear h3b hg3 h3c hb3 hon3 hxx hres hg4 hon b3)
  refine bodyPost_ret (results_cell_row rfl _ _ w.heap.size 42 _ (0,0) _ rfl (uh HRES) Tryz.underlying42 rfl Tryz.info42s) rfl ?_
  exact ⟨⟨⟨2,0,0,0,⟨#[]⟩,none,0,0,qn,rest.length,cn⟩,rfl,by rw [uh HRF];exact ⟨rfl,rfl,rfl,rfl,rfl,rfl,by simp,OwnK.nil _ _,uh HON⟩⟩,uh HBE⟩
 by_cases h3:Lb x=wDrain
 ·skip
  have e1:(x.toList == [99,97,108,108])=false:=by rw [ByteArray.toList_eq];exact beq_eq_false_iff_ne.2 h1
  have e2:(x.toList == [115,116,101,112])=false:=by rw [ByteArray.toList_eq];exact beq_eq_false_iff_ne.2 h2
  have e3:(x.toList == [100,114,97,105,110])=true:=by rw [ByteArray.toList_eq];show (Lb x == _)=true;rw [h3];rfl
  have hkd:kindOfW opW 7 (Lb x)=3:=by rw [h3];decide
  obtain ⟨Y2,HY2⟩:∃ Z,Y.setCell ⟨w1.heap.size,0,none⟩ (.int .i64 3)=Z:=⟨_,rfl⟩
  have hg2:Y.grownBy Y2 (some w1.heap.size):=by rw [<- HY2];exact gr_set (gr_refl _ _) _ _
  have hY2:Y2.heap[w1.heap.size]? = some (.cells #[.int .i64 3,.int .i64 0,.int .i64 0,.int .i64 0,.string ⟨#[]⟩,.slice none 0 0,.slice none 0 0] 42 (0,0)):=by rw [<- HY2];exact set7_0 (uh HYB) _
  have b2:Below w1.heap.size w1 Y2:=below_tr (uh BY) (below_gr hg2 (heap_lt (uh HYB)))
  have HRF:=hide (show rfOp (Lb s)=⟨3,0,0,0,⟨#[]⟩,[],rest.map fun s=>numR (Lb s)⟩ by
   unfold rfOp
   rw [<- uh HWS]
   simp only [List.map_cons]
   unfold rfWs
   rw [hkd,if_neg (by decide),List.map_map]
   rfl)
  have HB2:=hide b2
  have HY2B:=hide hY2
  have hNU:=refNumbers_any q5 (cp - 1) rest Y2 (by have:=(uh HLE).1;omega) (fun r hr=>by have:=(uh HLE).2 r (List.mem_cons_of_mem _ hr);omega) ((uh HLT).below b2)
  have HNU:=hide hNU
  obtain ⟨y0,y1,y2,y3,y4,y5,y6,yf⟩:=of7z (uh HYB)
  obtain ⟨z0,z1,z2,z3,z4,z5,z6,zf⟩:=of7z hY2
  clear b2 hY2 hNU hkd hg2 h1 h2 h3
  go_wp2_with (go_at_call 42;refine (uh HNU).mono ?_;rintro e w3 ⟨⟨qn,cn,rfl,hon⟩,b3⟩;obtain ⟨W3,HW3⟩:∃ Z,w3.setCell ⟨w1.heap.size,6,none⟩ (.slice qn rest.length cn)=Z:=⟨_,rfl⟩;have h3b:=blk_onS (uh HY2B) b3;have hg3:w3.grownBy W3 (some w1.heap.size):=(by rw [<- HW3];exact gr_set (gr_refl _ _) _ _);have h3c:W3.heap[w1.heap.size]? = some (.cells #[.int .i64 3,.int .i64 0,.int .i64 0,.int .i64 0,.string ⟨#[]⟩,.slice none 0 0,.slice qn rest.length cn] 42 (0,0)):=(by rw [<- HW3];exact set7_6 h3b _);have hb3:Below w1.heap.size w1 W3:=below_tr (below_sub (uh HB2) b3) (below_gr hg3 (heap_lt h3b));have hon3:=hon.ty hg3 h3b (by decide);have hxx:W3.heap[w.heap.size]? = some (.cells #[.int .i64 0,.int .i64 0,.int .i64 0,.int .i64 0,.string ⟨#[]⟩,.slice none 0 0,.slice none 0 0] 42 (0,0)):=blk_onS (blk_onS (uh HXB) (uh B1)) hb3;obtain ⟨hres,hg4⟩:=set7_all hxx (.int .i64 3) (.int .i64 0) (.int .i64 0) (.int .i64 0) (.string ⟨#[]⟩) (.slice none 0 0) (.slice qn rest.length cn);obtain ⟨W9,HW9⟩:∃ Z,(((((((W3.setCell ⟨w.heap.size,0,none⟩ (.int .i64 3)).setCell ⟨w.heap.size,1,none⟩ (.int .i64 0)).setCell ⟨w.heap.size,2,none⟩ (.int .i64 0)).setCell ⟨w.heap.size,3,none⟩ (.int .i64 0)).setCell ⟨w.heap.size,4,none⟩ (.string ⟨#[]⟩)).setCell ⟨w.heap.size,5,none⟩ (.slice none 0 0)).setCell ⟨w.heap.size,6,none⟩ (.slice qn rest.length cn))=Z:=⟨_,rfl⟩;rw [HW9] at hres hg4;have HRES:=hide hres;have HON:=hide ((hon3.ty hg4 hxx (by decide)).mono (show w.heap.size<=Y2.heap.size from (by have:=(uh BX).size;have:=(uh B1).size;have:=(uh HB2).size;omega)));have HBE:=hide (below_tr (below_sub (below_sub (uh BX) (uh B1)) hb3) (below_gr hg4 (heap_lt hxx)));clear y0 y1 y2 y3 y4 y5 y6 yf;obtain ⟨y0,y1,y2,y3,y4,y5,y6,yf⟩:=of7z h3b;obtain ⟨v0,v1,v2,v3,v4,v5,v6,vf⟩:=of7z h3c;obtain ⟨x0,x1,x2,x3,x4,x5,x6,xf⟩:=of7z hxx;have hne1:¬ w.heap.size=w1.heap.size:=(by have:=heap_lt (blk_onS (uh HXB) (uh B1));omega);have hne2:¬ w1.heap.size=w.heap.size:=(by omega);clear h3b hg3 h3c hb3 hon3 hxx hres hg4 hon b3)
  refine bodyPost_ret (results_cell_row rfl _ _ w.heap.size 42 _ (0,0) _ rfl (uh HRES) Tryz.underlying42 rfl Tryz.info42s) rfl ?_
  exact ⟨⟨⟨3,0,0,0,⟨#[]⟩,none,0,0,qn,rest.length,cn⟩,rfl,by rw [uh HRF];exact ⟨rfl,rfl,rfl,rfl,rfl,rfl,by simp,OwnK.nil _ _,uh HON⟩⟩,uh HBE⟩
 by_cases h4:Lb x=wStop
 ·skip
  have e1:(x.toList == [99,97,108,108])=false:=by rw [ByteArray.toList_eq];exact beq_eq_false_iff_ne.2 h1
  have e2:(x.toList == [115,116,101,112])=false:=by rw [ByteArray.toList_eq];exact beq_eq_false_iff_ne.2 h2
  have e3:(x.toList == [100,114,97,105,110])=false:=by rw [ByteArray.toList_eq];exact beq_eq_false_iff_ne.2 h3
  have e4:(x.toList == [115,116,111,112])=true:=by rw [ByteArray.toList_eq];show (Lb x == _)=true;rw [h4];rfl
  have hkd:kindOfW opW 7 (Lb x)=4:=by rw [h4];decide
  obtain ⟨Y2,HY2⟩:∃ Z,Y.setCell ⟨w1.heap.size,0,none⟩ (.int .i64 4)=Z:=⟨_,rfl⟩
  have hg2:Y.grownBy Y2 (some w1.heap.size):=by rw [<- HY2];exact gr_set (gr_refl _ _) _ _
  have hY2:Y2.heap[w1.heap.size]? = some (.cells #[.int .i64 4,.int .i64 0,.int .i64 0,.int .i64 0,.string ⟨#[]⟩,.slice none 0 0,.slice none 0 0] 42 (0,0)):=by rw [<- HY2];exact set7_0 (uh HYB) _
  have b2:Below w1.heap.size w1 Y2:=below_tr (uh BY) (below_gr hg2 (heap_lt (uh HYB)))
  have HRF:=hide (show rfOp (Lb s)=⟨4,0,0,0,⟨#[]⟩,[],rest.map fun s=>numR (Lb s)⟩ by
   unfold rfOp
   rw [<- uh HWS]
   simp only [List.map_cons]
   unfold rfWs
   rw [hkd,if_neg (by decide),List.map_map]
   rfl)
  have HB2:=hide b2
  have HY2B:=hide hY2
  have hNU:=refNumbers_any q5 (cp - 1) rest Y2 (by have:=(uh HLE).1;omega) (fun r hr=>by have:=(uh HLE).2 r (List.mem_cons_of_mem _ hr);omega) ((uh HLT).below b2)
  have HNU:=hide hNU
  obtain ⟨y0,y1,y2,y3,y4,y5,y6,yf⟩:=of7z (uh HYB)
  obtain ⟨z0,z1,z2,z3,z4,z5,z6,zf⟩:=of7z hY2
  clear b2 hY2 hNU hkd hg2 h1 h2 h3 h4
  go_wp2_with (go_at_call 42;refine (uh HNU).mono ?_;rintro e w3 ⟨⟨qn,cn,rfl,hon⟩,b3⟩;obtain ⟨W3,HW3⟩:∃ Z,w3.setCell ⟨w1.heap.size,6,none⟩ (.slice qn rest.length cn)=Z:=⟨_,rfl⟩;have h3b:=blk_onS (uh HY2B) b3;have hg3:w3.grownBy W3 (some w1.heap.size):=(by rw [<- HW3];exact gr_set (gr_refl _ _) _ _);have h3c:W3.heap[w1.heap.size]? = some (.cells #[.int .i64 4,.int .i64 0,.int .i64 0,.int .i64 0,.string ⟨#[]⟩,.slice none 0 0,.slice qn rest.length cn] 42 (0,0)):=(by rw [<- HW3];exact set7_6 h3b _);have hb3:Below w1.heap.size w1 W3:=below_tr (below_sub (uh HB2) b3) (below_gr hg3 (heap_lt h3b));have hon3:=hon.ty hg3 h3b (by decide);have hxx:W3.heap[w.heap.size]? = some (.cells #[.int .i64 0,.int .i64 0,.int .i64 0,.int .i64 0,.string ⟨#[]⟩,.slice none 0 0,.slice none 0 0] 42 (0,0)):=blk_onS (blk_onS (uh HXB) (uh B1)) hb3;obtain ⟨hres,hg4⟩:=set7_all hxx (.int .i64 4) (.int .i64 0) (.int .i64 0) (.int .i64 0) (.string ⟨#[]⟩) (.slice none 0 0) (.slice qn rest.length cn);obtain ⟨W9,HW9⟩:∃ Z,(((((((W3.setCell ⟨w.heap.size,0,none⟩ (.int .i64 4)).setCell ⟨w.heap.size,1,none⟩ (.int .i64 0)).setCell ⟨w.heap.size,2,none⟩ (.int .i64 0)).setCell ⟨w.heap.size,3,none⟩ (.int .i64 0)).setCell ⟨w.heap.size,4,none⟩ (.string ⟨#[]⟩)).setCell ⟨w.heap.size,5,none⟩ (.slice none 0 0)).setCell ⟨w.heap.size,6,none⟩ (.slice qn rest.length cn))=Z:=⟨_,rfl⟩;rw [HW9] at hres hg4;have HRES:=hide hres;have HON:=hide ((hon3.ty hg4 hxx (by decide)).mono (show w.heap.size<=Y2.heap.size from (by have:=(uh BX).size;have:=(uh B1).size;have:=(uh HB2).size;omega)));have HBE:=hide (below_tr (below_sub (below_sub (uh BX) (uh B1)) hb3) (below_gr hg4 (heap_lt hxx)));clear y0 y1 y2 y3 y4 y5 y6 yf;obtain ⟨y0,y1,y2,y3,y4,y5,y6,yf⟩:=of7z h3b;obtain ⟨v0,v1,v2,v3,v4,v5,v6,vf⟩:=of7z h3c;obtain ⟨x0,x1,x2,x3,x4,x5,x6,xf⟩:=of7z hxx;have hne1:¬ w.heap.size=w1.heap.size:=(by have:=heap_lt (blk_onS (uh HXB) (uh B1));omega);have hne2:¬ w1.heap.size=w.heap.size:=(by omega);clear h3b hg3 h3c hb3 hon3 hxx hres hg4 hon b3)
  refine bodyPost_ret (results_cell_row rfl _ _ w.heap.size 42 _ (0,0) _ rfl (uh HRES) Tryz.underlying42 rfl Tryz.info42s) rfl ?_
  exact ⟨⟨⟨4,0,0,0,⟨#[]⟩,none,0,0,qn,rest.length,cn⟩,rfl,by rw [uh HRF];exact ⟨rfl,rfl,rfl,rfl,rfl,rfl,by simp,OwnK.nil _ _,uh HON⟩⟩,uh HBE⟩
 by_cases h5:Lb x=wArm
 ·skip
  have e1:(x.toList == [99,97,108,108])=false:=by rw [ByteArray.toList_eq];exact beq_eq_false_iff_ne.2 h1
  have e2:(x.toList == [115,116,101,112])=false:=by rw [ByteArray.toList_eq];exact beq_eq_false_iff_ne.2 h2
  have e3:(x.toList == [100,114,97,105,110])=false:=by rw [ByteArray.toList_eq];exact beq_eq_false_iff_ne.2 h3
  have e4:(x.toList == [115,116,111,112])=false:=by rw [ByteArray.toList_eq];exact beq_eq_false_iff_ne.2 h4
  have e5:(x.toList == [97,114,109])=true:=by rw [ByteArray.toList_eq];show (Lb x == _)=true;rw [h5];rfl
  have hkd:kindOfW opW 7 (Lb x)=5:=by rw [h5];decide
  obtain ⟨Y2,HY2⟩:∃ Z,Y.setCell ⟨w1.heap.size,0,none⟩ (.int .i64 5)=Z:=⟨_,rfl⟩
  have hg2:Y.grownBy Y2 (some w1.heap.size):=by rw [<- HY2];exact gr_set (gr_refl _ _) _ _
  have hY2:Y2.heap[w1.heap.size]? = some (.cells #[.int .i64 5,.int .i64 0,.int .i64 0,.int .i64 0,.string ⟨#[]⟩,.slice none 0 0,.slice none 0 0] 42 (0,0)):=by rw [<- HY2];exact set7_0 (uh HYB) _
  have b2:Below w1.heap.size w1 Y2:=below_tr (uh BY) (below_gr hg2 (heap_lt (uh HYB)))
  have HRF:=hide (show rfOp (Lb s)=⟨5,0,0,0,⟨#[]⟩,[],rest.map fun s=>numR (Lb s)⟩ by
   unfold rfOp
   rw [<- uh HWS]
   simp only [List.map_cons]
   unfold rfWs
   rw [hkd,if_neg (by decide),List.map_map]
   rfl)
  have HB2:=hide b2
  have HY2B:=hide hY2
  have hNU:=refNumbers_any q5 (cp - 1) rest Y2 (by have:=(uh HLE).1;omega) (fun r hr=>by have:=(uh HLE).2 r (List.mem_cons_of_mem _ hr);omega) ((uh HLT).below b2)
  have HNU:=hide hNU
  obtain ⟨y0,y1,y2,y3,y4,y5,y6,yf⟩:=of7z (uh HYB)
  obtain ⟨z0,z1,z2,z3,z4,z5,z6,zf⟩:=of7z hY2
  clear b2 hY2 hNU hkd hg2 h1 h2 h3 h4 h5
  go_wp2_with (go_at_call 42;refine (uh HNU).mono ?_;rintro e w3 ⟨⟨qn,cn,rfl,hon⟩,b3⟩;obtain ⟨W3,HW3⟩:∃ Z,w3.setCell ⟨w1.heap.size,6,none⟩ (.slice qn rest.length cn)=Z:=⟨_,rfl⟩;have h3b:=blk_onS (uh HY2B) b3;have hg3:w3.grownBy W3 (some w1.heap.size):=(by rw [<- HW3];exact gr_set (gr_refl _ _) _ _);have h3c:W3.heap[w1.heap.size]? = some (.cells #[.int .i64 5,.int .i64 0,.int .i64 0,.int .i64 0,.string ⟨#[]⟩,.slice none 0 0,.slice qn rest.length cn] 42 (0,0)):=(by rw [<- HW3];exact set7_6 h3b _);have hb3:Below w1.heap.size w1 W3:=below_tr (below_sub (uh HB2) b3) (below_gr hg3 (heap_lt h3b));have hon3:=hon.ty hg3 h3b (by decide);have hxx:W3.heap[w.heap.size]? = some (.cells #[.int .i64 0,.int .i64 0,.int .i64 0,.int .i64 0,.string ⟨#[]⟩,.slice none 0 0,.slice none 0 0] 42 (0,0)):=blk_onS (blk_onS (uh HXB) (uh B1)) hb3;obtain ⟨hres,hg4⟩:=set7_all hxx (.int .i64 5) (.int .i64 0) (.int .i64 0) (.int .i64 0) (.string ⟨#[]⟩) (.slice none 0 0) (.slice qn rest.length cn);obtain ⟨W9,HW9⟩:∃ Z,(((((((W3.setCell ⟨w.heap.size,0,none⟩ (.int .i64 5)).setCell ⟨w.heap.size,1,none⟩ (.int .i64 0)).setCell ⟨w.heap.size,2,none⟩ (.int .i64 0)).setCell ⟨w.heap.size,3,none⟩ (.int .i64 0)).setCell ⟨w.heap.size,4,none⟩ (.string ⟨#[]⟩)).setCell ⟨w.heap.size,5,none⟩ (.slice none 0 0)).setCell ⟨w.heap.size,6,none⟩ (.slice qn rest.length cn))=Z:=⟨_,rfl⟩;rw [HW9] at hres hg4;have HRES:=hide hres;have HON:=hide ((hon3.ty hg4 hxx (by decide)).mono (show w.heap.size<=Y2.heap.size from (by have:=(uh BX).size;have:=(uh B1).size;have:=(uh HB2).size;omega)));have HBE:=hide (below_tr (below_sub (below_sub (uh BX) (uh B1)) hb3) (below_gr hg4 (heap_lt hxx)));clear y0 y1 y2 y3 y4 y5 y6 yf;obtain ⟨y0,y1,y2,y3,y4,y5,y6,yf⟩:=of7z h3b;obtain ⟨v0,v1,v2,v3,v4,v5,v6,vf⟩:=of7z h3c;obtain ⟨x0,x1,x2,x3,x4,x5,x6,xf⟩:=of7z hxx;have hne1:¬ w.heap.size=w1.heap.size:=(by have:=heap_lt (blk_onS (uh HXB) (uh B1));omega);have hne2:¬ w1.heap.size=w.heap.size:=(by omega);clear h3b hg3 h3c hb3 hon3 hxx hres hg4 hon b3)
  refine bodyPost_ret (results_cell_row rfl _ _ w.heap.size 42 _ (0,0) _ rfl (uh HRES) Tryz.underlying42 rfl Tryz.info42s) rfl ?_
  exact ⟨⟨⟨5,0,0,0,⟨#[]⟩,none,0,0,qn,rest.length,cn⟩,rfl,by rw [uh HRF];exact ⟨rfl,rfl,rfl,rfl,rfl,rfl,by simp,OwnK.nil _ _,uh HON⟩⟩,uh HBE⟩
 by_cases h6:Lb x=wCrash
 ·skip
  have e1:(x.toList == [99,97,108,108])=false:=by rw [ByteArray.toList_eq];exact beq_eq_false_iff_ne.2 h1
  have e2:(x.toList == [115,116,101,112])=false:=by rw [ByteArray.toList_eq];exact beq_eq_false_iff_ne.2 h2
  have e3:(x.toList == [100,114,97,105,110])=false:=by rw [ByteArray.toList_eq];exact beq_eq_false_iff_ne.2 h3
  have e4:(x.toList == [115,116,111,112])=false:=by rw [ByteArray.toList_eq];exact beq_eq_false_iff_ne.2 h4
  have e5:(x.toList == [97,114,109])=false:=by rw [ByteArray.toList_eq];exact beq_eq_false_iff_ne.2 h5
  have e6:(x.toList == [99,114,97,115,104])=true:=by rw [ByteArray.toList_eq];show (Lb x == _)=true;rw [h6];rfl
  have hkd:kindOfW opW 7 (Lb x)=6:=by rw [h6];decide
  obtain ⟨Y2,HY2⟩:∃ Z,Y.setCell ⟨w1.heap.size,0,none⟩ (.int .i64 6)=Z:=⟨_,rfl⟩
  have hg2:Y.grownBy Y2 (some w1.heap.size):=by rw [<- HY2];exact gr_set (gr_refl _ _) _ _
  have hY2:Y2.heap[w1.heap.size]? = some (.cells #[.int .i64 6,.int .i64 0,.int .i64 0,.int .i64 0,.string ⟨#[]⟩,.slice none 0 0,.slice none 0 0] 42 (0,0)):=by rw [<- HY2];exact set7_0 (uh HYB) _
  have b2:Below w1.heap.size w1 Y2:=below_tr (uh BY) (below_gr hg2 (heap_lt (uh HYB)))
  have HRF:=hide (show rfOp (Lb s)=⟨6,0,0,0,⟨#[]⟩,[],rest.map fun s=>numR (Lb s)⟩ by
   unfold rfOp
   rw [<- uh HWS]
   simp only [List.map_cons]
   unfold rfWs
   rw [hkd,if_neg (by decide),List.map_map]
   rfl)
  have HB2:=hide b2
  have HY2B:=hide hY2
  have hNU:=refNumbers_any q5 (cp - 1) rest Y2 (by have:=(uh HLE).1;omega) (fun r hr=>by have:=(uh HLE).2 r (List.mem_cons_of_mem _ hr);omega) ((uh HLT).below b2)
  have HNU:=hide hNU
  obtain ⟨y0,y1,y2,y3,y4,y5,y6,yf⟩:=of7z (uh HYB)
  obtain ⟨z0,z1,z2,z3,z4,z5,z6,zf⟩:=of7z hY2
  clear b2 hY2 hNU hkd hg2 h1 h2 h3 h4 h5 h6
  go_wp2_with (go_at_call 42;refine (uh HNU).mono ?_;rintro e w3 ⟨⟨qn,cn,rfl,hon⟩,b3⟩;obtain ⟨W3,HW3⟩:∃ Z,w3.setCell ⟨w1.heap.size,6,none⟩ (.slice qn rest.length cn)=Z:=⟨_,rfl⟩;have h3b:=blk_onS (uh HY2B) b3;have hg3:w3.grownBy W3 (some w1.heap.size):=(by rw [<- HW3];exact gr_set (gr_refl _ _) _ _);have h3c:W3.heap[w1.heap.size]? = some (.cells #[.int .i64 6,.int .i64 0,.int .i64 0,.int .i64 0,.string ⟨#[]⟩,.slice none 0 0,.slice qn rest.length cn] 42 (0,0)):=(by rw [<- HW3];exact set7_6 h3b _);have hb3:Below w1.heap.size w1 W3:=below_tr (below_sub (uh HB2) b3) (below_gr hg3 (heap_lt h3b));have hon3:=hon.ty hg3 h3b (by decide);have hxx:W3.heap[w.heap.size]? = some (.cells #[.int .i64 0,.int .i64 0,.int .i64 0,.int .i64 0,.string ⟨#[]⟩,.slice none 0 0,.slice none 0 0] 42 (0,0)):=blk_onS (blk_onS (uh HXB) (uh B1)) hb3;obtain ⟨hres,hg4⟩:=set7_all hxx (.int .i64 6) (.int .i64 0) (.int .i64 0) (.int .i64 0) (.string ⟨#[]⟩) (.slice none 0 0) (.slice qn rest.length cn);obtain ⟨W9,HW9⟩:∃ Z,(((((((W3.setCell ⟨w.heap.size,0,none⟩ (.int .i64 6)).setCell ⟨w.heap.size,1,none⟩ (.int .i64 0)).setCell ⟨w.heap.size,2,none⟩ (.int .i64 0)).setCell ⟨w.heap.size,3,none⟩ (.int .i64 0)).setCell ⟨w.heap.size,4,none⟩ (.string ⟨#[]⟩)).setCell ⟨w.heap.size,5,none⟩ (.slice none 0 0)).setCell ⟨w.heap.size,6,none⟩ (.slice qn rest.length cn))=Z:=⟨_,rfl⟩;rw [HW9] at hres hg4;have HRES:=hide hres;have HON:=hide ((hon3.ty hg4 hxx (by decide)).mono (show w.heap.size<=Y2.heap.size from (by have:=(uh BX).size;have:=(uh B1).size;have:=(uh HB2).size;omega)));have HBE:=hide (below_tr (below_sub (below_sub (uh BX) (uh B1)) hb3) (below_gr hg4 (heap_lt hxx)));clear y0 y1 y2 y3 y4 y5 y6 yf;obtain ⟨y0,y1,y2,y3,y4,y5,y6,yf⟩:=of7z h3b;obtain ⟨v0,v1,v2,v3,v4,v5,v6,vf⟩:=of7z h3c;obtain ⟨x0,x1,x2,x3,x4,x5,x6,xf⟩:=of7z hxx;have hne1:¬ w.heap.size=w1.heap.size:=(by have:=heap_lt (blk_onS (uh HXB) (uh B1));omega);have hne2:¬ w1.heap.size=w.heap.size:=(by omega);clear h3b hg3 h3c hb3 hon3 hxx hres hg4 hon b3)
  refine bodyPost_ret (results_cell_row rfl _ _ w.heap.size 42 _ (0,0) _ rfl (uh HRES) Tryz.underlying42 rfl Tryz.info42s) rfl ?_
  exact ⟨⟨⟨6,0,0,0,⟨#[]⟩,none,0,0,qn,rest.length,cn⟩,rfl,by rw [uh HRF];exact ⟨rfl,rfl,rfl,rfl,rfl,rfl,by simp,OwnK.nil _ _,uh HON⟩⟩,uh HBE⟩
 by_cases h7:Lb x=wTidy
 ·skip
  have e1:(x.toList == [99,97,108,108])=false:=by rw [ByteArray.toList_eq];exact beq_eq_false_iff_ne.2 h1
  have e2:(x.toList == [115,116,101,112])=false:=by rw [ByteArray.toList_eq];exact beq_eq_false_iff_ne.2 h2
  have e3:(x.toList == [100,114,97,105,110])=false:=by rw [ByteArray.toList_eq];exact beq_eq_false_iff_ne.2 h3
  have e4:(x.toList == [115,116,111,112])=false:=by rw [ByteArray.toList_eq];exact beq_eq_false_iff_ne.2 h4
  have e5:(x.toList == [97,114,109])=false:=by rw [ByteArray.toList_eq];exact beq_eq_false_iff_ne.2 h5
  have e6:(x.toList == [99,114,97,115,104])=false:=by rw [ByteArray.toList_eq];exact beq_eq_false_iff_ne.2 h6
  have e7:(x.toList == [116,105,100,121])=true:=by rw [ByteArray.toList_eq];show (Lb x == _)=true;rw [h7];rfl
  have hkd:kindOfW opW 7 (Lb x)=7:=by rw [h7];decide
  obtain ⟨Y2,HY2⟩:∃ Z,Y.setCell ⟨w1.heap.size,0,none⟩ (.int .i64 7)=Z:=⟨_,rfl⟩
  have hg2:Y.grownBy Y2 (some w1.heap.size):=by rw [<- HY2];exact gr_set (gr_refl _ _) _ _
  have hY2:Y2.heap[w1.heap.size]? = some (.cells #[.int .i64 7,.int .i64 0,.int .i64 0,.int .i64 0,.string ⟨#[]⟩,.slice none 0 0,.slice none 0 0] 42 (0,0)):=by rw [<- HY2];exact set7_0 (uh HYB) _
  have b2:Below w1.heap.size w1 Y2:=below_tr (uh BY) (below_gr hg2 (heap_lt (uh HYB)))
  have HRF:=hide (show rfOp (Lb s)=⟨7,0,0,0,⟨#[]⟩,[],rest.map fun s=>numR (Lb s)⟩ by
   unfold rfOp
   rw [<- uh HWS]
   simp only [List.map_cons]
   unfold rfWs
   rw [hkd,if_neg (by decide),List.map_map]
   rfl)
  have HB2:=hide b2
  have HY2B:=hide hY2
  have hNU:=refNumbers_any q5 (cp - 1) rest Y2 (by have:=(uh HLE).1;omega) (fun r hr=>by have:=(uh HLE).2 r (List.mem_cons_of_mem _ hr);omega) ((uh HLT).below b2)
  have HNU:=hide hNU
  obtain ⟨y0,y1,y2,y3,y4,y5,y6,yf⟩:=of7z (uh HYB)
  obtain ⟨z0,z1,z2,z3,z4,z5,z6,zf⟩:=of7z hY2
  clear b2 hY2 hNU hkd hg2 h1 h2 h3 h4 h5 h6 h7
  go_wp2_with (go_at_call 42;refine (uh HNU).mono ?_;rintro e w3 ⟨⟨qn,cn,rfl,hon⟩,b3⟩;obtain ⟨W3,HW3⟩:∃ Z,w3.setCell ⟨w1.heap.size,6,none⟩ (.slice qn rest.length cn)=Z:=⟨_,rfl⟩;have h3b:=blk_onS (uh HY2B) b3;have hg3:w3.grownBy W3 (some w1.heap.size):=(by rw [<- HW3];exact gr_set (gr_refl _ _) _ _);have h3c:W3.heap[w1.heap.size]? = some (.cells #[.int .i64 7,.int .i64 0,.int .i64 0,.int .i64 0,.string ⟨#[]⟩,.slice none 0 0,.slice qn rest.length cn] 42 (0,0)):=(by rw [<- HW3];exact set7_6 h3b _);have hb3:Below w1.heap.size w1 W3:=below_tr (below_sub (uh HB2) b3) (below_gr hg3 (heap_lt h3b));have hon3:=hon.ty hg3 h3b (by decide);have hxx:W3.heap[w.heap.size]? = some (.cells #[.int .i64 0,.int .i64 0,.int .i64 0,.int .i64 0,.string ⟨#[]⟩,.slice none 0 0,.slice none 0 0] 42 (0,0)):=blk_onS (blk_onS (uh HXB) (uh B1)) hb3;obtain ⟨hres,hg4⟩:=set7_all hxx (.int .i64 7) (.int .i64 0) (.int .i64 0) (.int .i64 0) (.string ⟨#[]⟩) (.slice none 0 0) (.slice qn rest.length cn);obtain ⟨W9,HW9⟩:∃ Z,(((((((W3.setCell ⟨w.heap.size,0,none⟩ (.int .i64 7)).setCell ⟨w.heap.size,1,none⟩ (.int .i64 0)).setCell ⟨w.heap.size,2,none⟩ (.int .i64 0)).setCell ⟨w.heap.size,3,none⟩ (.int .i64 0)).setCell ⟨w.heap.size,4,none⟩ (.string ⟨#[]⟩)).setCell ⟨w.heap.size,5,none⟩ (.slice none 0 0)).setCell ⟨w.heap.size,6,none⟩ (.slice qn rest.length cn))=Z:=⟨_,rfl⟩;rw [HW9] at hres hg4;have HRES:=hide hres;have HON:=hide ((hon3.ty hg4 hxx (by decide)).mono (show w.heap.size<=Y2.heap.size from (by have:=(uh BX).size;have:=(uh B1).size;have:=(uh HB2).size;omega)));have HBE:=hide (below_tr (below_sub (below_sub (uh BX) (uh B1)) hb3) (below_gr hg4 (heap_lt hxx)));clear y0 y1 y2 y3 y4 y5 y6 yf;obtain ⟨y0,y1,y2,y3,y4,y5,y6,yf⟩:=of7z h3b;obtain ⟨v0,v1,v2,v3,v4,v5,v6,vf⟩:=of7z h3c;obtain ⟨x0,x1,x2,x3,x4,x5,x6,xf⟩:=of7z hxx;have hne1:¬ w.heap.size=w1.heap.size:=(by have:=heap_lt (blk_onS (uh HXB) (uh B1));omega);have hne2:¬ w1.heap.size=w.heap.size:=(by omega);clear h3b hg3 h3c hb3 hon3 hxx hres hg4 hon b3)
  refine bodyPost_ret (results_cell_row rfl _ _ w.heap.size 42 _ (0,0) _ rfl (uh HRES) Tryz.underlying42 rfl Tryz.info42s) rfl ?_
  exact ⟨⟨⟨7,0,0,0,⟨#[]⟩,none,0,0,qn,rest.length,cn⟩,rfl,by rw [uh HRF];exact ⟨rfl,rfl,rfl,rfl,rfl,rfl,by simp,OwnK.nil _ _,uh HON⟩⟩,uh HBE⟩
 have e1:(x.toList == [99,97,108,108])=false:=by rw [ByteArray.toList_eq];exact beq_eq_false_iff_ne.2 h1
 have e2:(x.toList == [115,116,101,112])=false:=by rw [ByteArray.toList_eq];exact beq_eq_false_iff_ne.2 h2
 have e3:(x.toList == [100,114,97,105,110])=false:=by rw [ByteArray.toList_eq];exact beq_eq_false_iff_ne.2 h3
 have e4:(x.toList == [115,116,111,112])=false:=by rw [ByteArray.toList_eq];exact beq_eq_false_iff_ne.2 h4
 have e5:(x.toList == [97,114,109])=false:=by rw [ByteArray.toList_eq];exact beq_eq_false_iff_ne.2 h5
 have e6:(x.toList == [99,114,97,115,104])=false:=by rw [ByteArray.toList_eq];exact beq_eq_false_iff_ne.2 h6
 have e7:(x.toList == [116,105,100,121])=false:=by rw [ByteArray.toList_eq];exact beq_eq_false_iff_ne.2 h7
 have hkd:kindOfW opW 7 (Lb x)=0:=kind7 h1 h2 h3 h4 h5 h6 h7
 have b2:Below w1.heap.size w1 Y:=uh BY
 have hY2:=uh HYB
 have HRF:=hide (show rfOp (Lb s)=⟨0,0,0,0,⟨#[]⟩,[],rest.map fun s=>numR (Lb s)⟩ by
  unfold rfOp
  rw [<- uh HWS]
  simp only [List.map_cons]
  unfold rfWs
  rw [hkd,if_neg (by decide),List.map_map]
  rfl)
 have HB2:=hide b2
 have HY2B:=hide hY2
 have hNU:=refNumbers_any q5 (cp - 1) rest Y (by have:=(uh HLE).1;omega) (fun r hr=>by have:=(uh HLE).2 r (List.mem_cons_of_mem _ hr);omega) ((uh HLT).below b2)
 have HNU:=hide hNU
 obtain ⟨y0,y1,y2,y3,y4,y5,y6,yf⟩:=of7z (uh HYB)
 clear b2 hY2 hNU hkd  h1 h2 h3 h4 h5 h6 h7
 go_wp2_with (go_at_call 42;refine (uh HNU).mono ?_;rintro e w3 ⟨⟨qn,cn,rfl,hon⟩,b3⟩;obtain ⟨W3,HW3⟩:∃ Z,w3.setCell ⟨w1.heap.size,6,none⟩ (.slice qn rest.length cn)=Z:=⟨_,rfl⟩;have h3b:=blk_onS (uh HY2B) b3;have hg3:w3.grownBy W3 (some w1.heap.size):=(by rw [<- HW3];exact gr_set (gr_refl _ _) _ _);have h3c:W3.heap[w1.heap.size]? = some (.cells #[.int .i64 0,.int .i64 0,.int .i64 0,.int .i64 0,.string ⟨#[]⟩,.slice none 0 0,.slice qn rest.length cn] 42 (0,0)):=(by rw [<- HW3];exact set7_6 h3b _);have hb3:Below w1.heap.size w1 W3:=below_tr (below_sub (uh HB2) b3) (below_gr hg3 (heap_lt h3b));have hon3:=hon.ty hg3 h3b (by decide);have hxx:W3.heap[w.heap.size]? = some (.cells #[.int .i64 0,.int .i64 0,.int .i64 0,.int .i64 0,.string ⟨#[]⟩,.slice none 0 0,.slice none 0 0] 42 (0,0)):=blk_onS (blk_onS (uh HXB) (uh B1)) hb3;obtain ⟨hres,hg4⟩:=set7_all hxx (.int .i64 0) (.int .i64 0) (.int .i64 0) (.int .i64 0) (.string ⟨#[]⟩) (.slice none 0 0) (.slice qn rest.length cn);obtain ⟨W9,HW9⟩:∃ Z,(((((((W3.setCell ⟨w.heap.size,0,none⟩ (.int .i64 0)).setCell ⟨w.heap.size,1,none⟩ (.int .i64 0)).setCell ⟨w.heap.size,2,none⟩ (.int .i64 0)).setCell ⟨w.heap.size,3,none⟩ (.int .i64 0)).setCell ⟨w.heap.size,4,none⟩ (.string ⟨#[]⟩)).setCell ⟨w.heap.size,5,none⟩ (.slice none 0 0)).setCell ⟨w.heap.size,6,none⟩ (.slice qn rest.length cn))=Z:=⟨_,rfl⟩;rw [HW9] at hres hg4;have HRES:=hide hres;have HON:=hide ((hon3.ty hg4 hxx (by decide)).mono (show w.heap.size<=Y.heap.size from (by have:=(uh BX).size;have:=(uh B1).size;have:=(uh HB2).size;omega)));have HBE:=hide (below_tr (below_sub (below_sub (uh BX) (uh B1)) hb3) (below_gr hg4 (heap_lt hxx)));clear y0 y1 y2 y3 y4 y5 y6 yf;obtain ⟨y0,y1,y2,y3,y4,y5,y6,yf⟩:=of7z h3b;obtain ⟨v0,v1,v2,v3,v4,v5,v6,vf⟩:=of7z h3c;obtain ⟨x0,x1,x2,x3,x4,x5,x6,xf⟩:=of7z hxx;have hne1:¬ w.heap.size=w1.heap.size:=(by have:=heap_lt (blk_onS (uh HXB) (uh B1));omega);have hne2:¬ w1.heap.size=w.heap.size:=(by omega);clear h3b hg3 h3c hb3 hon3 hxx hres hg4 hon b3)
 refine bodyPost_ret (results_cell_row rfl _ _ w.heap.size 42 _ (0,0) _ rfl (uh HRES) Tryz.underlying42 rfl Tryz.info42s) rfl ?_
 exact ⟨⟨⟨0,0,0,0,⟨#[]⟩,none,0,0,qn,rest.length,cn⟩,rfl,by rw [uh HRF];exact ⟨rfl,rfl,rfl,rfl,rfl,rfl,by simp,OwnK.nil _ _,uh HON⟩⟩,uh HBE⟩
end Go.Proofs.YtdgoibnndfibnaaGreatDoor
