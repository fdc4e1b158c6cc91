/- ScriptReads: the law. -/
import Derived.Test.YtdgoibnndfibnaaGreatDoorRZbc
import Derived.Test.YtdgoibnndfibnaaGreatDoorRZaw
import Derived.Test.YtdgoibnndfibnaaGreatDoorRS65
namespace Go.Proofs.YtdgoibnndfibnaaGreatDoor
open Go.RowKit Go.Sort
theorem ovs_of {B:Nat} {w w':World} {qa:Option Addr} {ca:Nat} {qo:Option Addr} {co:Nat} {us:List Ou} {s:Scr} (r:Rows B w qa ca qo co us s) (hb:Below w.heap.size w w') (hz:∀ o ∈ s.ops,o.ev.length<=1000000000/\o.nums.length<=1000000000):OvS B w.heap.size w' qa s.attrs.length ca qo co us:=by
 have hw:=Wr.of_below [] 0 0 hb
 have hop:∀ (j:Nat) (u:Ou),us[j]? = some u->∃ o,o ∈ s.ops/\OpOwn B w u o:=fun j u hu=>by
  have hj:j < s.ops.length:=by rw [<- r.ops.1];exact (List.getElem?_eq_some_iff.1 hu).1
  exact ⟨s.ops[j],List.getElem_mem hj,r.ops.2 j u _ hu (List.getElem?_eq_getElem hj)⟩
 refine ⟨r.at'.raw (Nat.le_refl _) hw,r.op.raw (Nat.le_refl _) hw,fun j u hu=>?_,fun j u hu=>?_⟩
 ·obtain ⟨o,ho,h⟩:=hop j u hu
  rw [h.nn]
  exact ⟨h.nums.raw (Nat.le_refl _) hw,(hz o ho).2⟩
 ·obtain ⟨o,ho,h⟩:=hop j u hu
  rw [h.ne]
  exact ⟨h.ev.raw (Nat.le_refl _) hw,(hz o ho).1⟩
theorem opl_of {B:Nat} {w w':World} {qa:Option Addr} {ca:Nat} {qo:Option Addr} {co:Nat} {us:List Ou} {s:Scr} (r:Rows B w qa ca qo co us s) (hb:Below w.heap.size w w'):OpL w' qo us :=
 (OpL.of r.op).wr (r.op.raw (Nat.le_refl _) (Wr.refl [] 0 0 w)) (Wr.of_below [] 0 0 hb) (by simp)
set_option maxHeartbeats 8000000 in
set_option maxRecDepth 100000 in
theorem reads_ok {w:World} (text:ByteArray) (s:Scr)
  (HF:Hid (∀ W:World,Below w.heap.size w W->Calls Tryz.prog 9 #[] W fun e w'=>e=.returned (.bool true)/\Below W.heap.size W w'))
  (HP:Hid (∀ W:World,Below w.heap.size w W->Calls Tryz.prog 18 #[.string text] W fun e w'=>(∃ (pa:Option Addr) (cpa:Nat) (po:Option Addr) (cpo:Nat) (vs:List Ou),e=.returned (.tuple #[.agg #[.int .i64 s.cfg.d,.int .i64 s.cfg.c,.int .i64 s.cfg.s,.int .i64 s.cfg.t,.int .i64 s.cfg.h,.int .i64 s.cfg.q,.int .i64 s.cfg.w,.int .i64 s.cfg.u,.slice pa s.attrs.length cpa,.slice po vs.length cpo],.int .i64 0,.int .i64 0])/\Rows W.heap.size w' pa cpa po cpo vs s)/\Below W.heap.size W w'))
  (HD:Hid (∀ W:World,Below w.heap.size w W->Calls Tryz.prog 19 #[.string text] W fun e w'=>(∃ (pa:Option Addr) (cpa:Nat) (po:Option Addr) (cpo:Nat) (vs:List Ou),e=.returned (.tuple #[.agg #[.int .i64 s.cfg.d,.int .i64 s.cfg.c,.int .i64 s.cfg.s,.int .i64 s.cfg.t,.int .i64 s.cfg.h,.int .i64 s.cfg.q,.int .i64 s.cfg.w,.int .i64 s.cfg.u,.slice pa s.attrs.length cpa,.slice po vs.length cpo],.int .i64 0,.int .i64 0])/\Rows W.heap.size w' pa cpa po cpo vs s)/\Below W.heap.size W w'))
  (HS:Hid (∀ (W:World) (pa:Option Addr) (cpa:Nat) (po:Option Addr) (cpo:Nat) (vs:List Ou) (pb:Option Addr) (cpb:Nat) (pob:Option Addr) (cpob:Nat) (vb:List Ou),TxIn W pa cpa po cpo vs s->TxIn W pb cpb pob cpob vb s->Calls Tryz.prog 17 #[.agg #[.int .i64 s.cfg.d,.int .i64 s.cfg.c,.int .i64 s.cfg.s,.int .i64 s.cfg.t,.int .i64 s.cfg.h,.int .i64 s.cfg.q,.int .i64 s.cfg.w,.int .i64 s.cfg.u,.slice pa s.attrs.length cpa,.slice po vs.length cpo],.agg #[.int .i64 s.cfg.d,.int .i64 s.cfg.c,.int .i64 s.cfg.s,.int .i64 s.cfg.t,.int .i64 s.cfg.h,.int .i64 s.cfg.q,.int .i64 s.cfg.w,.int .i64 s.cfg.u,.slice pb s.attrs.length cpb,.slice pob vb.length cpob]] W fun e w'=>e=.returned (.bool true)/\Below W.heap.size W w'))
  (HO:Hid (∀ (W:World) (B B':Nat) (pa:Option Addr) (cpa:Nat) (po:Option Addr) (cpo:Nat) (vs:List Ou),B'<=W.heap.size->OvS B B' W pa s.attrs.length cpa po cpo vs->OpL W po vs->vs.length=s.ops.length->Calls Tryz.prog 20 #[.agg #[.int .i64 s.cfg.d,.int .i64 s.cfg.c,.int .i64 s.cfg.s,.int .i64 s.cfg.t,.int .i64 s.cfg.h,.int .i64 s.cfg.q,.int .i64 s.cfg.w,.int .i64 s.cfg.u,.slice pa s.attrs.length cpa,.slice po vs.length cpo]] W fun e w'=>e=.returned (.tuple #[])/\Wr [62,3,78,42] B B' W w'))
  (HZ:Hid (∀ o ∈ s.ops,o.ev.length<=1000000000/\o.nums.length<=1000000000)) :
  Calls Tryz.prog 4 #[.string text] w fun e w'=>e=.returned (.bool true)/\Below w.heap.size w w':=by
 have mixed:Tryz.prog.follows .mixedOrders=true:=by kernel_rfl
 go_enter Tryz.func4,Tryz.ntmps4
 go_upto_region 3 with (go_at_call 9;refine (uh HF w (Below.refl _ _)).mono ?_;rintro e w1 ⟨rfl,b1⟩;have Q1:=hide b1;clear b1)
 go_upto_region 4 with (go_at_call 18;refine (uh HP _ (uh Q1)).mono ?_;rintro e w2 ⟨⟨pa,cpa,po,cpo,vs,rfl,r1⟩,b2⟩;obtain ⟨Y1,HY1⟩:∃ Y,w2.alloc (.cells #[.int .i64 s.cfg.d,.int .i64 s.cfg.c,.int .i64 s.cfg.s,.int .i64 s.cfg.t,.int .i64 s.cfg.h,.int .i64 s.cfg.q,.int .i64 s.cfg.w,.int .i64 s.cfg.u,.slice pa s.attrs.length cpa,.slice po vs.length cpo] 29)=Y:=⟨_,rfl⟩;have bY:Below w2.heap.size w2 Y1:=(by rw [<- HY1];exact (Below.refl _ _).alloc (Nat.le_refl _) _);have hY:Y1.heap[w2.heap.size]? = some (.cells #[.int .i64 s.cfg.d,.int .i64 s.cfg.c,.int .i64 s.cfg.s,.int .i64 s.cfg.t,.int .i64 s.cfg.h,.int .i64 s.cfg.q,.int .i64 s.cfg.w,.int .i64 s.cfg.u,.slice pa s.attrs.length cpa,.slice po vs.length cpo] 29 (0,0)):=(by rw [<- HY1];exact box_new _ _);have R1:=hide (r1.mono (uh Q1).size);have K1:=hide bY;have Q2:=hide (below_sub (uh Q1) (below_sub b2 bY));have l1:w2.heap.size<=Y1.heap.size:=bY.size;have HB1:=hide hY;obtain ⟨x0,x1,x2,x3,x4,x5,x6,x7,x8,x9,xf⟩:=of10z hY;clear r1 b2 bY hY)
 go_upto_region 5 with (go_at_call 19;refine (uh HD _ (uh Q2)).mono ?_;rintro e w3 ⟨⟨pb,cpb,pob,cpob,vb,rfl,r2⟩,b3⟩;obtain ⟨Y2,HY2⟩:∃ Y,w3.alloc (.cells #[.int .i64 s.cfg.d,.int .i64 s.cfg.c,.int .i64 s.cfg.s,.int .i64 s.cfg.t,.int .i64 s.cfg.h,.int .i64 s.cfg.q,.int .i64 s.cfg.w,.int .i64 s.cfg.u,.slice pb s.attrs.length cpb,.slice pob vb.length cpob] 29)=Y:=⟨_,rfl⟩;have bY:Below w3.heap.size w3 Y2:=(by rw [<- HY2];exact (Below.refl _ _).alloc (Nat.le_refl _) _);have hY:Y2.heap[w3.heap.size]? = some (.cells #[.int .i64 s.cfg.d,.int .i64 s.cfg.c,.int .i64 s.cfg.s,.int .i64 s.cfg.t,.int .i64 s.cfg.h,.int .i64 s.cfg.q,.int .i64 s.cfg.w,.int .i64 s.cfg.u,.slice pb s.attrs.length cpb,.slice pob vb.length cpob] 29 (0,0)):=(by rw [<- HY2];exact box_new _ _);have b23:=below_sub b3 bY;have R2:=hide (r2.below bY);have K2:=hide (below_sub (uh K1) b23);have Q3:=hide (below_sub (uh Q2) b23);have l2:w2.heap.size<=w3.heap.size:=Nat.le_trans l1 b3.size;have HC1:=hide (blk_onS (uh HB1) b23);have HC2:=hide hY;clear x0 x1 x2 x3 x4 x5 x6 x7 x8 x9 xf;obtain ⟨x0,x1,x2,x3,x4,x5,x6,x7,x8,x9,xf⟩:=of10z (uh HC1);obtain ⟨y0,y1,y2,y3,y4,y5,y6,y7,y8,y9,yf⟩:=of10z hY;clear r2 b3 bY hY b23)
 go_upto_region 7 with (go_at_call 17;refine (uh HS _ pa cpa po cpo vs pb cpb pob cpob vb ((uh R1).below (uh K2)).tx (uh R2).tx).mono ?_;rintro e w4 ⟨rfl,b4⟩;have K4:=hide (below_sub (uh K2) b4);have R4:=hide ((uh R2).below b4);have Q4:=hide (below_sub (uh Q3) b4);have HD1:=hide (blk_onS (uh HC1) b4);have HD2:=hide (blk_onS (uh HC2) b4);clear x0 x1 x2 x3 x4 x5 x6 x7 x8 x9 xf y0 y1 y2 y3 y4 y5 y6 y7 y8 y9 yf;obtain ⟨x0,x1,x2,x3,x4,x5,x6,x7,x8,x9,xf⟩:=of10z (uh HD1);obtain ⟨y0,y1,y2,y3,y4,y5,y6,y7,y8,y9,yf⟩:=of10z (uh HD2);clear b4)
 go_upto_region 8 with (go_at_call 18;have tb:=Q4;clear tb;refine (uh HP _ (uh Q4)).mono ?_;rintro e w5 ⟨⟨pc,cpc,poc,cpoc,vc,rfl,r5⟩,b5⟩;obtain ⟨Y3,HY3⟩:∃ Y,w5.alloc (.cells #[.int .i64 s.cfg.d,.int .i64 s.cfg.c,.int .i64 s.cfg.s,.int .i64 s.cfg.t,.int .i64 s.cfg.h,.int .i64 s.cfg.q,.int .i64 s.cfg.w,.int .i64 s.cfg.u,.slice pc s.attrs.length cpc,.slice poc vc.length cpoc] 29)=Y:=⟨_,rfl⟩;have bY:Below w5.heap.size w5 Y3:=(by rw [<- HY3];exact (Below.refl _ _).alloc (Nat.le_refl _) _);have hY:Y3.heap[w5.heap.size]? = some (.cells #[.int .i64 s.cfg.d,.int .i64 s.cfg.c,.int .i64 s.cfg.s,.int .i64 s.cfg.t,.int .i64 s.cfg.h,.int .i64 s.cfg.q,.int .i64 s.cfg.w,.int .i64 s.cfg.u,.slice pc s.attrs.length cpc,.slice poc vc.length cpoc] 29 (0,0)):=(by rw [<- HY3];exact box_new _ _);have b45:=below_sub b5 bY;have l5:w2.heap.size<=w4.heap.size:=(uh K4).size;have l6:w2.heap.size<=w5.heap.size:=Nat.le_trans l5 b5.size;have R5:=hide ((r5.below bY).mono l5);have R6:=hide (((uh R4).below b45).mono l1);have K5:=hide (below_sub (uh K4) b45);have Q5:=hide (below_sub (uh Q4) b45);have HE1:=hide (blk_onS (uh HD1) b45);have HE2:=hide (blk_onS (uh HD2) b45);have HE3:=hide hY;clear x0 x1 x2 x3 x4 x5 x6 x7 x8 x9 xf y0 y1 y2 y3 y4 y5 y6 y7 y8 y9 yf;obtain ⟨x0,x1,x2,x3,x4,x5,x6,x7,x8,x9,xf⟩:=of10z (uh HE1);obtain ⟨y0,y1,y2,y3,y4,y5,y6,y7,y8,y9,yf⟩:=of10z (uh HE2);obtain ⟨z0,z1,z2,z3,z4,z5,z6,z7,z8,z9,zf⟩:=of10z hY;clear r5 b5 bY hY b45)
 go_upto_region 9 with (go_at_call 20;refine (uh HO _ w.heap.size w2.heap.size pa cpa po cpo vs (uh K5).size (ovs_of (uh R1) (uh K5) (uh HZ)) (opl_of (uh R1) (uh K5)) (uh R1).ops.1).mono ?_;rintro e w6 ⟨rfl,h6⟩;have RA:=hide ((uh R5).past h6);have RB:=hide ((uh R6).past h6);have Q6:=hide ((uh Q5).trans (h6.below (uh Q5).size));have HG2:=hide ((h6.past _ (heap_lt (uh HE2)) (Or.inr l2)).trans (uh HE2));have HG3:=hide ((h6.past _ (heap_lt (uh HE3)) (Or.inr l6)).trans (uh HE3));clear x0 x1 x2 x3 x4 x5 x6 x7 x8 x9 xf y0 y1 y2 y3 y4 y5 y6 y7 y8 y9 yf z0 z1 z2 z3 z4 z5 z6 z7 z8 z9 zf;obtain ⟨y0,y1,y2,y3,y4,y5,y6,y7,y8,y9,yf⟩:=of10z (uh HG2);obtain ⟨z0,z1,z2,z3,z4,z5,z6,z7,z8,z9,zf⟩:=of10z (uh HG3);clear h6)
 go_wp2_with (go_at_call 17;have tb:=Q6;clear tb;refine (uh HS _ pc cpc poc cpoc vc pb cpb pob cpob vb (uh RA).tx (uh RB).tx).mono ?_;rintro e w7 ⟨rfl,b7⟩;have Q7:=hide (below_sub (uh Q6) b7);clear b7)
 go_ret
 exact ⟨rfl,uh Q7⟩
set_option maxHeartbeats 8000000 in
set_option maxRecDepth 100000 in
theorem reads_bad {w:World} (text:ByteArray) (n:Nat)
  (HF:Hid (∀ W:World,Below w.heap.size w W->Calls Tryz.prog 9 #[] W fun e w'=>e=.returned (.bool true)/\Below W.heap.size W w'))
  (HP:Hid (∀ W:World,Below w.heap.size w W->Calls Tryz.prog 18 #[.string text] W fun e w'=>e=.returned (.tuple #[.agg #[.int .i64 0,.int .i64 0,.int .i64 0,.int .i64 0,.int .i64 0,.int .i64 0,.int .i64 0,.int .i64 0,.slice none 0 0,.slice none 0 0],.int .i64 (n:Int),.int .i64 10])/\Below W.heap.size W w'))
  (HD:Hid (∀ W:World,Below w.heap.size w W->Calls Tryz.prog 19 #[.string text] W fun e w'=>e=.returned (.tuple #[.agg #[.int .i64 0,.int .i64 0,.int .i64 0,.int .i64 0,.int .i64 0,.int .i64 0,.int .i64 0,.int .i64 0,.slice none 0 0,.slice none 0 0],.int .i64 (n:Int),.int .i64 10])/\Below W.heap.size W w'))
  (HS:Hid (∀ W:World,Calls Tryz.prog 17 #[.agg #[.int .i64 0,.int .i64 0,.int .i64 0,.int .i64 0,.int .i64 0,.int .i64 0,.int .i64 0,.int .i64 0,.slice none 0 0,.slice none 0 0],.agg #[.int .i64 0,.int .i64 0,.int .i64 0,.int .i64 0,.int .i64 0,.int .i64 0,.int .i64 0,.int .i64 0,.slice none 0 0,.slice none 0 0]] W fun e w'=>e=.returned (.bool true)/\Below W.heap.size W w'))
  (HO:Hid (∀ W:World,Calls Tryz.prog 20 #[.agg #[.int .i64 0,.int .i64 0,.int .i64 0,.int .i64 0,.int .i64 0,.int .i64 0,.int .i64 0,.int .i64 0,.slice none 0 0,.slice none 0 0]] W fun e w'=>e=.returned (.tuple #[])/\Below W.heap.size W w')) :
  Calls Tryz.prog 4 #[.string text] w fun e w'=>e=.returned (.bool true)/\Below w.heap.size w w':=by
 have mixed:Tryz.prog.follows .mixedOrders=true:=by kernel_rfl
 have hnn:((n:Int) != (n:Int))=false:=by simp
 go_enter Tryz.func4,Tryz.ntmps4
 go_upto_region 3 with (go_at_call 9;refine (uh HF w (Below.refl _ _)).mono ?_;rintro e w1 ⟨rfl,b1⟩;have Q1:=hide b1;clear b1)
 go_upto_region 4 with (go_at_call 18;refine (uh HP _ (uh Q1)).mono ?_;rintro e w2 ⟨rfl,b2⟩;have Q2:=hide (bal (below_sub (uh Q1) b2) (.cells #[.int .i64 0,.int .i64 0,.int .i64 0,.int .i64 0,.int .i64 0,.int .i64 0,.int .i64 0,.int .i64 0,.slice none 0 0,.slice none 0 0] 29));have HB1:=hide (box_new w2 (.cells #[.int .i64 0,.int .i64 0,.int .i64 0,.int .i64 0,.int .i64 0,.int .i64 0,.int .i64 0,.int .i64 0,.slice none 0 0,.slice none 0 0] 29));clear b2)
 go_upto_region 5 with (go_at_call 19;refine (uh HD _ (uh Q2)).mono ?_;rintro e w3 ⟨rfl,b3⟩;have b23:=bal b3 (.cells #[.int .i64 0,.int .i64 0,.int .i64 0,.int .i64 0,.int .i64 0,.int .i64 0,.int .i64 0,.int .i64 0,.slice none 0 0,.slice none 0 0] 29);have Q3:=hide (below_sub (uh Q2) b23);have HC1:=hide (blk_onS (uh HB1) b23);have HC2:=hide (box_new w3 (.cells #[.int .i64 0,.int .i64 0,.int .i64 0,.int .i64 0,.int .i64 0,.int .i64 0,.int .i64 0,.int .i64 0,.slice none 0 0,.slice none 0 0] 29));obtain ⟨x0,x1,x2,x3,x4,x5,x6,x7,x8,x9,xf⟩:=of10z (uh HC1);obtain ⟨y0,y1,y2,y3,y4,y5,y6,y7,y8,y9,yf⟩:=of10z (uh HC2);clear b3 b23)
 go_upto_region 7 with (go_at_call 17;refine (uh HS _).mono ?_;rintro e w4 ⟨rfl,b4⟩;have Q4:=hide (below_sub (uh Q3) b4);have HD1:=hide (blk_onS (uh HC1) b4);have HD2:=hide (blk_onS (uh HC2) b4);clear x0 x1 x2 x3 x4 x5 x6 x7 x8 x9 xf y0 y1 y2 y3 y4 y5 y6 y7 y8 y9 yf b4)
 go_upto_region 8 with (go_at_call 18;have tb:=Q4;clear tb;refine (uh HP _ (uh Q4)).mono ?_;rintro e w5 ⟨rfl,b5⟩;have b45:=bal b5 (.cells #[.int .i64 0,.int .i64 0,.int .i64 0,.int .i64 0,.int .i64 0,.int .i64 0,.int .i64 0,.int .i64 0,.slice none 0 0,.slice none 0 0] 29);have Q5:=hide (below_sub (uh Q4) b45);have HE1:=hide (blk_onS (uh HD1) b45);have HE2:=hide (blk_onS (uh HD2) b45);have HE3:=hide (box_new w5 (.cells #[.int .i64 0,.int .i64 0,.int .i64 0,.int .i64 0,.int .i64 0,.int .i64 0,.int .i64 0,.int .i64 0,.slice none 0 0,.slice none 0 0] 29));obtain ⟨x0,x1,x2,x3,x4,x5,x6,x7,x8,x9,xf⟩:=of10z (uh HE1);obtain ⟨y0,y1,y2,y3,y4,y5,y6,y7,y8,y9,yf⟩:=of10z (uh HE2);obtain ⟨z0,z1,z2,z3,z4,z5,z6,z7,z8,z9,zf⟩:=of10z (uh HE3);clear b5 b45)
 go_upto_region 9 with (go_at_call 20;refine (uh HO _).mono ?_;rintro e w6 ⟨rfl,b6⟩;have Q6:=hide (below_sub (uh Q5) b6);have HG2:=hide (blk_onS (uh HE2) b6);have HG3:=hide (blk_onS (uh HE3) b6);clear x0 x1 x2 x3 x4 x5 x6 x7 x8 x9 xf y0 y1 y2 y3 y4 y5 y6 y7 y8 y9 yf z0 z1 z2 z3 z4 z5 z6 z7 z8 z9 zf;obtain ⟨y0,y1,y2,y3,y4,y5,y6,y7,y8,y9,yf⟩:=of10z (uh HG2);obtain ⟨z0,z1,z2,z3,z4,z5,z6,z7,z8,z9,zf⟩:=of10z (uh HG3);clear b6)
 go_wp2_with (go_at_call 17;have tb:=Q6;clear tb;refine (uh HS _).mono ?_;rintro e w7 ⟨rfl,b7⟩;have Q7:=hide (below_sub (uh Q6) b7);clear b7)
 go_ret
 exact ⟨rfl,uh Q7⟩
end Go.Proofs.YtdgoibnndfibnaaGreatDoor
namespace Go.Proofs.YtdgoibnndfibnaaGreatDoor
open Go.RowKit Go.Sort
theorem refParse_rows {text:ByteArray} {s:Scr} (h:readS (Lb text)=(0,some s)) (hz:text.size<=1048576) (W:World):Calls Tryz.prog 19 #[.string text] W fun e w'=>(∃ (pa:Option Addr) (cpa:Nat) (po:Option Addr) (cpo:Nat) (vs:List Ou),e=.returned (.tuple #[.agg #[.int .i64 s.cfg.d,.int .i64 s.cfg.c,.int .i64 s.cfg.s,.int .i64 s.cfg.t,.int .i64 s.cfg.h,.int .i64 s.cfg.q,.int .i64 s.cfg.w,.int .i64 s.cfg.u,.slice pa s.attrs.length cpa,.slice po vs.length cpo],.int .i64 0,.int .i64 0])/\Rows W.heap.size w' pa cpa po cpo vs s)/\Below W.heap.size W w':=by
 refine (refParseScr_any text W hz).mono ?_
 rintro e w' ⟨h1,hb⟩
 refine ⟨?_,hb⟩
 rcases h1 with ⟨s',hs,qa,ca,qo,co,us,rfl,hr⟩ | ⟨n,hn,_⟩
 ·rw [h] at hs
  injection hs with _ hs
  injection hs with hs
  subst hs
  exact ⟨_,_,_,_,_,rfl,hr⟩
 ·rw [h] at hn
  injection hn with _ hn
  cases hn
theorem parse_rows2 {text:ByteArray} {s:Scr} (h:readS (Lb text)=(0,some s)) (hz:text.size<=1048576) (W:World) (hG:G W):Calls Tryz.prog 18 #[.string text] W fun e w'=>(∃ (pa:Option Addr) (cpa:Nat) (po:Option Addr) (cpo:Nat) (vs:List Ou),e=.returned (.tuple #[.agg #[.int .i64 s.cfg.d,.int .i64 s.cfg.c,.int .i64 s.cfg.s,.int .i64 s.cfg.t,.int .i64 s.cfg.h,.int .i64 s.cfg.q,.int .i64 s.cfg.w,.int .i64 s.cfg.u,.slice pa s.attrs.length cpa,.slice po vs.length cpo],.int .i64 0,.int .i64 0])/\Rows W.heap.size w' pa cpa po cpo vs s)/\Below W.heap.size W w':=by
 refine (parseScr_any (Lb text) W hG (by rw [lb_len];omega) text (lb_self text)).mono ?_
 rintro e w' ⟨h1,hb⟩
 refine ⟨?_,hb⟩
 rcases h1 with ⟨s',hs,qa,ca,qo,co,us,rfl,hr⟩ | ⟨n,hn,_⟩
 ·rw [h] at hs
  injection hs with _ hs
  injection hs with hs
  subst hs
  exact ⟨_,_,_,_,_,rfl,hr⟩
 ·rw [h] at hn
  injection hn with _ hn
  cases hn
theorem refParse_zero {text:ByteArray} {n:Nat} (h:readS (Lb text)=(n,none)) (hz:text.size<=1048576) (W:World):Calls Tryz.prog 19 #[.string text] W fun e w'=>e=.returned (.tuple #[.agg #[.int .i64 0,.int .i64 0,.int .i64 0,.int .i64 0,.int .i64 0,.int .i64 0,.int .i64 0,.int .i64 0,.slice none 0 0,.slice none 0 0],.int .i64 (n:Int),.int .i64 10])/\Below W.heap.size W w':=by
 refine (refParseScr_any text W hz).mono ?_
 rintro e w' ⟨h1,hb⟩
 refine ⟨?_,hb⟩
 rcases h1 with ⟨s',hs,_⟩ | ⟨m,hn,rfl⟩
 ·rw [h] at hs
  injection hs with _ hs
  cases hs
 ·rw [h] at hn
  injection hn with hn _
  subst hn
  rfl
theorem zero_over (W:World):Calls Tryz.prog 20 #[.agg #[.int .i64 0,.int .i64 0,.int .i64 0,.int .i64 0,.int .i64 0,.int .i64 0,.int .i64 0,.int .i64 0,.slice none 0 0,.slice none 0 0]] W fun e w'=>e=.returned (.tuple #[])/\Below W.heap.size W w':=by
 have h:=over_20 W.heap.size W.heap.size W (Nat.le_refl _) scr0.cfg none 0 0 none 0 [] ⟨Or.inl ⟨rfl,rfl,rfl⟩,Or.inl ⟨rfl,rfl,rfl⟩,fun j u h=>by simp at h,fun j u h=>by simp at h⟩ (fun g h=>by cases h) (by decide) (by decide)
 exact h.mono fun e w' h=>⟨h.1,h.2.above (Nat.le_refl _)⟩
theorem scriptReads_law {w:World} (text:ByteArray) (hz:text.size<=1048576) (hG:G w) :
  Calls Tryz.prog 4 #[.string text] w fun e w'=>e=.returned (.bool true)/\Below w.heap.size w w':=by
 have HF:=hide (fun (W:World) (hW:Below w.heap.size w W)=>fixed_any W (G_below hG hW))
 have hlen:(Lb text).length<=1048576:=by rw [lb_len];exact hz
 rcases readS_cases (Lb text) with ⟨s,hs⟩ | ⟨n,hn⟩
 ·obtain ⟨_,hok⟩:=readS_sound hs
  have hK:=readS_K hs
  have hZ:∀ o ∈ s.ops,o.ev.length<=1000000000/\o.nums.length<=1000000000:=fun o ho=>by
   have:=(hK.ops o ho).2
   omega
  have hat:=hok.attrs.1
  have hop:=hok.len
  refine reads_ok text s HF (hide fun W hW=>parse_rows2 hs hz W (G_below hG hW)) (hide fun W _=>refParse_rows hs hz W) (hide fun W pa cpa po cpo vs pb cpb pob cpob vb h1 h2=>?_) (hide fun W B B' pa cpa po cpo vs hB h1 h2 h3=>over_20 B B' W hB s.cfg pa _ cpa po cpo vs h1 h2 (by omega) (by omega)) (hide hZ)
  have h:=refSame_scr W pa cpa po cpo vs s pb cpb pob cpob vb s h1 h2 (by omega) (by have:=h1.len;omega) (fun o ho=>by have:=hZ o ho;omega)
  rw [sameB_refl] at h
  exact h
 ·exact reads_bad text n HF (hide fun W hW=>parse_zero (Lb text) n hn text (lb_self text) (by omega) W (G_below hG hW)) (hide fun W _=>refParse_zero hn hz W) (hide zero_same) (hide zero_over)
end Go.Proofs.YtdgoibnndfibnaaGreatDoor
