/- ScriptBack: the law. -/
import Derived.Test.YtdgoibnndfibnaaGreatDoorBS38
import Derived.Test.YtdgoibnndfibnaaGreatDoorBZan
namespace Go.Proofs.YtdgoibnndfibnaaGreatDoor
open Go.RowKit Go.Sort
set_option maxHeartbeats 8000000 in
set_option maxRecDepth 100000 in
theorem back_11 {w:World} (qa:Option Addr) (ca:Nat) (qo:Option Addr) (co:Nat) (us:List Ou) (s:Scr) (text:ByteArray) (T:ByteArray) (r:Scr)
  (HF:Hid (∀ W:World,Below w.heap.size w W->Calls Tryz.prog 9 #[] W fun e w'=>e=.returned (.bool true)/\Below W.heap.size W w'))
  (HT1:Hid (∀ W:World,Below w.heap.size w W->Calls Tryz.prog 11 #[.agg #[.int .i64 s.cfg.d,.int .i64 s.cfg.c,.int .i64 s.cfg.s,.int .i64 s.cfg.t,.int .i64 s.cfg.h,.int .i64 s.cfg.q,.int .i64 s.cfg.w,.int .i64 s.cfg.u,.slice qa s.attrs.length ca,.slice qo us.length co]] W fun e w'=>e=.returned (.tuple #[.string T,.int .i64 0])/\Below W.heap.size W w'))
  (HP1:Hid (∀ W:World,Below w.heap.size w W->Calls Tryz.prog 18 #[.string T] W fun e w'=>(∃ (pa:Option Addr) (cpa:Nat) (po:Option Addr) (cpo:Nat) (vs:List Ou),e=.returned (.tuple #[.agg #[.int .i64 s.cfg.d,.int .i64 s.cfg.c,.int .i64 s.cfg.s,.int .i64 s.cfg.t,.int .i64 s.cfg.h,.int .i64 s.cfg.q,.int .i64 s.cfg.w,.int .i64 s.cfg.u,.slice pa s.attrs.length cpa,.slice po vs.length cpo],.int .i64 0,.int .i64 0])/\TxIn w' pa cpa po cpo vs s)/\Below W.heap.size W w'))
  (HS1:Hid (∀ (W:World) (pa:Option Addr) (cpa:Nat) (po:Option Addr) (cpo:Nat) (vs:List Ou),Below w.heap.size w W->TxIn W pa cpa po cpo vs s->Calls Tryz.prog 17 #[.agg #[.int .i64 s.cfg.d,.int .i64 s.cfg.c,.int .i64 s.cfg.s,.int .i64 s.cfg.t,.int .i64 s.cfg.h,.int .i64 s.cfg.q,.int .i64 s.cfg.w,.int .i64 s.cfg.u,.slice pa s.attrs.length cpa,.slice po vs.length cpo],.agg #[.int .i64 s.cfg.d,.int .i64 s.cfg.c,.int .i64 s.cfg.s,.int .i64 s.cfg.t,.int .i64 s.cfg.h,.int .i64 s.cfg.q,.int .i64 s.cfg.w,.int .i64 s.cfg.u,.slice qa s.attrs.length ca,.slice qo us.length co]] W fun e w'=>e=.returned (.bool true)/\Below W.heap.size W w'))
  (HP2:Hid (∀ W:World,Below w.heap.size w W->Calls Tryz.prog 18 #[.string text] W fun e w'=>(∃ (pa:Option Addr) (cpa:Nat) (po:Option Addr) (cpo:Nat) (vs:List Ou),e=.returned (.tuple #[.agg #[.int .i64 r.cfg.d,.int .i64 r.cfg.c,.int .i64 r.cfg.s,.int .i64 r.cfg.t,.int .i64 r.cfg.h,.int .i64 r.cfg.q,.int .i64 r.cfg.w,.int .i64 r.cfg.u,.slice pa r.attrs.length cpa,.slice po vs.length cpo],.int .i64 0,.int .i64 0])/\TxIn w' pa cpa po cpo vs r)/\Below W.heap.size W w'))
  (HT2:Hid (∀ (W:World) (pa:Option Addr) (cpa:Nat) (po:Option Addr) (cpo:Nat) (vs:List Ou),Below w.heap.size w W->TxIn W pa cpa po cpo vs r->Calls Tryz.prog 11 #[.agg #[.int .i64 r.cfg.d,.int .i64 r.cfg.c,.int .i64 r.cfg.s,.int .i64 r.cfg.t,.int .i64 r.cfg.h,.int .i64 r.cfg.q,.int .i64 r.cfg.w,.int .i64 r.cfg.u,.slice pa r.attrs.length cpa,.slice po vs.length cpo]] W fun e w'=>e=.returned (.tuple #[.string text,.int .i64 0])/\Below W.heap.size W w')) :
  Calls Tryz.prog 6 #[.agg #[.int .i64 s.cfg.d,.int .i64 s.cfg.c,.int .i64 s.cfg.s,.int .i64 s.cfg.t,.int .i64 s.cfg.h,.int .i64 s.cfg.q,.int .i64 s.cfg.w,.int .i64 s.cfg.u,.slice qa s.attrs.length ca,.slice qo us.length co],.string text] w fun e w'=>e=.returned (.bool true)/\Below w.heap.size w w':=by
 have mixed:Tryz.prog.follows .mixedOrders=true:=by kernel_rfl
 obtain ⟨X,HX⟩:∃ X,w.alloc (.cells #[.int .i64 s.cfg.d,.int .i64 s.cfg.c,.int .i64 s.cfg.s,.int .i64 s.cfg.t,.int .i64 s.cfg.h,.int .i64 s.cfg.q,.int .i64 s.cfg.w,.int .i64 s.cfg.u,.slice qa s.attrs.length ca,.slice qo us.length co] 29)=X:=⟨_,rfl⟩
 have bX:Below w.heap.size w X:=by rw [<- HX];exact (Below.refl _ _).alloc (Nat.le_refl _) _
 have hx:X.heap[w.heap.size]? = some (.cells #[.int .i64 s.cfg.d,.int .i64 s.cfg.c,.int .i64 s.cfg.s,.int .i64 s.cfg.t,.int .i64 s.cfg.h,.int .i64 s.cfg.q,.int .i64 s.cfg.w,.int .i64 s.cfg.u,.slice qa s.attrs.length ca,.slice qo us.length co] 29 (0,0)):=by rw [<- HX];exact box_new _ _
 obtain ⟨x0,x1,x2,x3,x4,x5,x6,x7,x8,x9,xf⟩:=of10z hx
 have HXB:=hide hx
 have BX:=hide bX
 replace HF:=hide ((uh HF) X bX)
 replace HT1:=hide (fun W (hW:Below X.heap.size X W)=>(uh HT1) W (below_sub bX hW))
 replace HP2:=hide (fun W (hW:Below X.heap.size X W)=>(uh HP2) W (below_sub bX hW))
 replace HP1:=hide (fun W (hW:Below X.heap.size X W)=>(uh HP1) W (below_sub bX hW))
 replace HS1:=hide (fun W pa cpa po cpo vs (hW:Below X.heap.size X W)=>(uh HS1) W pa cpa po cpo vs (below_sub bX hW))
 replace HT2:=hide (fun W pa cpa po cpo vs (hW:Below X.heap.size X W)=>(uh HT2) W pa cpa po cpo vs (below_sub bX hW))
 have hrr:(text.toList == text.toList)=true:=by simp
 clear bX hx xf
 go_enter Tryz.func6,Tryz.ntmps6
 go_wp2_with (first
  | (go_at_call 11;refine (uh HT2 _ pa5 cpa5 po5 cpo5 vs5 (uh B5) (uh TX5)).mono ?_;rintro e w6 ⟨rfl,b6⟩;have B6:=hide (below_sub (uh B5) b6);clear b6)
  | (go_at_call 18;refine (uh HP2 _ (uh B4)).mono ?_;rintro e w5 ⟨⟨pa5,cpa5,po5,cpo5,vs5,rfl,tx⟩,b5⟩;obtain ⟨Y5,HY5⟩:∃ Y,w5.alloc (.cells #[.int .i64 r.cfg.d,.int .i64 r.cfg.c,.int .i64 r.cfg.s,.int .i64 r.cfg.t,.int .i64 r.cfg.h,.int .i64 r.cfg.q,.int .i64 r.cfg.w,.int .i64 r.cfg.u,.slice pa5 r.attrs.length cpa5,.slice po5 vs5.length cpo5] 29)=Y:=⟨_,rfl⟩;have bY:Below w5.heap.size w5 Y5:=(by rw [<- HY5];exact (Below.refl _ _).alloc (Nat.le_refl _) _);have hY:Y5.heap[w5.heap.size]? = some (.cells #[.int .i64 r.cfg.d,.int .i64 r.cfg.c,.int .i64 r.cfg.s,.int .i64 r.cfg.t,.int .i64 r.cfg.h,.int .i64 r.cfg.q,.int .i64 r.cfg.w,.int .i64 r.cfg.u,.slice pa5 r.attrs.length cpa5,.slice po5 vs5.length cpo5] 29 (0,0)):=(by rw [<- HY5];exact box_new _ _);have TX5:=hide (tx.below bY);have B5:=hide (below_sub (uh B4) (below_sub b5 bY));obtain ⟨z0,z1,z2,z3,z4,z5,z6,z7,z8,z9,zf⟩:=of10z hY;clear tx b5 bY hY zf)
  | (go_at_call 17;refine (uh HS1 _ pa cpa po cpo vs (uh B3) (uh TXV)).mono ?_;rintro e w4 ⟨rfl,b4⟩;have B4:=hide (below_sub (uh B3) b4);clear x0 x1 x2 x3 x4 x5 x6 x7 x8 x9 y0 y1 y2 y3 y4 y5 y6 y7 y8 y9;clear b4)
  | (go_at_call 18;refine (uh HP1 _ (uh B2)).mono ?_;rintro e w3 ⟨⟨pa,cpa,po,cpo,vs,rfl,tx⟩,b3⟩;obtain ⟨Y,HY⟩:∃ Y,w3.alloc (.cells #[.int .i64 s.cfg.d,.int .i64 s.cfg.c,.int .i64 s.cfg.s,.int .i64 s.cfg.t,.int .i64 s.cfg.h,.int .i64 s.cfg.q,.int .i64 s.cfg.w,.int .i64 s.cfg.u,.slice pa s.attrs.length cpa,.slice po vs.length cpo] 29)=Y:=⟨_,rfl⟩;have bY:Below w3.heap.size w3 Y:=(by rw [<- HY];exact (Below.refl _ _).alloc (Nat.le_refl _) _);have hY:Y.heap[w3.heap.size]? = some (.cells #[.int .i64 s.cfg.d,.int .i64 s.cfg.c,.int .i64 s.cfg.s,.int .i64 s.cfg.t,.int .i64 s.cfg.h,.int .i64 s.cfg.q,.int .i64 s.cfg.w,.int .i64 s.cfg.u,.slice pa s.attrs.length cpa,.slice po vs.length cpo] 29 (0,0)):=(by rw [<- HY];exact box_new _ _);have TXV:=hide (tx.below bY);have B3:=hide (below_sub (uh B2) (below_sub b3 bY));obtain ⟨y0,y1,y2,y3,y4,y5,y6,y7,y8,y9,yf⟩:=of10z hY;clear x0 x1 x2 x3 x4 x5 x6 x7 x8 x9;obtain ⟨x0,x1,x2,x3,x4,x5,x6,x7,x8,x9,xf⟩:=of10z (blk_onS (uh HXB) (uh B3));clear xf;clear tx b3 bY hY yf)
  | (go_at_call 11;refine (uh HT1 _ (uh B1)).mono ?_;rintro e w2 ⟨rfl,b2⟩;have B2:=hide (below_sub (uh B1) b2);clear x0 x1 x2 x3 x4 x5 x6 x7 x8 x9;obtain ⟨x0,x1,x2,x3,x4,x5,x6,x7,x8,x9,xf⟩:=of10z (blk_onS (uh HXB) (uh B2));clear xf;clear b2)
  | (go_at_call 9;refine (uh HF).mono ?_;rintro e w1 ⟨rfl,b1⟩;have B1:=hide b1;clear x0 x1 x2 x3 x4 x5 x6 x7 x8 x9;obtain ⟨x0,x1,x2,x3,x4,x5,x6,x7,x8,x9,xf⟩:=of10z (blk_onS (uh HXB) b1);clear xf;clear b1))
 go_ret
 exact ⟨rfl,below_sub (uh BX) (uh B6)⟩
set_option maxHeartbeats 8000000 in
set_option maxRecDepth 100000 in
theorem back_10 {w:World} (qa:Option Addr) (ca:Nat) (qo:Option Addr) (co:Nat) (us:List Ou) (s:Scr) (text:ByteArray) (T:ByteArray) (n:Nat) (hn:1<=n)
  (HF:Hid (∀ W:World,Below w.heap.size w W->Calls Tryz.prog 9 #[] W fun e w'=>e=.returned (.bool true)/\Below W.heap.size W w'))
  (HT1:Hid (∀ W:World,Below w.heap.size w W->Calls Tryz.prog 11 #[.agg #[.int .i64 s.cfg.d,.int .i64 s.cfg.c,.int .i64 s.cfg.s,.int .i64 s.cfg.t,.int .i64 s.cfg.h,.int .i64 s.cfg.q,.int .i64 s.cfg.w,.int .i64 s.cfg.u,.slice qa s.attrs.length ca,.slice qo us.length co]] W fun e w'=>e=.returned (.tuple #[.string T,.int .i64 0])/\Below W.heap.size W w'))
  (HP1:Hid (∀ W:World,Below w.heap.size w W->Calls Tryz.prog 18 #[.string T] W fun e w'=>(∃ (pa:Option Addr) (cpa:Nat) (po:Option Addr) (cpo:Nat) (vs:List Ou),e=.returned (.tuple #[.agg #[.int .i64 s.cfg.d,.int .i64 s.cfg.c,.int .i64 s.cfg.s,.int .i64 s.cfg.t,.int .i64 s.cfg.h,.int .i64 s.cfg.q,.int .i64 s.cfg.w,.int .i64 s.cfg.u,.slice pa s.attrs.length cpa,.slice po vs.length cpo],.int .i64 0,.int .i64 0])/\TxIn w' pa cpa po cpo vs s)/\Below W.heap.size W w'))
  (HS1:Hid (∀ (W:World) (pa:Option Addr) (cpa:Nat) (po:Option Addr) (cpo:Nat) (vs:List Ou),Below w.heap.size w W->TxIn W pa cpa po cpo vs s->Calls Tryz.prog 17 #[.agg #[.int .i64 s.cfg.d,.int .i64 s.cfg.c,.int .i64 s.cfg.s,.int .i64 s.cfg.t,.int .i64 s.cfg.h,.int .i64 s.cfg.q,.int .i64 s.cfg.w,.int .i64 s.cfg.u,.slice pa s.attrs.length cpa,.slice po vs.length cpo],.agg #[.int .i64 s.cfg.d,.int .i64 s.cfg.c,.int .i64 s.cfg.s,.int .i64 s.cfg.t,.int .i64 s.cfg.h,.int .i64 s.cfg.q,.int .i64 s.cfg.w,.int .i64 s.cfg.u,.slice qa s.attrs.length ca,.slice qo us.length co]] W fun e w'=>e=.returned (.bool true)/\Below W.heap.size W w'))
  (HP2:Hid (∀ W:World,Below w.heap.size w W->Calls Tryz.prog 18 #[.string text] W fun e w'=>e=.returned (.tuple #[.agg #[.int .i64 0,.int .i64 0,.int .i64 0,.int .i64 0,.int .i64 0,.int .i64 0,.int .i64 0,.int .i64 0,.slice none 0 0,.slice none 0 0],.int .i64 (n:Int),.int .i64 10])/\Below W.heap.size W w'))
  (HS2:Hid (∀ W:World,Calls Tryz.prog 17 #[.agg #[.int .i64 0,.int .i64 0,.int .i64 0,.int .i64 0,.int .i64 0,.int .i64 0,.int .i64 0,.int .i64 0,.slice none 0 0,.slice none 0 0],.agg #[.int .i64 0,.int .i64 0,.int .i64 0,.int .i64 0,.int .i64 0,.int .i64 0,.int .i64 0,.int .i64 0,.slice none 0 0,.slice none 0 0]] W fun e w'=>e=.returned (.bool true)/\Below W.heap.size W w')) :
  Calls Tryz.prog 6 #[.agg #[.int .i64 s.cfg.d,.int .i64 s.cfg.c,.int .i64 s.cfg.s,.int .i64 s.cfg.t,.int .i64 s.cfg.h,.int .i64 s.cfg.q,.int .i64 s.cfg.w,.int .i64 s.cfg.u,.slice qa s.attrs.length ca,.slice qo us.length co],.string text] w fun e w'=>e=.returned (.bool true)/\Below w.heap.size w w':=by
 have mixed:Tryz.prog.follows .mixedOrders=true:=by kernel_rfl
 obtain ⟨X,HX⟩:∃ X,w.alloc (.cells #[.int .i64 s.cfg.d,.int .i64 s.cfg.c,.int .i64 s.cfg.s,.int .i64 s.cfg.t,.int .i64 s.cfg.h,.int .i64 s.cfg.q,.int .i64 s.cfg.w,.int .i64 s.cfg.u,.slice qa s.attrs.length ca,.slice qo us.length co] 29)=X:=⟨_,rfl⟩
 have bX:Below w.heap.size w X:=by rw [<- HX];exact (Below.refl _ _).alloc (Nat.le_refl _) _
 have hx:X.heap[w.heap.size]? = some (.cells #[.int .i64 s.cfg.d,.int .i64 s.cfg.c,.int .i64 s.cfg.s,.int .i64 s.cfg.t,.int .i64 s.cfg.h,.int .i64 s.cfg.q,.int .i64 s.cfg.w,.int .i64 s.cfg.u,.slice qa s.attrs.length ca,.slice qo us.length co] 29 (0,0)):=by rw [<- HX];exact box_new _ _
 obtain ⟨x0,x1,x2,x3,x4,x5,x6,x7,x8,x9,xf⟩:=of10z hx
 have HXB:=hide hx
 have BX:=hide bX
 replace HF:=hide ((uh HF) X bX)
 replace HT1:=hide (fun W (hW:Below X.heap.size X W)=>(uh HT1) W (below_sub bX hW))
 replace HP2:=hide (fun W (hW:Below X.heap.size X W)=>(uh HP2) W (below_sub bX hW))
 replace HP1:=hide (fun W (hW:Below X.heap.size X W)=>(uh HP1) W (below_sub bX hW))
 replace HS1:=hide (fun W pa cpa po cpo vs (hW:Below X.heap.size X W)=>(uh HS1) W pa cpa po cpo vs (below_sub bX hW))
 have n1:(n:Int) ≥ 1:=by omega
 have n2:decide ((n:Int) ≥ 1)=true:=decide_eq_true n1
 have n3:(1:Int)<=(n:Int):=by omega
 have n4:1<=n:=hn
 clear bX hx xf
 go_enter Tryz.func6,Tryz.ntmps6
 go_wp2_with (first
  | (go_at_call 17;have tb:=B5;clear tb;refine (uh HS2 _).mono ?_;rintro e w6 ⟨rfl,b6⟩;have B6:=hide (below_sub (uh B5) b6);clear b6)
  | (go_at_call 18;refine (uh HP2 _ (uh B4)).mono ?_;rintro e w5 ⟨rfl,b5⟩;have B5:=hide (bal (below_sub (uh B4) b5) (.cells #[.int .i64 0,.int .i64 0,.int .i64 0,.int .i64 0,.int .i64 0,.int .i64 0,.int .i64 0,.int .i64 0,.slice none 0 0,.slice none 0 0] 29));clear b5)
  | (go_at_call 17;refine (uh HS1 _ pa cpa po cpo vs (uh B3) (uh TXV)).mono ?_;rintro e w4 ⟨rfl,b4⟩;have B4:=hide (below_sub (uh B3) b4);clear x0 x1 x2 x3 x4 x5 x6 x7 x8 x9 y0 y1 y2 y3 y4 y5 y6 y7 y8 y9;clear b4)
  | (go_at_call 18;refine (uh HP1 _ (uh B2)).mono ?_;rintro e w3 ⟨⟨pa,cpa,po,cpo,vs,rfl,tx⟩,b3⟩;obtain ⟨Y,HY⟩:∃ Y,w3.alloc (.cells #[.int .i64 s.cfg.d,.int .i64 s.cfg.c,.int .i64 s.cfg.s,.int .i64 s.cfg.t,.int .i64 s.cfg.h,.int .i64 s.cfg.q,.int .i64 s.cfg.w,.int .i64 s.cfg.u,.slice pa s.attrs.length cpa,.slice po vs.length cpo] 29)=Y:=⟨_,rfl⟩;have bY:Below w3.heap.size w3 Y:=(by rw [<- HY];exact (Below.refl _ _).alloc (Nat.le_refl _) _);have hY:Y.heap[w3.heap.size]? = some (.cells #[.int .i64 s.cfg.d,.int .i64 s.cfg.c,.int .i64 s.cfg.s,.int .i64 s.cfg.t,.int .i64 s.cfg.h,.int .i64 s.cfg.q,.int .i64 s.cfg.w,.int .i64 s.cfg.u,.slice pa s.attrs.length cpa,.slice po vs.length cpo] 29 (0,0)):=(by rw [<- HY];exact box_new _ _);have TXV:=hide (tx.below bY);have B3:=hide (below_sub (uh B2) (below_sub b3 bY));obtain ⟨y0,y1,y2,y3,y4,y5,y6,y7,y8,y9,yf⟩:=of10z hY;clear x0 x1 x2 x3 x4 x5 x6 x7 x8 x9;obtain ⟨x0,x1,x2,x3,x4,x5,x6,x7,x8,x9,xf⟩:=of10z (blk_onS (uh HXB) (uh B3));clear xf;clear tx b3 bY hY yf)
  | (go_at_call 11;refine (uh HT1 _ (uh B1)).mono ?_;rintro e w2 ⟨rfl,b2⟩;have B2:=hide (below_sub (uh B1) b2);clear x0 x1 x2 x3 x4 x5 x6 x7 x8 x9;obtain ⟨x0,x1,x2,x3,x4,x5,x6,x7,x8,x9,xf⟩:=of10z (blk_onS (uh HXB) (uh B2));clear xf;clear b2)
  | (go_at_call 9;refine (uh HF).mono ?_;rintro e w1 ⟨rfl,b1⟩;have B1:=hide b1;clear x0 x1 x2 x3 x4 x5 x6 x7 x8 x9;obtain ⟨x0,x1,x2,x3,x4,x5,x6,x7,x8,x9,xf⟩:=of10z (blk_onS (uh HXB) b1);clear xf;clear b1))
 go_ret
 exact ⟨rfl,below_sub (uh BX) (uh B6)⟩
set_option maxHeartbeats 8000000 in
set_option maxRecDepth 100000 in
theorem back_01 {w:World} (qa:Option Addr) (ca:Nat) (qo:Option Addr) (co:Nat) (us:List Ou) (s:Scr) (text:ByteArray)  (r:Scr)
  (HF:Hid (∀ W:World,Below w.heap.size w W->Calls Tryz.prog 9 #[] W fun e w'=>e=.returned (.bool true)/\Below W.heap.size W w'))
  (HT1:Hid (∀ W:World,Below w.heap.size w W->Calls Tryz.prog 11 #[.agg #[.int .i64 s.cfg.d,.int .i64 s.cfg.c,.int .i64 s.cfg.s,.int .i64 s.cfg.t,.int .i64 s.cfg.h,.int .i64 s.cfg.q,.int .i64 s.cfg.w,.int .i64 s.cfg.u,.slice qa s.attrs.length ca,.slice qo us.length co]] W fun e w'=>e=.returned (.tuple #[.string ⟨#[]⟩,.int .i64 1])/\Below W.heap.size W w'))
  (HP2:Hid (∀ W:World,Below w.heap.size w W->Calls Tryz.prog 18 #[.string text] W fun e w'=>(∃ (pa:Option Addr) (cpa:Nat) (po:Option Addr) (cpo:Nat) (vs:List Ou),e=.returned (.tuple #[.agg #[.int .i64 r.cfg.d,.int .i64 r.cfg.c,.int .i64 r.cfg.s,.int .i64 r.cfg.t,.int .i64 r.cfg.h,.int .i64 r.cfg.q,.int .i64 r.cfg.w,.int .i64 r.cfg.u,.slice pa r.attrs.length cpa,.slice po vs.length cpo],.int .i64 0,.int .i64 0])/\TxIn w' pa cpa po cpo vs r)/\Below W.heap.size W w'))
  (HT2:Hid (∀ (W:World) (pa:Option Addr) (cpa:Nat) (po:Option Addr) (cpo:Nat) (vs:List Ou),Below w.heap.size w W->TxIn W pa cpa po cpo vs r->Calls Tryz.prog 11 #[.agg #[.int .i64 r.cfg.d,.int .i64 r.cfg.c,.int .i64 r.cfg.s,.int .i64 r.cfg.t,.int .i64 r.cfg.h,.int .i64 r.cfg.q,.int .i64 r.cfg.w,.int .i64 r.cfg.u,.slice pa r.attrs.length cpa,.slice po vs.length cpo]] W fun e w'=>e=.returned (.tuple #[.string text,.int .i64 0])/\Below W.heap.size W w')) :
  Calls Tryz.prog 6 #[.agg #[.int .i64 s.cfg.d,.int .i64 s.cfg.c,.int .i64 s.cfg.s,.int .i64 s.cfg.t,.int .i64 s.cfg.h,.int .i64 s.cfg.q,.int .i64 s.cfg.w,.int .i64 s.cfg.u,.slice qa s.attrs.length ca,.slice qo us.length co],.string text] w fun e w'=>e=.returned (.bool true)/\Below w.heap.size w w':=by
 have mixed:Tryz.prog.follows .mixedOrders=true:=by kernel_rfl
 obtain ⟨X,HX⟩:∃ X,w.alloc (.cells #[.int .i64 s.cfg.d,.int .i64 s.cfg.c,.int .i64 s.cfg.s,.int .i64 s.cfg.t,.int .i64 s.cfg.h,.int .i64 s.cfg.q,.int .i64 s.cfg.w,.int .i64 s.cfg.u,.slice qa s.attrs.length ca,.slice qo us.length co] 29)=X:=⟨_,rfl⟩
 have bX:Below w.heap.size w X:=by rw [<- HX];exact (Below.refl _ _).alloc (Nat.le_refl _) _
 have hx:X.heap[w.heap.size]? = some (.cells #[.int .i64 s.cfg.d,.int .i64 s.cfg.c,.int .i64 s.cfg.s,.int .i64 s.cfg.t,.int .i64 s.cfg.h,.int .i64 s.cfg.q,.int .i64 s.cfg.w,.int .i64 s.cfg.u,.slice qa s.attrs.length ca,.slice qo us.length co] 29 (0,0)):=by rw [<- HX];exact box_new _ _
 obtain ⟨x0,x1,x2,x3,x4,x5,x6,x7,x8,x9,xf⟩:=of10z hx
 have HXB:=hide hx
 have BX:=hide bX
 replace HF:=hide ((uh HF) X bX)
 replace HT1:=hide (fun W (hW:Below X.heap.size X W)=>(uh HT1) W (below_sub bX hW))
 replace HP2:=hide (fun W (hW:Below X.heap.size X W)=>(uh HP2) W (below_sub bX hW))
 replace HT2:=hide (fun W pa cpa po cpo vs (hW:Below X.heap.size X W)=>(uh HT2) W pa cpa po cpo vs (below_sub bX hW))
 have hrr:(text.toList == text.toList)=true:=by simp
 clear bX hx xf
 go_enter Tryz.func6,Tryz.ntmps6
 go_wp2_with (first
  | (go_at_call 11;refine (uh HT2 _ pa5 cpa5 po5 cpo5 vs5 (uh B5) (uh TX5)).mono ?_;rintro e w6 ⟨rfl,b6⟩;have B6:=hide (below_sub (uh B5) b6);clear b6)
  | (go_at_call 18;refine (uh HP2 _ (uh B2)).mono ?_;rintro e w5 ⟨⟨pa5,cpa5,po5,cpo5,vs5,rfl,tx⟩,b5⟩;obtain ⟨Y5,HY5⟩:∃ Y,w5.alloc (.cells #[.int .i64 r.cfg.d,.int .i64 r.cfg.c,.int .i64 r.cfg.s,.int .i64 r.cfg.t,.int .i64 r.cfg.h,.int .i64 r.cfg.q,.int .i64 r.cfg.w,.int .i64 r.cfg.u,.slice pa5 r.attrs.length cpa5,.slice po5 vs5.length cpo5] 29)=Y:=⟨_,rfl⟩;have bY:Below w5.heap.size w5 Y5:=(by rw [<- HY5];exact (Below.refl _ _).alloc (Nat.le_refl _) _);have hY:Y5.heap[w5.heap.size]? = some (.cells #[.int .i64 r.cfg.d,.int .i64 r.cfg.c,.int .i64 r.cfg.s,.int .i64 r.cfg.t,.int .i64 r.cfg.h,.int .i64 r.cfg.q,.int .i64 r.cfg.w,.int .i64 r.cfg.u,.slice pa5 r.attrs.length cpa5,.slice po5 vs5.length cpo5] 29 (0,0)):=(by rw [<- HY5];exact box_new _ _);have TX5:=hide (tx.below bY);have B5:=hide (below_sub (uh B2) (below_sub b5 bY));obtain ⟨z0,z1,z2,z3,z4,z5,z6,z7,z8,z9,zf⟩:=of10z hY;clear tx b5 bY hY zf)
  | (go_at_call 11;refine (uh HT1 _ (uh B1)).mono ?_;rintro e w2 ⟨rfl,b2⟩;have B2:=hide (below_sub (uh B1) b2);clear x0 x1 x2 x3 x4 x5 x6 x7 x8 x9;obtain ⟨x0,x1,x2,x3,x4,x5,x6,x7,x8,x9,xf⟩:=of10z (blk_onS (uh HXB) (uh B2));clear xf;clear b2)
  | (go_at_call 9;refine (uh HF).mono ?_;rintro e w1 ⟨rfl,b1⟩;have B1:=hide b1;clear x0 x1 x2 x3 x4 x5 x6 x7 x8 x9;obtain ⟨x0,x1,x2,x3,x4,x5,x6,x7,x8,x9,xf⟩:=of10z (blk_onS (uh HXB) b1);clear xf;clear b1))
 go_ret
 exact ⟨rfl,below_sub (uh BX) (uh B6)⟩
set_option maxHeartbeats 8000000 in
set_option maxRecDepth 100000 in
theorem back_00 {w:World} (qa:Option Addr) (ca:Nat) (qo:Option Addr) (co:Nat) (us:List Ou) (s:Scr) (text:ByteArray)  (n:Nat) (hn:1<=n)
  (HF:Hid (∀ W:World,Below w.heap.size w W->Calls Tryz.prog 9 #[] W fun e w'=>e=.returned (.bool true)/\Below W.heap.size W w'))
  (HT1:Hid (∀ W:World,Below w.heap.size w W->Calls Tryz.prog 11 #[.agg #[.int .i64 s.cfg.d,.int .i64 s.cfg.c,.int .i64 s.cfg.s,.int .i64 s.cfg.t,.int .i64 s.cfg.h,.int .i64 s.cfg.q,.int .i64 s.cfg.w,.int .i64 s.cfg.u,.slice qa s.attrs.length ca,.slice qo us.length co]] W fun e w'=>e=.returned (.tuple #[.string ⟨#[]⟩,.int .i64 1])/\Below W.heap.size W w'))
  (HP2:Hid (∀ W:World,Below w.heap.size w W->Calls Tryz.prog 18 #[.string text] W fun e w'=>e=.returned (.tuple #[.agg #[.int .i64 0,.int .i64 0,.int .i64 0,.int .i64 0,.int .i64 0,.int .i64 0,.int .i64 0,.int .i64 0,.slice none 0 0,.slice none 0 0],.int .i64 (n:Int),.int .i64 10])/\Below W.heap.size W w'))
  (HS2:Hid (∀ W:World,Calls Tryz.prog 17 #[.agg #[.int .i64 0,.int .i64 0,.int .i64 0,.int .i64 0,.int .i64 0,.int .i64 0,.int .i64 0,.int .i64 0,.slice none 0 0,.slice none 0 0],.agg #[.int .i64 0,.int .i64 0,.int .i64 0,.int .i64 0,.int .i64 0,.int .i64 0,.int .i64 0,.int .i64 0,.slice none 0 0,.slice none 0 0]] W fun e w'=>e=.returned (.bool true)/\Below W.heap.size W w')) :
  Calls Tryz.prog 6 #[.agg #[.int .i64 s.cfg.d,.int .i64 s.cfg.c,.int .i64 s.cfg.s,.int .i64 s.cfg.t,.int .i64 s.cfg.h,.int .i64 s.cfg.q,.int .i64 s.cfg.w,.int .i64 s.cfg.u,.slice qa s.attrs.length ca,.slice qo us.length co],.string text] w fun e w'=>e=.returned (.bool true)/\Below w.heap.size w w':=by
 have mixed:Tryz.prog.follows .mixedOrders=true:=by kernel_rfl
 obtain ⟨X,HX⟩:∃ X,w.alloc (.cells #[.int .i64 s.cfg.d,.int .i64 s.cfg.c,.int .i64 s.cfg.s,.int .i64 s.cfg.t,.int .i64 s.cfg.h,.int .i64 s.cfg.q,.int .i64 s.cfg.w,.int .i64 s.cfg.u,.slice qa s.attrs.length ca,.slice qo us.length co] 29)=X:=⟨_,rfl⟩
 have bX:Below w.heap.size w X:=by rw [<- HX];exact (Below.refl _ _).alloc (Nat.le_refl _) _
 have hx:X.heap[w.heap.size]? = some (.cells #[.int .i64 s.cfg.d,.int .i64 s.cfg.c,.int .i64 s.cfg.s,.int .i64 s.cfg.t,.int .i64 s.cfg.h,.int .i64 s.cfg.q,.int .i64 s.cfg.w,.int .i64 s.cfg.u,.slice qa s.attrs.length ca,.slice qo us.length co] 29 (0,0)):=by rw [<- HX];exact box_new _ _
 obtain ⟨x0,x1,x2,x3,x4,x5,x6,x7,x8,x9,xf⟩:=of10z hx
 have HXB:=hide hx
 have BX:=hide bX
 replace HF:=hide ((uh HF) X bX)
 replace HT1:=hide (fun W (hW:Below X.heap.size X W)=>(uh HT1) W (below_sub bX hW))
 replace HP2:=hide (fun W (hW:Below X.heap.size X W)=>(uh HP2) W (below_sub bX hW))
 have n1:(n:Int) ≥ 1:=by omega
 have n2:decide ((n:Int) ≥ 1)=true:=decide_eq_true n1
 have n3:(1:Int)<=(n:Int):=by omega
 have n4:1<=n:=hn
 clear bX hx xf
 go_enter Tryz.func6,Tryz.ntmps6
 go_wp2_with (first
  | (go_at_call 17;have tb:=B5;clear tb;refine (uh HS2 _).mono ?_;rintro e w6 ⟨rfl,b6⟩;have B6:=hide (below_sub (uh B5) b6);clear b6)
  | (go_at_call 18;refine (uh HP2 _ (uh B2)).mono ?_;rintro e w5 ⟨rfl,b5⟩;have B5:=hide (bal (below_sub (uh B2) b5) (.cells #[.int .i64 0,.int .i64 0,.int .i64 0,.int .i64 0,.int .i64 0,.int .i64 0,.int .i64 0,.int .i64 0,.slice none 0 0,.slice none 0 0] 29));clear b5)
  | (go_at_call 11;refine (uh HT1 _ (uh B1)).mono ?_;rintro e w2 ⟨rfl,b2⟩;have B2:=hide (below_sub (uh B1) b2);clear x0 x1 x2 x3 x4 x5 x6 x7 x8 x9;obtain ⟨x0,x1,x2,x3,x4,x5,x6,x7,x8,x9,xf⟩:=of10z (blk_onS (uh HXB) (uh B2));clear xf;clear b2)
  | (go_at_call 9;refine (uh HF).mono ?_;rintro e w1 ⟨rfl,b1⟩;have B1:=hide b1;clear x0 x1 x2 x3 x4 x5 x6 x7 x8 x9;obtain ⟨x0,x1,x2,x3,x4,x5,x6,x7,x8,x9,xf⟩:=of10z (blk_onS (uh HXB) b1);clear xf;clear b1))
 go_ret
 exact ⟨rfl,below_sub (uh BX) (uh B6)⟩
theorem parse_rows (L:Bs) (s:Scr) (h:readS L=(0,some s)) (text:ByteArray) (ht:text=⟨L.toArray⟩) (hz:L.length<=100000000000) (W:World) (hG:G W) :
  Calls Tryz.prog 18 #[.string text] W fun e w'=>(∃ (pa:Option Addr) (cpa:Nat) (po:Option Addr) (cpo:Nat) (vs:List Ou),e=.returned (.tuple #[.agg #[.int .i64 s.cfg.d,.int .i64 s.cfg.c,.int .i64 s.cfg.s,.int .i64 s.cfg.t,.int .i64 s.cfg.h,.int .i64 s.cfg.q,.int .i64 s.cfg.w,.int .i64 s.cfg.u,.slice pa s.attrs.length cpa,.slice po vs.length cpo],.int .i64 0,.int .i64 0])/\TxIn w' pa cpa po cpo vs s)/\Below W.heap.size W w':=by
 refine (parseScr_any L W hG hz text ht).mono ?_
 rintro e w' ⟨h1,hb⟩
 refine ⟨?_,hb⟩
 rcases h1 with ⟨s',hs,qa,ca,qo,co,us,rfl,hr⟩ | ⟨n,hn,_⟩
 ·rw [h] at hs
  injection hs with _ hs
  injection hs with hs
  subst hs
  exact ⟨_,_,_,_,_,rfl,hr.tx⟩
 ·rw [h] at hn
  injection hn with _ hn
  cases hn
theorem parse_zero (L:Bs) (m:Nat) (h:readS L=(m,none)) (text:ByteArray) (ht:text=⟨L.toArray⟩) (hz:L.length<=100000000000) (W:World) (hG:G W) :
  Calls Tryz.prog 18 #[.string text] W fun e w'=>e=.returned (.tuple #[.agg #[.int .i64 0,.int .i64 0,.int .i64 0,.int .i64 0,.int .i64 0,.int .i64 0,.int .i64 0,.int .i64 0,.slice none 0 0,.slice none 0 0],.int .i64 (m:Int),.int .i64 10])/\Below W.heap.size W w':=by
 refine (parseScr_any L W hG hz text ht).mono ?_
 rintro e w' ⟨h1,hb⟩
 refine ⟨?_,hb⟩
 rcases h1 with ⟨s',hs,_⟩ | ⟨n,hn,rfl⟩
 ·rw [h] at hs
  injection hs with _ hs
  cases hs
 ·rw [h] at hn
  injection hn with hn _
  subst hn
  rfl
theorem zero_same (W:World):Calls Tryz.prog 17 #[.agg #[.int .i64 0,.int .i64 0,.int .i64 0,.int .i64 0,.int .i64 0,.int .i64 0,.int .i64 0,.int .i64 0,.slice none 0 0,.slice none 0 0],.agg #[.int .i64 0,.int .i64 0,.int .i64 0,.int .i64 0,.int .i64 0,.int .i64 0,.int .i64 0,.int .i64 0,.slice none 0 0,.slice none 0 0]] W fun e w'=>e=.returned (.bool true)/\Below W.heap.size W w':=by
 have h0:TxIn W none 0 none 0 [] scr0:=⟨SlOf.none _,SlOf.none _,rfl,fun j u o h1 _=>by simp at h1⟩
 have h:=refSame_scr W none 0 none 0 [] scr0 none 0 none 0 [] scr0 h0 h0 (by decide) (by simp) (fun o ho=>by simp [scr0] at ho)
 rw [sameB_refl] at h
 exact h
theorem ScrK.Z {K:Nat} {s:Scr} (h:ScrK K s) (hK:K<=100000000000):∀ o ∈ s.ops,OpZ o:=fun o ho=>by
 have:=(h.ops o ho).2
 unfold OpZ;omega
theorem scriptBack_law {w:World} (hG:G w) (qa:Option Addr) (ca:Nat) (qo:Option Addr) (co:Nat) (us:List Ou) (s:Scr) (hin:TxIn w qa ca qo co us s) (hI:ScrI s) (hZ:∀ o ∈ s.ops,OpZ o) (hat:s.attrs.length * 24<=140737488355328) (hop:s.ops.length<=1000000000000) (hT:ScrOk s->(scrB s).length<=100000000000) (text:ByteArray) (hz:text.size<=100000000000) :
  Calls Tryz.prog 6 #[.agg #[.int .i64 s.cfg.d,.int .i64 s.cfg.c,.int .i64 s.cfg.s,.int .i64 s.cfg.t,.int .i64 s.cfg.h,.int .i64 s.cfg.q,.int .i64 s.cfg.w,.int .i64 s.cfg.u,.slice qa s.attrs.length ca,.slice qo us.length co],.string text] w fun e w'=>e=.returned (.bool true)/\Below w.heap.size w w':=by
 have HF:=hide (fun (W:World) (hW:Below w.heap.size w W)=>fixed_any W (G_below hG hW))
 have h1:=fun (W:World) (hW:Below w.heap.size w W)=>text_scr W (G_below hG hW) qa ca qo co us s (hin.below hW) hI hZ hat hop (fun h=>Nat.le_trans (hT h) (by decide))
 have HS2:=hide zero_same
 have hlen:(Lb text).length<=100000000000:=by rw [lb_len];exact hz
 by_cases hok:ScrOk s
 ·have hP:=fun (W:World) (hW:Below w.heap.size w W)=>parse_rows (scrB s) s (read_scr hok hI) ⟨(scrB s).toArray⟩ rfl (hT hok) W (G_below hG hW)
  have hO:∀ o ∈ s.ops,o.ev.length<=140737488355328/\o.nums.length<=140737488355328:=fun o ho=>by
   have:=hZ o ho
   unfold OpZ at this;omega
  have hS:=fun (W:World) (pa:Option Addr) (cpa:Nat) (po:Option Addr) (cpo:Nat) (vs:List Ou) (hW:Below w.heap.size w W) (ht:TxIn W pa cpa po cpo vs s)=>(sameB_refl s) ▸ refSame_scr W pa cpa po cpo vs s qa ca qo co us s ht (hin.below hW) (by omega) (by have:=ht.len;omega) hO
  rw [show txL s=⟨(scrB s).toArray⟩ by unfold txL;rw [if_pos hok],show txE s=0 by unfold txE;rw [if_pos hok]] at h1
  rcases readS_cases (Lb text) with ⟨r,hr⟩ | ⟨n,hn⟩
  ·obtain ⟨e1,e2⟩:=readS_sound hr
   have hK:=readS_K hr
   refine back_11 qa ca qo co us s text _ r HF (hide h1) (hide hP) (hide hS) (hide fun W hW=>parse_rows (Lb text) r hr text (lb_self text) hlen W (G_below hG hW)) (hide fun W pa cpa po cpo vs hW ht=>?_)
   have h:=text_scr W (G_below hG hW) pa cpa po cpo vs r ht hK.I (hK.Z hlen) (by have:=e2.attrs.1;omega) (by have:=e2.len;omega) (fun _=>by rw [e1];omega)
   rw [show txL r=text by unfold txL;rw [if_pos e2,e1];exact (lb_self text).symm,show txE r=0 by unfold txE;rw [if_pos e2]] at h
   exact h
  ·exact back_10 qa ca qo co us s text _ n (readS_ahead hn).1 HF (hide h1) (hide hP) (hide hS) (hide fun W hW=>parse_zero (Lb text) n hn text (lb_self text) hlen W (G_below hG hW)) HS2
 ·rw [show txL s=⟨#[]⟩ by unfold txL;rw [if_neg hok],show txE s=1 by unfold txE;rw [if_neg hok]] at h1
  rcases readS_cases (Lb text) with ⟨r,hr⟩ | ⟨n,hn⟩
  ·obtain ⟨e1,e2⟩:=readS_sound hr
   have hK:=readS_K hr
   refine back_01 qa ca qo co us s text r HF (hide h1) (hide fun W hW=>parse_rows (Lb text) r hr text (lb_self text) hlen W (G_below hG hW)) (hide fun W pa cpa po cpo vs hW ht=>?_)
   have h:=text_scr W (G_below hG hW) pa cpa po cpo vs r ht hK.I (hK.Z hlen) (by have:=e2.attrs.1;omega) (by have:=e2.len;omega) (fun _=>by rw [e1];omega)
   rw [show txL r=text by unfold txL;rw [if_pos e2,e1];exact (lb_self text).symm,show txE r=0 by unfold txE;rw [if_pos e2]] at h
   exact h
  ·exact back_00 qa ca qo co us s text n (readS_ahead hn).1 HF (hide h1) (hide fun W hW=>parse_zero (Lb text) n hn text (lb_self text) hlen W (G_below hG hW)) HS2
end Go.Proofs.YtdgoibnndfibnaaGreatDoor
