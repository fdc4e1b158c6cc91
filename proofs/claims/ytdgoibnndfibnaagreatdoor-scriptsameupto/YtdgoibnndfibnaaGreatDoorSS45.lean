/- ScriptSame: the law. -/
import Derived.Test.YtdgoibnndfibnaaGreatDoorSS44
import Derived.Test.YtdgoibnndfibnaaGreatDoorSZap
namespace Go.Proofs.YtdgoibnndfibnaaGreatDoor
open Go.RowKit Go.Sort
theorem sameB_comm (s p:Scr):sameB p s=sameB s p:=by
 unfold sameB
 rw [show decide (p.cfg=s.cfg)=decide (s.cfg=p.cfg) from decide_eq_decide.2 ⟨Eq.symm,Eq.symm⟩,show decide (p.attrs=s.attrs)=decide (s.attrs=p.attrs) from decide_eq_decide.2 ⟨Eq.symm,Eq.symm⟩,show decide (p.ops=s.ops)=decide (s.ops=p.ops) from decide_eq_decide.2 ⟨Eq.symm,Eq.symm⟩]
set_option maxHeartbeats 8000000 in
set_option maxRecDepth 100000 in
theorem same_law {w:World} (qa:Option Addr) (ca:Nat) (qo:Option Addr) (co:Nat) (us:List Ou) (s:Scr) (qb:Option Addr) (cb:Nat) (qp:Option Addr) (cp:Nat) (vs:List Ou) (p:Scr) (R:Bool)
  (HF:Hid (∀ W:World,Below w.heap.size w W->Calls Tryz.prog 9 #[] W fun e w'=>e=.returned (.bool true)/\Below W.heap.size W w'))
  (HS1:Hid (∀ W:World,Below w.heap.size w W->Calls Tryz.prog 17 #[.agg #[.int .i64 s.cfg.d,.int .i64 s.cfg.c,.int .i64 s.cfg.s,.int .i64 s.cfg.t,.int .i64 s.cfg.h,.int .i64 s.cfg.q,.int .i64 s.cfg.w,.int .i64 s.cfg.u,.slice qa s.attrs.length ca,.slice qo us.length co],.agg #[.int .i64 p.cfg.d,.int .i64 p.cfg.c,.int .i64 p.cfg.s,.int .i64 p.cfg.t,.int .i64 p.cfg.h,.int .i64 p.cfg.q,.int .i64 p.cfg.w,.int .i64 p.cfg.u,.slice qb p.attrs.length cb,.slice qp vs.length cp]] W fun e w'=>e=.returned (.bool R)/\Below W.heap.size W w'))
  (HS2:Hid (∀ W:World,Below w.heap.size w W->Calls Tryz.prog 21 #[.agg #[.int .i64 s.cfg.d,.int .i64 s.cfg.c,.int .i64 s.cfg.s,.int .i64 s.cfg.t,.int .i64 s.cfg.h,.int .i64 s.cfg.q,.int .i64 s.cfg.w,.int .i64 s.cfg.u,.slice qa s.attrs.length ca,.slice qo us.length co],.agg #[.int .i64 p.cfg.d,.int .i64 p.cfg.c,.int .i64 p.cfg.s,.int .i64 p.cfg.t,.int .i64 p.cfg.h,.int .i64 p.cfg.q,.int .i64 p.cfg.w,.int .i64 p.cfg.u,.slice qb p.attrs.length cb,.slice qp vs.length cp]] W fun e w'=>e=.returned (.bool R)/\Below W.heap.size W w'))
  (HS3:Hid (∀ W:World,Below w.heap.size w W->Calls Tryz.prog 21 #[.agg #[.int .i64 p.cfg.d,.int .i64 p.cfg.c,.int .i64 p.cfg.s,.int .i64 p.cfg.t,.int .i64 p.cfg.h,.int .i64 p.cfg.q,.int .i64 p.cfg.w,.int .i64 p.cfg.u,.slice qb p.attrs.length cb,.slice qp vs.length cp],.agg #[.int .i64 s.cfg.d,.int .i64 s.cfg.c,.int .i64 s.cfg.s,.int .i64 s.cfg.t,.int .i64 s.cfg.h,.int .i64 s.cfg.q,.int .i64 s.cfg.w,.int .i64 s.cfg.u,.slice qa s.attrs.length ca,.slice qo us.length co]] W fun e w'=>e=.returned (.bool R)/\Below W.heap.size W w'))
  (HC:Hid (∀ W:World,Below w.heap.size w W->Calls Tryz.prog 10 #[.agg #[.int .i64 s.cfg.d,.int .i64 s.cfg.c,.int .i64 s.cfg.s,.int .i64 s.cfg.t,.int .i64 s.cfg.h,.int .i64 s.cfg.q,.int .i64 s.cfg.w,.int .i64 s.cfg.u,.slice qa s.attrs.length ca,.slice qo us.length co]] W fun e w'=>(∃ (q3:Option Addr) (c3:Nat) (q4:Option Addr) (c4:Nat) (us':List Ou),e=.returned (.agg #[.int .i64 s.cfg.d,.int .i64 s.cfg.c,.int .i64 s.cfg.s,.int .i64 s.cfg.t,.int .i64 s.cfg.h,.int .i64 s.cfg.q,.int .i64 s.cfg.w,.int .i64 s.cfg.u,.slice q3 s.attrs.length c3,.slice q4 us.length c4])/\us'.length=us.length/\TxIn w' q3 c3 q4 c4 us' s)/\Below W.heap.size W w'))
  (HS4:Hid (∀ (W:World) (q3:Option Addr) (c3:Nat) (q4:Option Addr) (c4:Nat) (us':List Ou),us'.length=us.length->Below w.heap.size w W->TxIn W q3 c3 q4 c4 us' s->Calls Tryz.prog 21 #[.agg #[.int .i64 s.cfg.d,.int .i64 s.cfg.c,.int .i64 s.cfg.s,.int .i64 s.cfg.t,.int .i64 s.cfg.h,.int .i64 s.cfg.q,.int .i64 s.cfg.w,.int .i64 s.cfg.u,.slice qa s.attrs.length ca,.slice qo us.length co],.agg #[.int .i64 s.cfg.d,.int .i64 s.cfg.c,.int .i64 s.cfg.s,.int .i64 s.cfg.t,.int .i64 s.cfg.h,.int .i64 s.cfg.q,.int .i64 s.cfg.w,.int .i64 s.cfg.u,.slice q3 s.attrs.length c3,.slice q4 us.length c4]] W fun e w'=>e=.returned (.bool true)/\Below W.heap.size W w')) :
  Calls Tryz.prog 5 #[.agg #[.int .i64 s.cfg.d,.int .i64 s.cfg.c,.int .i64 s.cfg.s,.int .i64 s.cfg.t,.int .i64 s.cfg.h,.int .i64 s.cfg.q,.int .i64 s.cfg.w,.int .i64 s.cfg.u,.slice qa s.attrs.length ca,.slice qo us.length co],.agg #[.int .i64 p.cfg.d,.int .i64 p.cfg.c,.int .i64 p.cfg.s,.int .i64 p.cfg.t,.int .i64 p.cfg.h,.int .i64 p.cfg.q,.int .i64 p.cfg.w,.int .i64 p.cfg.u,.slice qb p.attrs.length cb,.slice qp vs.length cp]] w fun e w'=>e=.returned (.bool true)/\Below w.heap.size w w':=by
 have mixed:Tryz.prog.follows .mixedOrders=true:=by kernel_rfl
 obtain ⟨X,HX⟩:∃ X,(w.alloc (.cells #[.int .i64 s.cfg.d,.int .i64 s.cfg.c,.int .i64 s.cfg.s,.int .i64 s.cfg.t,.int .i64 s.cfg.h,.int .i64 s.cfg.q,.int .i64 s.cfg.w,.int .i64 s.cfg.u,.slice qa s.attrs.length ca,.slice qo us.length co] 29)).alloc (.cells #[.int .i64 p.cfg.d,.int .i64 p.cfg.c,.int .i64 p.cfg.s,.int .i64 p.cfg.t,.int .i64 p.cfg.h,.int .i64 p.cfg.q,.int .i64 p.cfg.w,.int .i64 p.cfg.u,.slice qb p.attrs.length cb,.slice qp vs.length cp] 29)=X:=⟨_,rfl⟩
 have bX:Below w.heap.size w X:=by rw [<- HX];exact bal (bal (Below.refl _ _) _) _
 have hx:X.heap[w.heap.size]? = some (.cells #[.int .i64 s.cfg.d,.int .i64 s.cfg.c,.int .i64 s.cfg.s,.int .i64 s.cfg.t,.int .i64 s.cfg.h,.int .i64 s.cfg.q,.int .i64 s.cfg.w,.int .i64 s.cfg.u,.slice qa s.attrs.length ca,.slice qo us.length co] 29 (0,0)):=by rw [<- HX];exact blk_onS (box_new w _) ((Below.refl _ _).alloc (Nat.le_refl _) _)
 have hy:X.heap[w.heap.size + 1]? = some (.cells #[.int .i64 p.cfg.d,.int .i64 p.cfg.c,.int .i64 p.cfg.s,.int .i64 p.cfg.t,.int .i64 p.cfg.h,.int .i64 p.cfg.q,.int .i64 p.cfg.w,.int .i64 p.cfg.u,.slice qb p.attrs.length cb,.slice qp vs.length cp] 29 (0,0)):=by
  rw [<- HX]
  have h:=box_new (w.alloc (.cells #[.int .i64 s.cfg.d,.int .i64 s.cfg.c,.int .i64 s.cfg.s,.int .i64 s.cfg.t,.int .i64 s.cfg.h,.int .i64 s.cfg.q,.int .i64 s.cfg.w,.int .i64 s.cfg.u,.slice qa s.attrs.length ca,.slice qo us.length co] 29)) (.cells #[.int .i64 p.cfg.d,.int .i64 p.cfg.c,.int .i64 p.cfg.s,.int .i64 p.cfg.t,.int .i64 p.cfg.h,.int .i64 p.cfg.q,.int .i64 p.cfg.w,.int .i64 p.cfg.u,.slice qb p.attrs.length cb,.slice qp vs.length cp] 29)
  rw [show (w.alloc (.cells #[.int .i64 s.cfg.d,.int .i64 s.cfg.c,.int .i64 s.cfg.s,.int .i64 s.cfg.t,.int .i64 s.cfg.h,.int .i64 s.cfg.q,.int .i64 s.cfg.w,.int .i64 s.cfg.u,.slice qa s.attrs.length ca,.slice qo us.length co] 29)).heap.size=w.heap.size + 1 by simp] at h
  exact h
 have KS:∀ W,Below X.heap.size X W->(fun w':World=>w'.cell? ⟨w.heap.size,0,none⟩=some (.int .i64 s.cfg.d)/\w'.cell? ⟨w.heap.size,1,none⟩=some (.int .i64 s.cfg.c)/\w'.cell? ⟨w.heap.size,2,none⟩=some (.int .i64 s.cfg.s)/\w'.cell? ⟨w.heap.size,3,none⟩=some (.int .i64 s.cfg.t)/\w'.cell? ⟨w.heap.size,4,none⟩=some (.int .i64 s.cfg.h)/\w'.cell? ⟨w.heap.size,5,none⟩=some (.int .i64 s.cfg.q)/\w'.cell? ⟨w.heap.size,6,none⟩=some (.int .i64 s.cfg.w)/\w'.cell? ⟨w.heap.size,7,none⟩=some (.int .i64 s.cfg.u)/\w'.cell? ⟨w.heap.size,8,none⟩=some (.slice qa s.attrs.length ca)/\w'.cell? ⟨w.heap.size,9,none⟩=some (.slice qo us.length co)/\w'.cell? ⟨w.heap.size + 1,0,none⟩=some (.int .i64 p.cfg.d)/\w'.cell? ⟨w.heap.size + 1,1,none⟩=some (.int .i64 p.cfg.c)/\w'.cell? ⟨w.heap.size + 1,2,none⟩=some (.int .i64 p.cfg.s)/\w'.cell? ⟨w.heap.size + 1,3,none⟩=some (.int .i64 p.cfg.t)/\w'.cell? ⟨w.heap.size + 1,4,none⟩=some (.int .i64 p.cfg.h)/\w'.cell? ⟨w.heap.size + 1,5,none⟩=some (.int .i64 p.cfg.q)/\w'.cell? ⟨w.heap.size + 1,6,none⟩=some (.int .i64 p.cfg.w)/\w'.cell? ⟨w.heap.size + 1,7,none⟩=some (.int .i64 p.cfg.u)/\w'.cell? ⟨w.heap.size + 1,8,none⟩=some (.slice qb p.attrs.length cb)/\w'.cell? ⟨w.heap.size + 1,9,none⟩=some (.slice qp vs.length cp)) W:=fun W hW=>by
  obtain ⟨x0,x1,x2,x3,x4,x5,x6,x7,x8,x9,xf⟩:=of10z (blk_onS hx hW)
  obtain ⟨y0,y1,y2,y3,y4,y5,y6,y7,y8,y9,yf⟩:=of10z (blk_onS hy hW)
  exact ⟨x0,x1,x2,x3,x4,x5,x6,x7,x8,x9,y0,y1,y2,y3,y4,y5,y6,y7,y8,y9⟩
 have KSH:=hide KS
 have HXX:=hide hx
 have HYY:=hide hy
 have BX:=hide bX
 obtain ⟨x0,x1,x2,x3,x4,x5,x6,x7,x8,x9,xf⟩:=of10z hx
 obtain ⟨y0,y1,y2,y3,y4,y5,y6,y7,y8,y9,yf⟩:=of10z hy
 replace HF:=hide ((uh HF) X bX)
 replace HS1:=hide (fun W (hW:Below X.heap.size X W)=>(uh HS1) W (below_sub bX hW))
 replace HS2:=hide (fun W (hW:Below X.heap.size X W)=>(uh HS2) W (below_sub bX hW))
 replace HS3:=hide (fun W (hW:Below X.heap.size X W)=>(uh HS3) W (below_sub bX hW))
 replace HC:=hide (fun W (hW:Below X.heap.size X W)=>(uh HC) W (below_sub bX hW))
 replace HS4:=hide (fun W q3 c3 q4 c4 us' hl (hW:Below X.heap.size X W)=>(uh HS4) W q3 c3 q4 c4 us' hl (below_sub bX hW))
 have hRR:(R == R)=true:=by simp
 clear KS bX hx hy
 go_enter Tryz.func5,Tryz.ntmps5
 go_upto_region 4 with (first
  | (go_at_call 17;refine (uh HS1 _ (uh R1)).mono ?_;rintro e w2 ⟨rfl,b2⟩;have R2:=hide (below_sub (uh R1) b2);clear b2)
  | (go_at_call 9;refine (uh HF).mono ?_;rintro e w1 ⟨rfl,b1⟩;have R1:=hide b1;clear x0 x1 x2 x3 x4 x5 x6 x7 x8 x9 xf y0 y1 y2 y3 y4 y5 y6 y7 y8 y9 yf;obtain ⟨x0,x1,x2,x3,x4,x5,x6,x7,x8,x9,xf⟩:=of10z (blk_onS (uh HXX) b1);obtain ⟨y0,y1,y2,y3,y4,y5,y6,y7,y8,y9,yf⟩:=of10z (blk_onS (uh HYY) b1);clear b1))
 clear x0 x1 x2 x3 x4 x5 x6 x7 x8 x9 xf y0 y1 y2 y3 y4 y5 y6 y7 y8 y9 yf
 obtain ⟨x0,x1,x2,x3,x4,x5,x6,x7,x8,x9,y0,y1,y2,y3,y4,y5,y6,y7,y8,y9⟩:=uh KSH _ (uh R2)
 go_region_held3 (fun w':World=>w'.cell? ⟨w.heap.size,0,none⟩=some (.int .i64 s.cfg.d)/\w'.cell? ⟨w.heap.size,1,none⟩=some (.int .i64 s.cfg.c)/\w'.cell? ⟨w.heap.size,2,none⟩=some (.int .i64 s.cfg.s)/\w'.cell? ⟨w.heap.size,3,none⟩=some (.int .i64 s.cfg.t)/\w'.cell? ⟨w.heap.size,4,none⟩=some (.int .i64 s.cfg.h)/\w'.cell? ⟨w.heap.size,5,none⟩=some (.int .i64 s.cfg.q)/\w'.cell? ⟨w.heap.size,6,none⟩=some (.int .i64 s.cfg.w)/\w'.cell? ⟨w.heap.size,7,none⟩=some (.int .i64 s.cfg.u)/\w'.cell? ⟨w.heap.size,8,none⟩=some (.slice qa s.attrs.length ca)/\w'.cell? ⟨w.heap.size,9,none⟩=some (.slice qo us.length co)/\w'.cell? ⟨w.heap.size + 1,0,none⟩=some (.int .i64 p.cfg.d)/\w'.cell? ⟨w.heap.size + 1,1,none⟩=some (.int .i64 p.cfg.c)/\w'.cell? ⟨w.heap.size + 1,2,none⟩=some (.int .i64 p.cfg.s)/\w'.cell? ⟨w.heap.size + 1,3,none⟩=some (.int .i64 p.cfg.t)/\w'.cell? ⟨w.heap.size + 1,4,none⟩=some (.int .i64 p.cfg.h)/\w'.cell? ⟨w.heap.size + 1,5,none⟩=some (.int .i64 p.cfg.q)/\w'.cell? ⟨w.heap.size + 1,6,none⟩=some (.int .i64 p.cfg.w)/\w'.cell? ⟨w.heap.size + 1,7,none⟩=some (.int .i64 p.cfg.u)/\w'.cell? ⟨w.heap.size + 1,8,none⟩=some (.slice qb p.attrs.length cb)/\w'.cell? ⟨w.heap.size + 1,9,none⟩=some (.slice qp vs.length cp)) (first | exact uh KSH _ (by (repeat (first | exact Below.refl _ _ | exact uh R6 | exact uh R5 | exact uh R4 | exact uh R3 | exact uh R2 | refine Below.drew ?_ | refine bal ?_ _)))) (first
  | (go_at_call 21;have tb:=R5;clear tb;refine (uh HS4 _ q3 c3 q4 c4 uc (uh HLC) (by (repeat (first | exact Below.refl _ _ | exact uh R6 | exact uh R5 | exact uh R4 | exact uh R3 | exact uh R2 | refine Below.drew ?_ | refine bal ?_ _))) ((uh TXC).below (by (repeat (first | exact Below.refl _ _ | refine Below.drew ?_ | refine bal ?_ _))))).mono ?_;rintro e w6 ⟨rfl,b6⟩;simp only;have R6:=hide (show Below X.heap.size X w6 from below_sub (by (repeat (first | exact Below.refl _ _ | exact uh R6 | exact uh R5 | exact uh R4 | exact uh R3 | exact uh R2 | refine Below.drew ?_ | refine bal ?_ _))) b6);clear b6)
  | (go_at_call 10;refine (uh HC _ (by (repeat (first | exact Below.refl _ _ | exact uh R6 | exact uh R5 | exact uh R4 | exact uh R3 | exact uh R2 | refine Below.drew ?_ | refine bal ?_ _)))).mono ?_;rintro e w5 ⟨⟨q3,c3,q4,c4,uc,rfl,hlc,txc⟩,b5⟩;simp only;have R5:=hide (show Below X.heap.size X w5 from below_sub (by (repeat (first | exact Below.refl _ _ | exact uh R6 | exact uh R5 | exact uh R4 | exact uh R3 | exact uh R2 | refine Below.drew ?_ | refine bal ?_ _))) b5);have HLC:=hide hlc;have TXC:=hide txc;clear b5 hlc txc)
  | (go_at_call 21;have tb:=R3;clear tb;refine (uh HS3 _ (by (repeat (first | exact Below.refl _ _ | exact uh R6 | exact uh R5 | exact uh R4 | exact uh R3 | exact uh R2 | refine Below.drew ?_ | refine bal ?_ _)))).mono ?_;rintro e w4 ⟨rfl,b4⟩;simp only;have R4:=hide (show Below X.heap.size X w4 from below_sub (by (repeat (first | exact Below.refl _ _ | exact uh R6 | exact uh R5 | exact uh R4 | exact uh R3 | exact uh R2 | refine Below.drew ?_ | refine bal ?_ _))) b4);clear b4)
  | (go_at_call 21;refine (uh HS2 _ (by (repeat (first | exact Below.refl _ _ | exact uh R6 | exact uh R5 | exact uh R4 | exact uh R3 | exact uh R2 | refine Below.drew ?_ | refine bal ?_ _)))).mono ?_;rintro e w3 ⟨rfl,b3⟩;simp only;have R3:=hide (show Below X.heap.size X w3 from below_sub (by (repeat (first | exact Below.refl _ _ | exact uh R6 | exact uh R5 | exact uh R4 | exact uh R3 | exact uh R2 | refine Below.drew ?_ | refine bal ?_ _))) b3);clear b3))
 go_wp2
 go_ret
 exact ⟨rfl,below_sub (uh BX) (uh R6)⟩
theorem scriptSame_law {w:World} (hG:G w) (qa:Option Addr) (ca:Nat) (qo:Option Addr) (co:Nat) (us:List Ou) (s:Scr) (hin:TxIn w qa ca qo co us s) (qb:Option Addr) (cb:Nat) (qp:Option Addr) (cp:Nat) (vs:List Ou) (p:Scr) (hin':TxIn w qb cb qp cp vs p)
    (hat:s.attrs.length<=1000000000) (hop:us.length<=1000000000) (hZ:∀ o ∈ s.ops,o.ev.length<=1000000000/\o.nums.length<=1000000000)
    (hat':p.attrs.length<=1000000000) (hop':vs.length<=1000000000) (hZ':∀ o ∈ p.ops,o.ev.length<=1000000000/\o.nums.length<=1000000000) :
    Calls Tryz.prog 5 #[.agg #[.int .i64 s.cfg.d,.int .i64 s.cfg.c,.int .i64 s.cfg.s,.int .i64 s.cfg.t,.int .i64 s.cfg.h,.int .i64 s.cfg.q,.int .i64 s.cfg.w,.int .i64 s.cfg.u,.slice qa s.attrs.length ca,.slice qo us.length co],.agg #[.int .i64 p.cfg.d,.int .i64 p.cfg.c,.int .i64 p.cfg.s,.int .i64 p.cfg.t,.int .i64 p.cfg.h,.int .i64 p.cfg.q,.int .i64 p.cfg.w,.int .i64 p.cfg.u,.slice qb p.attrs.length cb,.slice qp vs.length cp]] w fun e w'=>e=.returned (.bool true)/\Below w.heap.size w w':=by
  have hO:OpsZ s.ops:=fun o ho=>by have:=hZ o ho;omega
  have hO':OpsZ p.ops:=fun o ho=>by have:=hZ' o ho;omega
  refine same_law qa ca qo co us s qb cb qp cp vs p (sameB s p) (hide fun W hW=>fixed_any W (G_below hG hW)) (hide fun W hW=>refSame_scr W qa ca qo co us s qb cb qp cp vs p (hin.below hW) (hin'.below hW) (by omega) (by omega) hO)
    (hide fun W hW=>same_scr W qa ca qo co us s qb cb qp cp vs p (hin.below hW) (hin'.below hW) (by omega) (by omega) hO)
    (hide fun W hW=>(sameB_comm s p) ▸ same_scr W qb cb qp cp vs p qa ca qo co us s (hin'.below hW) (hin.below hW) (by omega) (by omega) hO')
    (hide fun W hW=>(copied_any W qa ca qo co us s (hin.below hW) hat hop hZ).mono fun e w' h=>?_)
    (hide fun W q3 c3 q4 c4 us' hl hW ht=>?_)
  · obtain ⟨⟨q3,c3,q4,c4,us',he,hl,hr⟩,hb⟩:=h
    exact ⟨⟨q3,c3,q4,c4,us',he,hl,hr.tx⟩,hb⟩
  · have h:=same_scr W qa ca qo co us s q3 c3 q4 c4 us' s (hin.below hW) ht (by omega) (by omega) hO
    rw [sameB_refl,hl] at h
    exact h
end Go.Proofs.YtdgoibnndfibnaaGreatDoor
