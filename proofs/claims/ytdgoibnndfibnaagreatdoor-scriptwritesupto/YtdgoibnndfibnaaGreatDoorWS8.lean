/- Ops held against each other. -/
import Derived.Test.YtdgoibnndfibnaaGreatDoorWS7
namespace Go.Proofs.YtdgoibnndfibnaaGreatDoor
open Go.RowKit Go.Sort
deriving instance DecidableEq for Sop
def sameCl (o o':Sop):Bool:=decide (o.ck=o'.ck/\o.id=o'.id/\o.text=o'.text) && decide (o.ev=o'.ev)
theorem eqlC (u v:Ou) (w:World):(binOp .eql 36 (.agg #[.int .i64 u.ck,.int .i64 u.id,.string u.text]) (.agg #[.int .i64 v.ck,.int .i64 v.id,.string v.text])).run Tryz.prog w=.ok (.bool (decide (u.ck=v.ck/\u.id=v.id/\u.text=v.text))) w:=by
 obtain ⟨R,hR⟩:∃ R,decide (u.ck=v.ck/\u.id=v.id/\u.text=v.text)=R:=⟨_,rfl⟩
 rw [hR]
 have u3:=Tryz.underlying3
 have a3:=Tryz.isAgg3
 have z3:=Tryz.sizeOf3
 have u9:=Tryz.underlying9
 have a9:=Tryz.isAgg9
 have z9:=Tryz.sizeOf9
 have hS:Tryz.prog.underlying 36=some (.struct (Tryz.prog.fieldsOf 36)):=by kernel_rfl
 have hp:Tryz.prog.stoodInHeld 36=false:=by kernel_rfl
 rw [run_eql_struct,show (10000:Nat)=9999 + 1 from rfl,run_equalIn_agg w 9999 36 _ _ hS hp]
 simp only [Program.fieldsOf,Tryz.underlying36]
 go_simp
 have hd:(u.ck=v.ck/\u.id=v.id/\u.text=v.text) ↔ (u.ck=v.ck/\u.id=v.id/\u.text.toList=v.text.toList):=⟨fun ⟨h1,h2,h3⟩=>⟨h1,h2,by rw [h3]⟩,fun ⟨h1,h2,h3⟩=>⟨h1,h2,ba_ext h3⟩⟩
 rw [<- hR,show decide (u.ck=v.ck/\u.id=v.id/\u.text=v.text)=decide (u.ck=v.ck/\u.id=v.id/\u.text.toList=v.text.toList) from decide_eq_decide.2 hd]
 by_cases h1:u.ck=v.ck <;> by_cases h2:u.id=v.id <;> by_cases h3:u.text.toList=v.text.toList <;> simp [h1,h2,h3]
theorem two4 (w:World) (u v:Ou):∃ X,(w.alloc (.cells #[.int .i64 u.ck,.int .i64 u.id,.string u.text,.slice u.qe u.ne u.ce] 39)).alloc (.cells #[.int .i64 v.ck,.int .i64 v.id,.string v.text,.slice v.qe v.ne v.ce] 39)=X/\Below w.heap.size w X/\X.heap[w.heap.size]? = some (.cells #[.int .i64 u.ck,.int .i64 u.id,.string u.text,.slice u.qe u.ne u.ce] 39 (0,0))/\X.heap[w.heap.size + 1]? = some (.cells #[.int .i64 v.ck,.int .i64 v.id,.string v.text,.slice v.qe v.ne v.ce] 39 (0,0)):=by
 refine ⟨_,rfl,bal (bal (Below.refl _ _) _) _, ?_, ?_⟩
 ·exact blk_onS (box_new w _) ((Below.refl _ _).alloc (Nat.le_refl _) _)
 ·have h:=box_new (w.alloc (.cells #[.int .i64 u.ck,.int .i64 u.id,.string u.text,.slice u.qe u.ne u.ce] 39)) (.cells #[.int .i64 v.ck,.int .i64 v.id,.string v.text,.slice v.qe v.ne v.ce] 39)
  rw [show (w.alloc (.cells #[.int .i64 u.ck,.int .i64 u.id,.string u.text,.slice u.qe u.ne u.ce] 39)).heap.size=w.heap.size + 1 by simp] at h
  exact h
theorem two7 (w:World) (u v:Ou):∃ X,(w.alloc (.cells #[.int .i64 u.kind,.int .i64 u.who,.int .i64 u.ck,.int .i64 u.id,.string u.text,.slice u.qe u.ne u.ce,.slice u.qn u.nn u.cn] 42)).alloc (.cells #[.int .i64 v.kind,.int .i64 v.who,.int .i64 v.ck,.int .i64 v.id,.string v.text,.slice v.qe v.ne v.ce,.slice v.qn v.nn v.cn] 42)=X/\Below w.heap.size w X/\X.heap[w.heap.size]? = some (.cells #[.int .i64 u.kind,.int .i64 u.who,.int .i64 u.ck,.int .i64 u.id,.string u.text,.slice u.qe u.ne u.ce,.slice u.qn u.nn u.cn] 42 (0,0))/\X.heap[w.heap.size + 1]? = some (.cells #[.int .i64 v.kind,.int .i64 v.who,.int .i64 v.ck,.int .i64 v.id,.string v.text,.slice v.qe v.ne v.ce,.slice v.qn v.nn v.cn] 42 (0,0)):=by
 refine ⟨_,rfl,bal (bal (Below.refl _ _) _) _, ?_, ?_⟩
 ·exact blk_onS (box_new w _) ((Below.refl _ _).alloc (Nat.le_refl _) _)
 ·have h:=box_new (w.alloc (.cells #[.int .i64 u.kind,.int .i64 u.who,.int .i64 u.ck,.int .i64 u.id,.string u.text,.slice u.qe u.ne u.ce,.slice u.qn u.nn u.cn] 42)) (.cells #[.int .i64 v.kind,.int .i64 v.who,.int .i64 v.ck,.int .i64 v.id,.string v.text,.slice v.qe v.ne v.ce,.slice v.qn v.nn v.cn] 42)
  rw [show (w.alloc (.cells #[.int .i64 u.kind,.int .i64 u.who,.int .i64 u.ck,.int .i64 u.id,.string u.text,.slice u.qe u.ne u.ce,.slice u.qn u.nn u.cn] 42)).heap.size=w.heap.size + 1 by simp] at h
  exact h
set_option maxHeartbeats 4000000 in
set_option maxRecDepth 100000 in
theorem sameCall_any {w:World} {u v:Ou} {o p:Sop} (hu:OpIn w u o) (hv:OpIn w v p) (hz:o.ev.length<=140737488355328) :
  Calls Tryz.prog 77 #[.agg #[.int .i64 u.ck,.int .i64 u.id,.string u.text,.slice u.qe u.ne u.ce],.agg #[.int .i64 v.ck,.int .i64 v.id,.string v.text,.slice v.qe v.ne v.ce]] w fun e w'=>e=.returned (.bool (sameCl o p))/\Below w.heap.size w w':=by
 obtain ⟨X,HX,bX,hx,hy⟩:=two4 w u v
 obtain ⟨x0,x1,x2,x3⟩:=of4s hx
 obtain ⟨y0,y1,y2,y3⟩:=of4s hy
 have hE:=equalQ u.qe u.ce o.ev v.qe v.ce p.ev X (hu.ev.below bX) (hv.ev.below bX) hz
 rw [<- hu.ne,<- hv.ne] at hE
 have hC:=eqlC u v
 have BX:=hide bX
 by_cases h1:u.ck=v.ck/\u.id=v.id/\u.text=v.text
 ·have e:sameCl o p=decide (o.ev=p.ev):=by unfold sameCl;rw [<- hu.ck,<- hu.id,<- hu.text,<- hv.ck,<- hv.id,<- hv.text,decide_eq_true h1,Bool.true_and]
  rw [e]
  rw [decide_eq_true h1] at hC
  have HE:=hide hE
  clear hE h1 hx hy bX e hu hv hz
  go_enter Tryz.func77,Tryz.ntmps77
  go_wp2_with (go_at_call 106;refine (uh HE).mono ?_;rintro e w2 ⟨rfl,b2⟩;have B2:=hide b2;clear b2)
  go_ret
  exact ⟨rfl,below_sub (uh BX) (uh B2)⟩
 ·have e:sameCl o p=false:=by unfold sameCl;rw [<- hu.ck,<- hu.id,<- hu.text,<- hv.ck,<- hv.id,<- hv.text,decide_eq_false h1,Bool.false_and]
  rw [e]
  rw [decide_eq_false h1] at hC
  clear hE h1 hx hy bX e hu hv hz
  go_enter Tryz.func77,Tryz.ntmps77
  go_wp2
  go_ret
  exact ⟨rfl,uh BX⟩
theorem sop_parts (o p:Sop):decide (o=p)=(decide (o.kind=p.kind) && (decide (o.who=p.who) && (sameCl o p && decide (o.nums=p.nums)))):=by
 rw [Bool.eq_iff_iff]
 simp only [decide_eq_true_eq,Bool.and_eq_true,sameCl]
 constructor
 ·rintro rfl;exact ⟨rfl,rfl,⟨⟨rfl,rfl,rfl⟩,rfl⟩,rfl⟩
 ·rintro ⟨h1,h2,⟨⟨h3,h4,h5⟩,h6⟩,h7⟩
  cases o;cases p;simp only at *;subst h1 h2 h3 h4 h5 h6 h7;rfl
set_option maxHeartbeats 4000000 in
set_option maxRecDepth 100000 in
theorem sameOp_any {w:World} {u v:Ou} {o p:Sop} (hu:OpIn w u o) (hv:OpIn w v p) (hz:o.ev.length<=140737488355328) (hz2:o.nums.length<=140737488355328) :
  Calls Tryz.prog 50 #[u.val,v.val] w fun e w'=>e=.returned (.bool (decide (o=p)))/\Below w.heap.size w w':=by
 rw [sop_parts]
 obtain ⟨X,HX,bX,hx,hy⟩:=two7 w u v
 obtain ⟨x0,x1,x2,x3,x4,x5,x6⟩:=of7s hx
 obtain ⟨y0,y1,y2,y3,y4,y5,y6⟩:=of7s hy
 have hC:=sameCall_any (hu.below bX) (hv.below bX) hz
 have hE:=fun (W:World) (hb:Below X.heap.size X W)=>equalI u.qn u.cn o.nums v.qn v.cn p.nums W ((hu.nums.below bX).below hb) ((hv.nums.below bX).below hb) hz2
 rw [<- hu.nn,<- hv.nn] at hE
 have BX:=hide bX
 have HE:=hide hE
 have HC:=hide hC
 have hX2:∀ W,Below X.heap.size X W->W.cell? ⟨w.heap.size,6,none⟩=some (.slice u.qn u.nn u.cn)/\W.cell? ⟨w.heap.size + 1,6,none⟩=some (.slice v.qn v.nn v.cn):=fun W hb=>by
  obtain ⟨_,_,_,_,_,_,a⟩:=of7s (blk_onS hx hb)
  obtain ⟨_,_,_,_,_,_,b⟩:=of7s (blk_onS hy hb)
  exact ⟨a,b⟩
 have HX2:=hide hX2
 by_cases h1:o.kind=p.kind
 ·have e1:(u.kind == v.kind)=true:=by rw [hu.kind,hv.kind];simpa using h1
  rw [decide_eq_true h1,Bool.true_and]
  by_cases h2:o.who=p.who
  ·have e2:(u.who == v.who)=true:=by rw [hu.who,hv.who];simpa using h2
   rw [decide_eq_true h2,Bool.true_and]
   cases h3:sameCl o p with
   | true =>
    rw [h3] at HC
    rw [Bool.true_and]
    clear hE hC h1 h2 h3 hx hy bX hu hv hz hz2 hX2
    unfold Ou.val
    go_enter Tryz.func50,Tryz.ntmps50
    go_wp2_with (first
     | (go_at_call 77;refine (uh HC).mono ?_;rintro e w2 ⟨rfl,b2⟩;have B2:=hide b2;clear b2 x6 y6;obtain ⟨x6,y6⟩:=uh HX2 w2 (uh B2))
     | (go_at_call 78;refine (uh HE _ (uh B2)).mono ?_;rintro e w3 ⟨rfl,b3⟩;have B3:=hide (below_sub (uh B2) b3);clear b3))
    go_ret
    exact ⟨rfl,below_sub (uh BX) (uh B3)⟩
   | false =>
    rw [h3] at HC
    rw [Bool.false_and]
    clear hE hC h1 h2 h3 hx hy bX hu hv hz hz2 hX2
    unfold Ou.val
    go_enter Tryz.func50,Tryz.ntmps50
    go_wp2_with (go_at_call 77;refine (uh HC).mono ?_;rintro e w2 ⟨rfl,b2⟩;have B2:=hide b2;clear b2)
    go_ret
    exact ⟨rfl,below_sub (uh BX) (uh B2)⟩
  ·have e2:(u.who == v.who)=false:=by rw [hu.who,hv.who];simpa using h2
   rw [decide_eq_false h2,Bool.false_and]
   clear hE hC h1 h2 hx hy bX hu hv hz hz2 hX2
   unfold Ou.val
   go_enter Tryz.func50,Tryz.ntmps50
   go_wp2
   go_ret
   exact ⟨rfl,uh BX⟩
 ·have e1:(u.kind == v.kind)=false:=by rw [hu.kind,hv.kind];simpa using h1
  rw [decide_eq_false h1,Bool.false_and]
  clear hE hC h1 hx hy bX hu hv hz hz2 hX2
  unfold Ou.val
  go_enter Tryz.func50,Tryz.ntmps50
  go_wp2
  go_ret
  exact ⟨rfl,uh BX⟩
end Go.Proofs.YtdgoibnndfibnaaGreatDoor
