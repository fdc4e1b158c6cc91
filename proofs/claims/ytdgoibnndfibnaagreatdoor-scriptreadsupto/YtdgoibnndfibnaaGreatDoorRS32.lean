/- Same of any two scripts. -/
import Derived.Test.YtdgoibnndfibnaaGreatDoorRS31
namespace Go.Proofs.YtdgoibnndfibnaaGreatDoor
open Go.RowKit Go.Sort
set_option maxRecDepth 100000 in
theorem eqlCfg (a b:Cfg) (w:World):(binOp .eql 25 (.agg #[.int .i64 a.d,.int .i64 a.c,.int .i64 a.s,.int .i64 a.t,.int .i64 a.h,.int .i64 a.q,.int .i64 a.w,.int .i64 a.u]) (.agg #[.int .i64 b.d,.int .i64 b.c,.int .i64 b.s,.int .i64 b.t,.int .i64 b.h,.int .i64 b.q,.int .i64 b.w,.int .i64 b.u])).run Tryz.prog w=.ok (.bool (decide (a=b))) w:=by
 have u3:=Tryz.underlying3
 have a3:=Tryz.isAgg3
 have z3:=Tryz.sizeOf3
 have a23:=Tryz.isAgg23
 have z23:=Tryz.sizeOf23
 have hS:Tryz.prog.underlying 25=some (.struct (Tryz.prog.fieldsOf 25)):=by kernel_rfl
 have hp:Tryz.prog.stoodInHeld 25=false:=by kernel_rfl
 have h23:(Op.equalIn 9999 23 (.agg #[.int .i64 a.d,.int .i64 a.c,.int .i64 a.s,.int .i64 a.t]) (.agg #[.int .i64 b.d,.int .i64 b.c,.int .i64 b.s,.int .i64 b.t])).run Tryz.prog w=.ok (decide (a.d=b.d/\a.c=b.c/\a.s=b.s/\a.t=b.t)) w:=by
  clear hS hp
  have hS23:Tryz.prog.underlying 23=some (.struct (Tryz.prog.fieldsOf 23)):=by kernel_rfl
  have hp23:Tryz.prog.stoodInHeld 23=false:=by kernel_rfl
  rw [show (9999:Nat)=9998 + 1 from rfl,run_equalIn_agg w 9998 23 _ _ hS23 hp23]
  simp only [Program.fieldsOf,Tryz.underlying23]
  go_simp
  by_cases h1:a.d=b.d <;> by_cases h2:a.c=b.c <;> by_cases h3:a.s=b.s <;> by_cases h4:a.t=b.t <;> simp [h1,h2,h3,h4]
 rw [run_eql_struct,show (10000:Nat)=9999 + 1 from rfl,run_equalIn_agg w 9999 25 _ _ hS hp]
 simp only [Program.fieldsOf,Tryz.underlying25]
 go_simp
 have hd:(a=b) ↔ ((a.d=b.d/\a.c=b.c/\a.s=b.s/\a.t=b.t)/\a.h=b.h/\a.q=b.q/\a.w=b.w/\a.u=b.u):=⟨fun h=>by subst h;exact ⟨⟨rfl,rfl,rfl,rfl⟩,rfl,rfl,rfl,rfl⟩,fun ⟨⟨h1,h2,h3,h4⟩,h5,h6,h7,h8⟩=>by cases a;cases b;simp only at h1 h2 h3 h4 h5 h6 h7 h8;subst h1 h2 h3 h4 h5 h6 h7 h8;rfl⟩
 rw [show decide (a=b)=decide ((a.d=b.d/\a.c=b.c/\a.s=b.s/\a.t=b.t)/\a.h=b.h/\a.q=b.q/\a.w=b.w/\a.u=b.u) from decide_eq_decide.2 hd]
 by_cases h0:(a.d=b.d/\a.c=b.c/\a.s=b.s/\a.t=b.t) <;> by_cases h5:a.h=b.h <;> by_cases h6:a.q=b.q <;> by_cases h7:a.w=b.w <;> by_cases h8:a.u=b.u <;> first | (simp [h0,h5,h6,h7,h8];done) | (simp [h0,h5,h6,h7,h8];exact fun e1 e2 e3 e4=>h0 ⟨e1,e2,e3,e4⟩)
/-- A list of ops in memory. -/
structure OpsIn (w:World) (q:Option Addr) (c:Nat) (us:List Ou) (os:List Sop):Prop where
 sl:SlOf encO 7 w q c us
 len:us.length=os.length
 ops:∀ (j:Nat) (u:Ou) (o:Sop),us[j]? = some u->os[j]? = some o->OpIn w u o
theorem OpsIn.below {w w':World} {q:Option Addr} {c:Nat} {us:List Ou} {os:List Sop} (h:OpsIn w q c us os) (hb:Below w.heap.size w w'):OpsIn w' q c us os:=⟨h.1.below hb,h.2,fun j u o h1 h2=>(h.3 j u o h1 h2).below hb⟩
def OpsZ (os:List Sop):Prop:=∀ o ∈ os,o.ev.length<=140737488355328/\o.nums.length<=140737488355328
set_option maxHeartbeats 8000000 in
set_option maxRecDepth 100000 in
theorem equalO (q:Option Addr) (c:Nat) (us:List Ou) (os:List Sop) (q':Option Addr) (c':Nat) (vs:List Ou) (ps:List Sop) (w:World) (h:OpsIn w q c us os) (h':OpsIn w q' c' vs ps) (hl:us.length<=140737488355328) (hZ:OpsZ os) :
  Calls Tryz.prog 49 #[.slice q us.length c,.slice q' vs.length c',.func (.func 50) #[] #[]] w fun e w'=>e=.returned (.bool (decide (os=ps)))/\Below w.heap.size w w':=by
 by_cases hlen:us.length=vs.length
 ·have hli:((vs.length:Int) != (vs.length:Int))=false:=by simp
  have a0:(vs.length:Int)<=140737488355328:=by omega
  obtain ⟨R,hR⟩:∃ R,decide (os=ps)=R:=⟨_,rfl⟩
  rw [hR]
  have HR:=hide hR
  have HLn:=hide hlen
  have H:=hide h
  have H':=hide h'
  clear hR
  rw [hlen]
  clear hl hlen h h'
  go_enter Tryz.func49,Tryz.ntmps49
  go_wp2
  go_loopw [17] (fun i wr=>∃ k:Nat,k<=vs.length/\i=.int .i64 (k:Int)/\Hid (os.take k=ps.take k)/\Hid (Below w.heap.size w wr)) (fun i _=>vs.length - (intOf i).toNat)
  case atStart=>exact ⟨0,Nat.zero_le _,rfl,hide rfl,hide (Below.refl _ _)⟩
  case round =>
   obtain ⟨k,hk,rfl,HT,HB⟩:=hrel
   by_cases hlt:k < vs.length
   ·obtain ⟨v,hv,_⟩:=get_at hlt
    obtain ⟨u,hu,_⟩:=get_at (show k < us.length by have:=uh HLn;omega)
    obtain ⟨o,ho,_⟩:=get_at (show k < os.length by have:=uh HLn;have:=(uh H).len;omega)
    obtain ⟨p,hp,_⟩:=get_at (show k < ps.length by have:=(uh H').len;omega)
    have hU:=(uh H).below (uh HB)
    have hV:=(uh H').below (uh HB)
    obtain ⟨b,off,hq,hb,c0,c1,c2,c3,c4,c5,c6⟩:=opsAt hU.sl hu
    obtain ⟨b',off',hq',hb',d0,d1,d2,d3,d4,d5,d6⟩:=opsAt hV.sl hv
    have huo:=hU.ops k u o hu ho
    have hvp:=hV.ops k v p hv hp
    subst hq hq'
    obtain ⟨X,HX,bX,hx,hy⟩:=two7 wr u v
    have hS:=sameOp_any (huo.below bX) (hvp.below bX) (hZ o (List.mem_of_getElem? ho)).1 (hZ o (List.mem_of_getElem? ho)).2
    unfold Ou.val at hS
    obtain ⟨x0,x1,x2,x3,x4,x5,x6⟩:=of7s hx
    obtain ⟨y0,y1,y2,y3,y4,y5,y6⟩:=of7s hy
    have ki0:(0:Int)<=(k:Int):=by omega
    have ki1:(k:Int) < (vs.length:Int):=by omega
    have HBX:=hide (below_tr (uh HB) (bX.mono (uh HB).size))
    have nb:¬ b'=wr.heap.size:=by omega
    have nb2:¬ wr.heap.size=b':=by omega
    by_cases hxy:o=p
    ·have HT2:=hide (show os.take (k + 1)=ps.take (k + 1) from pre_snoc (uh HT) ho (by rw [hp,hxy]))
     rw [decide_eq_true hxy] at hS
     have HS:=hide hS
     clear hU hV hu hv ho hp huo hvp hxy hS hx hy bX
     go_wp2_with (go_at_call 50;refine (uh HS).mono ?_;rintro e w2 ⟨rfl,b2⟩;have B2:=hide (below_tr (uh HBX) (b2.mono (uh HBX).size));clear b2)
     exact ⟨⟨k + 1,by omega,by go_num,HT2,B2⟩,by simp [intOf];omega⟩
    ·have HN:=hide (show R=false by rw [<- uh HR];exact decide_eq_false (pre_ne ho hp hxy))
     rw [decide_eq_false hxy] at hS
     have HS:=hide hS
     clear hU hV hu hv ho hp huo hvp hxy hS hx hy bX
     go_wp2_with (go_at_call 50;refine (uh HS).mono ?_;rintro e w2 ⟨rfl,b2⟩;have B2:=hide (below_tr (uh HBX) (b2.mono (uh HBX).size));clear b2)
     go_ret
     exact ⟨ret_bool (uh HN).symm,uh B2⟩
   ·obtain rfl:k=vs.length:=by omega
    have ki1:¬ (vs.length:Int) < (vs.length:Int):=by omega
    have HN:=hide (show R=true by
     rw [<- uh HR]
     refine decide_eq_true ?_
     have h1:=uh HT
     rw [List.take_of_length_le (by have:=(uh H).len;have:=uh HLn;omega),List.take_of_length_le (by have:=(uh H').len;omega)] at h1
     exact h1)
    go_wp2
    go_ret
    exact ⟨ret_bool (uh HN).symm,uh HB⟩
 ·have hli:((us.length:Int) != (vs.length:Int))=true:=by simp;omega
  rw [decide_eq_false (fun e=>hlen (by rw [h.len,h'.len,e]))]
  clear h h'
  go_enter Tryz.func49,Tryz.ntmps49
  go_wp2
  go_ret
  exact ⟨rfl,Below.refl _ _⟩
def sameB (s p:Scr):Bool:=decide (s.cfg=p.cfg) && (decide (s.attrs=p.attrs) && decide (s.ops=p.ops))
theorem sameB_refl (s:Scr):sameB s s=true:=by unfold sameB;simp
set_option maxHeartbeats 8000000 in
set_option maxRecDepth 100000 in
theorem same_scr (w:World) (qa:Option Addr) (ca:Nat) (qo:Option Addr) (co:Nat) (us:List Ou) (s:Scr) (qa':Option Addr) (ca':Nat) (qo':Option Addr) (co':Nat) (vs:List Ou) (p:Scr) (h:TxIn w qa ca qo co us s) (h':TxIn w qa' ca' qo' co' vs p) (ha:s.attrs.length<=140737488355328) (hl:us.length<=140737488355328) (hZ:OpsZ s.ops) :
  Calls Tryz.prog 21 #[.agg #[.int .i64 s.cfg.d,.int .i64 s.cfg.c,.int .i64 s.cfg.s,.int .i64 s.cfg.t,.int .i64 s.cfg.h,.int .i64 s.cfg.q,.int .i64 s.cfg.w,.int .i64 s.cfg.u,.slice qa s.attrs.length ca,.slice qo us.length co],.agg #[.int .i64 p.cfg.d,.int .i64 p.cfg.c,.int .i64 p.cfg.s,.int .i64 p.cfg.t,.int .i64 p.cfg.h,.int .i64 p.cfg.q,.int .i64 p.cfg.w,.int .i64 p.cfg.u,.slice qa' p.attrs.length ca',.slice qo' vs.length co']] w fun e w'=>e=.returned (.bool (sameB s p))/\Below w.heap.size w w':=by
 obtain ⟨X,HX⟩:∃ X,(w.alloc (.cells #[.int .i64 s.cfg.d,.int .i64 s.cfg.c,.int .i64 s.cfg.s,.int .i64 s.cfg.t,.int .i64 s.cfg.h,.int .i64 s.cfg.q,.int .i64 s.cfg.w,.int .i64 s.cfg.u,.slice qa s.attrs.length ca,.slice qo us.length co] 29)).alloc (.cells #[.int .i64 p.cfg.d,.int .i64 p.cfg.c,.int .i64 p.cfg.s,.int .i64 p.cfg.t,.int .i64 p.cfg.h,.int .i64 p.cfg.q,.int .i64 p.cfg.w,.int .i64 p.cfg.u,.slice qa' p.attrs.length ca',.slice qo' vs.length co'] 29)=X:=⟨_,rfl⟩
 have bX:Below w.heap.size w X:=by rw [<- HX];exact bal (bal (Below.refl _ _) _) _
 have hx:X.heap[w.heap.size]? = some (.cells #[.int .i64 s.cfg.d,.int .i64 s.cfg.c,.int .i64 s.cfg.s,.int .i64 s.cfg.t,.int .i64 s.cfg.h,.int .i64 s.cfg.q,.int .i64 s.cfg.w,.int .i64 s.cfg.u,.slice qa s.attrs.length ca,.slice qo us.length co] 29 (0,0)):=by rw [<- HX];exact blk_onS (box_new w _) ((Below.refl _ _).alloc (Nat.le_refl _) _)
 have hy:X.heap[w.heap.size + 1]? = some (.cells #[.int .i64 p.cfg.d,.int .i64 p.cfg.c,.int .i64 p.cfg.s,.int .i64 p.cfg.t,.int .i64 p.cfg.h,.int .i64 p.cfg.q,.int .i64 p.cfg.w,.int .i64 p.cfg.u,.slice qa' p.attrs.length ca',.slice qo' vs.length co'] 29 (0,0)):=by
  rw [<- HX]
  have h:=box_new (w.alloc (.cells #[.int .i64 s.cfg.d,.int .i64 s.cfg.c,.int .i64 s.cfg.s,.int .i64 s.cfg.t,.int .i64 s.cfg.h,.int .i64 s.cfg.q,.int .i64 s.cfg.w,.int .i64 s.cfg.u,.slice qa s.attrs.length ca,.slice qo us.length co] 29)) (.cells #[.int .i64 p.cfg.d,.int .i64 p.cfg.c,.int .i64 p.cfg.s,.int .i64 p.cfg.t,.int .i64 p.cfg.h,.int .i64 p.cfg.q,.int .i64 p.cfg.w,.int .i64 p.cfg.u,.slice qa' p.attrs.length ca',.slice qo' vs.length co'] 29)
  rw [show (w.alloc (.cells #[.int .i64 s.cfg.d,.int .i64 s.cfg.c,.int .i64 s.cfg.s,.int .i64 s.cfg.t,.int .i64 s.cfg.h,.int .i64 s.cfg.q,.int .i64 s.cfg.w,.int .i64 s.cfg.u,.slice qa s.attrs.length ca,.slice qo us.length co] 29)).heap.size=w.heap.size + 1 by simp] at h
  exact h
 have hA:=equalA qa ca s.attrs qa' ca' p.attrs X (h.below bX).at' (h'.below bX).at' ha
 have hO:=fun W hb=>equalO qo co us s.ops qo' co' vs p.ops W (OpsIn.below ⟨(h.below bX).op,h.len,(h.below bX).ops⟩ hb) (OpsIn.below ⟨(h'.below bX).op,h'.len,(h'.below bX).ops⟩ hb) hl hZ
 have hC:=eqlCfg s.cfg p.cfg
 have HA:=hide hA
 have HO:=hide hO
 have HB:=hide bX
 have HXX:=hide hx
 have HYY:=hide hy
 obtain ⟨x0,x1,x2,x3,x4,x5,x6,x7,x8,x9,xf⟩:=of10z hx
 obtain ⟨y0,y1,y2,y3,y4,y5,y6,y7,y8,y9,yf⟩:=of10z hy
 clear hA hO bX hx hy h h' hZ xf yf
 unfold sameB
 by_cases h1:s.cfg=p.cfg
 ·rw [decide_eq_true h1] at hC
  rw [decide_eq_true h1,Bool.true_and]
  cases h2:decide (s.attrs=p.attrs) with
  | true =>
   rw [h2] at HA
   rw [Bool.true_and]
   clear h1 h2
   go_enter Tryz.func21,Tryz.ntmps21
   go_wp2_with (first
    | (go_at_call 48;refine (uh HA).mono ?_;rintro e w2 ⟨rfl,b2⟩;have B2:=hide b2;clear x0 x1 x2 x3 x4 x5 x6 x7 x8 x9 y0 y1 y2 y3 y4 y5 y6 y7 y8 y9;obtain ⟨x0,x1,x2,x3,x4,x5,x6,x7,x8,x9,xf⟩:=of10z (blk_onS (uh HXX) b2);obtain ⟨y0,y1,y2,y3,y4,y5,y6,y7,y8,y9,yf⟩:=of10z (blk_onS (uh HYY) b2);clear b2 xf yf)
    | (go_at_call 49;refine (uh HO _ (uh B2)).mono ?_;rintro e w3 ⟨rfl,b3⟩;have B3:=hide (below_sub (uh B2) b3);clear b3))
   go_ret
   exact ⟨rfl,below_sub (uh HB) (uh B3)⟩
  | false =>
   rw [h2] at HA
   rw [Bool.false_and]
   clear h1 h2
   go_enter Tryz.func21,Tryz.ntmps21
   go_wp2_with (go_at_call 48;refine (uh HA).mono ?_;rintro e w2 ⟨rfl,b2⟩;have B2:=hide b2;clear b2)
   go_ret
   exact ⟨rfl,below_sub (uh HB) (uh B2)⟩
 ·rw [decide_eq_false h1] at hC
  rw [decide_eq_false h1,Bool.false_and]
  clear h1
  go_enter Tryz.func21,Tryz.ntmps21
  go_wp2
  go_ret
  exact ⟨rfl,uh HB⟩
end Go.Proofs.YtdgoibnndfibnaaGreatDoor
