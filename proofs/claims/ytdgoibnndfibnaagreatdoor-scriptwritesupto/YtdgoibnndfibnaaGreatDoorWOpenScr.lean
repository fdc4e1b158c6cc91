/- How big a script's text is; the opener of a script among the arguments. -/
import Derived.Test.YtdgoibnndfibnaaGreatDoorWZar
import Derived.Test.YtdgoibnndfibnaaGreatDoorWZat
namespace Go.Proofs.YtdgoibnndfibnaaGreatDoor
open Go.ChangeShapes Go.WideShapes Go.ChangeAt Go.RowKit Go.Joins
theorem lineB_lenW {o:Sop} (h:opOk o=true) (hI:SopI o):(lineB o).length<=o.ev.length * 294 + o.nums.length * 22 + 20000:=by
 unfold opOk at h
 rw [Bool.and_eq_true] at h
 have hw:=opW_len o.kind
 unfold lineB
 by_cases hk:o.kind=1
 ·rw [if_pos hk] at h ⊢
  simp only [Bool.and_eq_true] at h
  have h2:=callB_len h.2.2 hI
  have h3:=numsB1_len hI.who
  simp only [List.length_append,List.length_cons]
  omega
 ·rw [if_neg hk]
  have h3:=numsB_len hI.nums
  rw [List.length_append]
  omega
theorem endsB_cons (l:Bs) (ls:List Bs):(endsB (l :: ls)).length=l.length + 1 + (endsB ls).length:=by simp [endsB];omega
theorem endsB_app (a b:List Bs):(endsB (a ++ b)).length=(endsB a).length + (endsB b).length:=by simp [endsB]
/-- How much of an op the rows count. -/
def opW1 (o:Sop):Nat:=o.text.size + o.ev.length + o.nums.length + 1
def opsW:List Sop->Nat
 | []=>0
 | o :: l=>opW1 o + opsW l
theorem ends_ops:∀ (l:List Sop),l.all opOk=true->(∀ o ∈ l,SopI o)->(endsB (l.map lineB)).length<=opsW l * 294 + l.length * 20001
 | [],_,_=>by simp [endsB]
 | o :: l,h,hI=>by
  rw [List.all_cons,Bool.and_eq_true] at h
  have h1:=lineB_lenW h.1 (hI o (by simp))
  have h2:=ends_ops l h.2 (fun p hp=>hI p (by simp [hp]))
  rw [List.map_cons,endsB_cons]
  simp only [opsW,opW1,List.length_cons]
  omega
theorem attrB_len {a:ByteArray × Int} (h:Sc.atOk a=true):(attrB a).length<=42:=by
 have h1:=name_len (atOk_parts h).1
 have h2:=kindW_len a.2
 have h3:(Lb a.1).length=a.1.size:=bytes_len _
 unfold attrB
 simp only [List.length_append,List.length_cons]
 have:wAttr.length=4:=rfl
 omega
theorem ends_attrs:∀ (l:List (ByteArray × Int)),l.all Sc.atOk=true->(endsB (l.map attrB)).length<=l.length * 43
 | [],_=>by simp [endsB]
 | a :: l,h=>by
  rw [List.all_cons,Bool.and_eq_true] at h
  have h1:=attrB_len h.1
  have h2:=ends_attrs l h.2
  rw [List.map_cons,endsB_cons]
  simp only [List.length_cons]
  omega
theorem scrB_len {s:Scr} (h:ScrOk s) (hI:ScrI s):(scrB s).length<=83000000 + opsW s.ops * 294:=by
 have h1:=ends_ops s.ops h.ops hI.ops
 have h2:=ends_attrs s.attrs h.attrs.2.1
 have h3:=numsB_len hI.cfg
 have h4:=h.attrs.1
 have h5:=h.len
 unfold scrB scrLs
 rw [endsB_cons,endsB_app]
 have h6:(cfgB s.cfg).length<=6 + 8 * 22:=by
  unfold cfgB
  rw [List.length_append]
  have:wConfig.length=6:=rfl
  have:s.cfg.l.length=8:=rfl
  omega
 omega
instance:Inhabited Sop:=⟨⟨0,0,0,0,⟨#[]⟩,[],[]⟩⟩
theorem Tryz.cells25:Tryz.prog.cellsOf 25=8:=by kernel_rfl
theorem Tryz.cells23:Tryz.prog.cellsOf 23=4:=by kernel_rfl
theorem Tryz.cells26:Tryz.prog.cellsOf 26=1:=by kernel_rfl
theorem Tryz.cells27:Tryz.prog.cellsOf 27=1:=by kernel_rfl
theorem Tryz.cells29:Tryz.prog.cellsOf 29=10:=by kernel_rfl
theorem Tryz.cells62:Tryz.prog.cellsOf 62=2:=by kernel_rfl
theorem trod_five {H:Type} {enc:TypeId × Value->H} {P:Program} {w:World} {base:Nat} {spare:Nat->Bool} {held:Bool} {t:TypeId} {f0 f1 f2 f3 f4:Field} {fuel:Nat} {cs:List Value} {x:DataW H × List MemPlace} (ht:P.underlying t=some (.struct #[f0,f1,f2,f3,f4])) (h:DataW.trod enc P w base spare held fuel t cs=some x) :
  ∃ y0 y1 y2 y3 y4 n,n < fuel/\x.1=.agg [y0.1,y1.1,y2.1,y3.1,y4.1]/\DataW.trod enc P w base spare held n f0.type ((cs.drop f0.offset).take (P.cellsOf f0.type))=some y0/\DataW.trod enc P w base spare held n f1.type ((cs.drop f1.offset).take (P.cellsOf f1.type))=some y1/\DataW.trod enc P w base spare held n f2.type ((cs.drop f2.offset).take (P.cellsOf f2.type))=some y2/\DataW.trod enc P w base spare held n f3.type ((cs.drop f3.offset).take (P.cellsOf f3.type))=some y3/\DataW.trod enc P w base spare held n f4.type ((cs.drop f4.offset).take (P.cellsOf f4.type))=some y4:=by
 obtain ⟨xs,n,hn,rfl,hl,hlen,hf⟩:=DataW.trod_struct ht h
 match xs,hlen with
 | [y0,y1,y2,y3,y4],_=>exact ⟨y0,y1,y2,y3,y4,n,by omega,by simp,by simpa using hf 0 f0 rfl,by simpa using hf 1 f1 rfl,by simpa using hf 2 f2 rfl,by simpa using hf 3 f3 rfl,by simpa using hf 4 f4 rfl⟩
set_option maxRecDepth 100000 in
theorem decD_attr {H:Type} {enc:TypeId × Value->H} {W:World} {base:Nat} {sp:Nat->Bool} {held:Bool} (fuel:Nat) (cs:List Value) (x:DataW H × List MemPlace) (h:DataW.trod enc Tryz.prog W base sp held fuel 62 cs=some x) (hl:cs.length=2):∃ y:ByteArray × Int,(∀ c,c < 2->cs[c]? = some ((encAt y)[c]!))/\True:=by
 obtain ⟨y0,y1,n,_,hx,h0,h1⟩:=trod_two Tryz.underlying62 h
 match cs,hl with
 | [c0,c1],_ =>
  simp only [Tryz.cells9,Tryz.cells3,List.drop,List.take] at h0 h1
  obtain ⟨s,e0,_,_⟩:=DataW.trod_string Tryz.underlying9 h0
  obtain ⟨k,e1,_,_⟩:=DataW.trod_int Tryz.underlying3 h1
  simp only [List.cons.injEq,and_true] at e0 e1
  subst e0 e1
  refine ⟨(s,k),fun c hc=>?_,trivial⟩
  have hm:c=0 ∨ c=1:=by omega
  rcases hm with e | e <;> rw [e] <;> rfl
set_option maxRecDepth 100000 in
theorem open_lim {H:Type} {enc:TypeId × Value->H} {W:World} {base:Nat} {sp:Nat->Bool} {held:Bool} {fuel:Nat} {cs:List Value} {x:DataW H × List MemPlace} (h:DataW.trod enc Tryz.prog W base sp held fuel 23 cs=some x) (hl:cs.length=4) :
  ∃ a b c d:Int,cs=[.int .i64 a,.int .i64 b,.int .i64 c,.int .i64 d]/\I64 a/\I64 b/\I64 c/\I64 d:=by
 obtain ⟨y0,y1,y2,y3,n,_,hx,h0,h1,h2,h3⟩:=trod_four Tryz.underlying23 h
 match cs,hl with
 | [c0,c1,c2,c3],_ =>
  simp only [Tryz.cells3,List.drop,List.take] at h0 h1 h2 h3
  obtain ⟨a,e0,_,w0⟩:=DataW.trod_int Tryz.underlying3 h0
  obtain ⟨b,e1,_,w1⟩:=DataW.trod_int Tryz.underlying3 h1
  obtain ⟨c,e2,_,w2⟩:=DataW.trod_int Tryz.underlying3 h2
  obtain ⟨d,e3,_,w3⟩:=DataW.trod_int Tryz.underlying3 h3
  simp only [List.cons.injEq,and_true] at e0 e1 e2 e3
  exact ⟨a,b,c,d,by rw [e0,e1,e2,e3],i64_of w0,i64_of w1,i64_of w2,i64_of w3⟩
set_option maxRecDepth 100000 in
theorem open_cfg {H:Type} {enc:TypeId × Value->H} {W:World} {base:Nat} {sp:Nat->Bool} {held:Bool} {fuel:Nat} {cs:List Value} {x:DataW H × List MemPlace} (h:DataW.trod enc Tryz.prog W base sp held fuel 25 cs=some x) (hl:cs.length=8) :
  ∃ c:Cfg,cs=[.int .i64 c.d,.int .i64 c.c,.int .i64 c.s,.int .i64 c.t,.int .i64 c.h,.int .i64 c.q,.int .i64 c.w,.int .i64 c.u]/\∀ n ∈ c.l,I64 n:=by
 obtain ⟨y0,y1,y2,y3,y4,n,_,hx,h0,h1,h2,h3,h4⟩:=trod_five Tryz.underlying25 h
 match cs,hl with
 | [c0,c1,c2,c3,c4,c5,c6,c7],_ =>
  simp only [Tryz.cells3,Tryz.cells23,List.drop,List.take] at h0 h1 h2 h3 h4
  obtain ⟨d,c,s,t,e0,i0,i1,i2,i3⟩:=open_lim h0 rfl
  obtain ⟨hh,e1,_,w1⟩:=DataW.trod_int Tryz.underlying3 h1
  obtain ⟨q,e2,_,w2⟩:=DataW.trod_int Tryz.underlying3 h2
  obtain ⟨w,e3,_,w3⟩:=DataW.trod_int Tryz.underlying3 h3
  obtain ⟨u,e4,_,w4⟩:=DataW.trod_int Tryz.underlying3 h4
  simp only [List.cons.injEq,and_true] at e0 e1 e2 e3 e4
  refine ⟨⟨d,c,s,t,hh,q,w,u⟩,by rw [e0.1,e0.2.1,e0.2.2.1,e0.2.2.2,e1,e2,e3,e4],fun n hn=>?_⟩
  simp only [Cfg.l,List.mem_cons,List.not_mem_nil,or_false] at hn
  rcases hn with rfl | rfl | rfl | rfl | rfl | rfl | rfl | rfl
  ·exact i0
  ·exact i1
  ·exact i2
  ·exact i3
  ·exact i64_of w1
  ·exact i64_of w2
  ·exact i64_of w3
  ·exact i64_of w4
theorem bulk_ops {H:Type}:∀ (l:List Sop) (D:List (DataW H)),D.length=l.length->(∀ (j:Nat) y d,l[j]? = some y->D[j]? = some d->opW1 y<=Rows.uptoBulk d)->opsW l<=Rows.uptoBulkAll D:=by
 intro l
 induction l with
 | nil=>intro D _ _;simp [opsW]
 | cons x l ih =>
  intro D hl hP
  cases D with
  | nil=>simp at hl
  | cons d D =>
   have h0:=hP 0 x d rfl rfl
   have h1:=ih D (by simpa using hl) (fun j y e hj he=>hP (j + 1) y e (by simpa using hj) (by simpa using he))
   simp only [opsW,Rows.uptoBulkAll]
   omega
set_option maxRecDepth 100000 in
theorem open_opl {H:Type} {enc:TypeId × Value->H} {W:World} {base:Nat} {sp:Nat->Bool} {held:Bool} {fuel:Nat} {v:Value} {x:DataW H × List MemPlace} (h:DataW.trod enc Tryz.prog W base sp held fuel 27 [v]=some x) :
  ∃ (q:Option Addr) (c:Nat) (us:List Ou) (os:List Sop),v=.slice q us.length c/\SlOf encO 7 W q c us/\us.length=os.length/\(∀ (j:Nat) (u:Ou) (o:Sop),us[j]? = some u->os[j]? = some o->OpIn W u o)/\(∀ o ∈ os,SopI o)/\opsW os<=Rows.uptoBulk x.1:=by
 obtain ⟨q,c,us,e2,s3,g3⟩:=open_slD (enc':=encO) (P:=fun u d=>∃ o:Sop,OpIn W u o/\SopI o/\opW1 o<=Rows.uptoBulk d) Tryz.underlying27 Tryz.cells42 (by decide) (fun m hm cs x hx hl=>by
  obtain ⟨u,o,hv,h1,h2,h3⟩:=open_op hx hl
  refine ⟨u,fun c hc=>?_,o,h1,h2,h3⟩
  rw [hv]
  have hlen:c < (encO u).length:=by simp [encO];omega
  rw [List.getElem?_eq_getElem hlen,getElem!_pos (encO u) c hlen]) h
 rcases g3 with rfl | ⟨D,E,hD,hlD,hP⟩
 ·exact ⟨q,c,[],[],e2,s3,rfl,fun j u o hj _=>by simp at hj,fun o ho=>by simp at ho,by simp [opsW]⟩
 ·have hth:∀ i,i < us.length->∃ o:Sop,∀ u d,us[i]? = some u->D[i]? = some d->OpIn W u o/\SopI o/\opW1 o<=Rows.uptoBulk d:=fun i hi=>by
   obtain ⟨o,ho⟩:=hP i us[i] (D[i]'(by omega)) (List.getElem?_eq_getElem hi) (List.getElem?_eq_getElem (by omega))
   exact ⟨o,fun u d hu hd=>by
    rw [List.getElem?_eq_getElem hi] at hu
    rw [List.getElem?_eq_getElem (by omega)] at hd
    cases hu;cases hd;exact ho⟩
  obtain ⟨f,hf⟩:=Go.Deep.choose_lt hth
  refine ⟨q,c,us,(List.range us.length).map f,e2,s3,by simp,fun j u o hj ho=>?_,fun o ho=>?_, ?_⟩
  ·obtain ⟨hjl,rfl⟩:=range_at ho
   exact (hf j hjl u (D[j]'(by omega)) hj (List.getElem?_eq_getElem (by omega))).1
  ·obtain ⟨j,hj⟩:=List.mem_iff_getElem?.1 ho
   obtain ⟨hjl,rfl⟩:=range_at hj
   exact (hf j hjl us[j] (D[j]'(by omega)) (List.getElem?_eq_getElem hjl) (List.getElem?_eq_getElem (by omega))).2.1
  ·have:=bulk_ops ((List.range us.length).map f) D (by simpa using hlD) (fun j y d hj hd=>by
    obtain ⟨hjl,rfl⟩:=range_at hj
    exact (hf j hjl us[j] d (List.getElem?_eq_getElem hjl) hd).2.2)
   rw [hD]
   simp only [Rows.uptoBulk]
   omega
set_option maxRecDepth 100000 in
theorem open_scr {H:Type} {enc:TypeId × Value->H} {W:World} {base:Nat} {sp:Nat->Bool} {held:Bool} {fuel:Nat} {cs:List Value} {x:DataW H × List MemPlace} (h:DataW.trod enc Tryz.prog W base sp held fuel 29 cs=some x) (hl:cs.length=10) :
  ∃ (qa:Option Addr) (ca:Nat) (qo:Option Addr) (co:Nat) (us:List Ou) (s:Scr),cs=[.int .i64 s.cfg.d,.int .i64 s.cfg.c,.int .i64 s.cfg.s,.int .i64 s.cfg.t,.int .i64 s.cfg.h,.int .i64 s.cfg.q,.int .i64 s.cfg.w,.int .i64 s.cfg.u,.slice qa s.attrs.length ca,.slice qo us.length co]/\TxIn W qa ca qo co us s/\ScrI s/\s.attrs.length + opsW s.ops<=Rows.uptoBulk x.1:=by
 obtain ⟨y0,y1,y2,n,_,hx,h0,h1,h2⟩:=trod_three Tryz.underlying29 h
 match cs,hl with
 | [c0,c1,c2,c3,c4,c5,c6,c7,c8,c9],_ =>
  simp only [Tryz.cells25,Tryz.cells26,Tryz.cells27,List.drop,List.take] at h0 h1 h2
  obtain ⟨c,e0,hI⟩:=open_cfg h0 rfl
  obtain ⟨qa,ca,ats,e1,s1,g1⟩:=open_slD (enc':=encAt) (P:=fun _ _=>True) Tryz.underlying26 Tryz.cells62 (by decide) (fun m _=>decD_attr m) h1
  obtain ⟨qo,co,us,os,e2,s2,hlen,hop,hoI,hW⟩:=open_opl h2
  simp only [List.cons.injEq,and_true] at e0
  have b1:ats.length<=Rows.uptoBulk y1.1:=bulk_sl (g1.imp id fun ⟨D,E,h2,h3,_⟩=>⟨D,E,h2,h3⟩)
  refine ⟨qa,ca,qo,co,us,⟨c,ats,os⟩, ?_,⟨s1,s2,hlen,hop⟩,⟨hI,hoI⟩, ?_⟩
  ·rw [e0.1,e0.2.1,e0.2.2.1,e0.2.2.2.1,e0.2.2.2.2.1,e0.2.2.2.2.2.1,e0.2.2.2.2.2.2.1,e0.2.2.2.2.2.2.2,e1,e2]
  ·rw [hx]
   simp only [Rows.uptoBulk,Rows.uptoBulkAll]
   omega
theorem opsW_mem:∀ {l:List Sop} {o:Sop},o ∈ l->opW1 o<=opsW l
 | [],_,h=>by cases h
 | p :: l,o,h=>by
  simp only [opsW]
  rcases List.mem_cons.1 h with rfl | h
  ·omega
  ·have:=opsW_mem h;omega
theorem opsW_len:∀ (l:List Sop),l.length<=opsW l
 | []=>by simp [opsW]
 | o :: l=>by have:=opsW_len l;simp only [opsW,opW1,List.length_cons];omega
theorem opsW_Z {l:List Sop} (h:opsW l<=1048576):∀ o ∈ l,OpZ o:=fun o ho=>by
 have:=opsW_mem ho
 unfold opW1 at this
 unfold OpZ;omega
end Go.Proofs.YtdgoibnndfibnaaGreatDoor
