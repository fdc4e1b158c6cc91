/- What the rows list of the library's variables gives the walks of the lex layer. -/
import Derived.Test.YtdgoibnndfibnaaGreatDoorWZab
import Derived.ProofKit
import Derived.LaidMore
import Derived.OpenShut
import Derived.Stop.Joined
import Derived.Stop.LaidErr
import Derived.Test.YtdgoibnndfibnaaGreatDoorWZag
import Derived.Test.YtdgoibnndfibnaaGreatDoorWSBase
import Derived.Deep.Slices
import Derived.Deep.Strs
import Derived.Deep.DeepHandedRow
import Derived.Deep.DeepWitnessRowRef
import Derived.Lib.SmallJoins
import Derived.Lib.LaidTab
import Derived.SizedLaws
namespace Go.Proofs.YtdgoibnndfibnaaGreatDoor
open Go.ChangeShapes Go.WideShapes Go.ChangeAt Go.RowKit
theorem Tryz.laidOut:laidOutB Tryz.prog=true:=by kernel_rfl
theorem Tryz.own:ownKnob Tryz.prog.godebug=none:=by kernel_rfl
theorem Tryz.gTab:Tryz.prog.globalNamed "internal/strconv.uint64pow10"=some 1:=by kernel_rfl
theorem Tryz.gTabType:(Tryz.prog.globals[1]?).map (·.type)=some 196:=by kernel_rfl
theorem Tryz.gES:Tryz.prog.globalNamed "strconv.ErrSyntax"=some 2:=by kernel_rfl
theorem Tryz.gESType:(Tryz.prog.globals[2]?).map (·.type)=some 103:=by kernel_rfl
theorem Tryz.gER:Tryz.prog.globalNamed "strconv.ErrRange"=some 3:=by kernel_rfl
theorem Tryz.gERType:(Tryz.prog.globals[3]?).map (·.type)=some 103:=by kernel_rfl
theorem Tryz.cells113:Tryz.prog.cellsOf 113=1:=by kernel_rfl
theorem Tryz.cells196:Tryz.prog.cellsOf 196=20:=by kernel_rfl
theorem Tryz.cells205:Tryz.prog.cellsOf 205=1:=by kernel_rfl
theorem Tryz.cells9:Tryz.prog.cellsOf 9=1:=by kernel_rfl
theorem star:"*" ++ "errors.errorString"="*errors.errorString":=by decide
theorem row203 (u:TypeId) (h:Tryz.prog.typeName? 3 u=some "*errors.errorString"):u=203 :=
 typeName_ptr_named (nm:="errors.errorString") (by rw [star];kernel_rfl) (by kernel_rfl) (by decide) u (by rw [star];exact h)
/-- What every row of the layer lists. -/
def laidAll:List (String × DataW Unit):=[("math/bits.deBruijn32tab",Rows.laid_math_bits_deBruijn32tab),("math/bits.deBruijn64tab",Rows.laid_math_bits_deBruijn64tab),("internal/strconv.uint64pow10",Rows.laid_internal_strconv_uint64pow10),("strconv.ErrRange",Rows.laid_strconv_ErrRange),("strconv.ErrSyntax",Rows.laid_strconv_ErrSyntax)]
theorem tab_data:(Rows.laid_internal_strconv_uint64pow10:DataW Unit)=Lib.tabData .u64 Lib.pow10Tab:=by rfl
theorem G_of_laid {W:World} (h:laidMetH Tryz.prog laidAll W):G W:=by
 rw [MakeChecks.laidMetH_plain _ _ _ (by kernel_rfl)] at h
 have h3:=h.tail.tail
 rw [tab_data] at h3
 have h4:=h3.tail
 have h5:=h4.tail
 obtain ⟨a1,s1,hv1,-,-,-⟩:=laid_sentinel h4 Tryz.gER Tryz.gERType Tryz.underlying103 row203 Tryz.underlying203 Tryz.underlying205 rfl rfl Tryz.underlying9 Tryz.cells205 Tryz.cells9
 obtain ⟨a2,s2,hv2,-,-,-⟩:=laid_sentinel h5 Tryz.gES Tryz.gESType Tryz.underlying103 row203 Tryz.underlying203 Tryz.underlying205 rfl rfl Tryz.underlying9 Tryz.cells205 Tryz.cells9
 exact ⟨Lib.tabIs_of_head Tryz.gTab Tryz.gTabType Tryz.underlying196 Tryz.underlying113 Tryz.cells113 Tryz.cells196 h3,⟨_,_,hv2⟩,⟨_,_,hv1⟩⟩
end Go.Proofs.YtdgoibnndfibnaaGreatDoor
namespace Go.Proofs.YtdgoibnndfibnaaGreatDoor
open Go.ChangeShapes Go.WideShapes Go.ChangeAt Go.RowKit Go.Joins
theorem Tryz.cells3:Tryz.prog.cellsOf 3=1:=by kernel_rfl
theorem Tryz.cells36:Tryz.prog.cellsOf 36=3:=by kernel_rfl
theorem Tryz.cells37:Tryz.prog.cellsOf 37=1:=by kernel_rfl
theorem Tryz.cells39:Tryz.prog.cellsOf 39=4:=by kernel_rfl
theorem Tryz.cells40:Tryz.prog.cellsOf 40=1:=by kernel_rfl
theorem Tryz.cells42:Tryz.prog.cellsOf 42=7:=by kernel_rfl
theorem Tryz.cells76:Tryz.prog.cellsOf 76=3:=by kernel_rfl
theorem Tryz.cells78:Tryz.prog.cellsOf 78=4:=by kernel_rfl
theorem cell_spot {w:World} {a:Addr} {v:Value} (h:w.cell? a=some v):a.spot=Option.none/\a.block < w.heap.size:=by
 unfold World.cell? at h
 split at h
 ·next hc =>
  refine ⟨?_,(Array.getElem?_eq_some_iff.1 hc).1⟩
  split at h
  ·cases h
  ·next hs=>simpa using hs
 ·cases h
theorem range_at {α:Type} {f:Nat->α} {n j:Nat} {x:α} (h:((List.range n).map f)[j]? = some x):j < n/\x=f j:=by
 obtain ⟨hj,e⟩:=List.getElem?_eq_some_iff.1 h
 simp at hj e
 exact ⟨hj,e.symm⟩
/-- The cells of a row, one by one. -/
theorem flat_get {α:Type} [Inhabited α] {enc:α->List Value} {k:Nat} (hk:0 < k) {l:List α} {j:Nat} {u:Value} (h:(Sort.flatK enc k l.toArray).toList[j]? = some u):∃ x,l[j / k]? = some x/\u=(enc x)[j % k]!:=by
 have hs:=(List.getElem?_eq_some_iff.1 h).1
 have hlt:j < l.length * k:=by simpa using hs
 have hq:j / k < l.length:=(Nat.div_lt_iff_lt_mul hk).2 hlt
 obtain ⟨x,hx,_⟩:=get_at hq
 have h2:=flat_at (enc:=enc) (k:=k) hx (j % k) (Nat.mod_lt _ hk)
 rw [show j / k * k + j % k=j from by rw [Nat.mul_comm];exact Nat.div_add_mod j k,h] at h2
 exact ⟨x,hx,Option.some.inj h2⟩
theorem open_slD {α:Type} [Inhabited α] {enc':α->List Value} {k:Nat} {t e:TypeId} (ht:Tryz.prog.underlying t=some (.slice e)) (hc:Tryz.prog.cellsOf e=k) (hk:0 < k) {H:Type} {enc:TypeId × Value->H} {W:World} {base:Nat} {sp:Nat->Bool} {held:Bool} {fuel:Nat} {P:α->DataW H->Prop}
  (hdec:∀ (n:Nat),n < fuel->∀ (cs:List Value) (x:DataW H × List MemPlace),DataW.trod enc Tryz.prog W base sp held n e cs=some x->cs.length=k->∃ y:α,(∀ c,c < k->cs[c]? = some ((enc' y)[c]!))/\P y x.1)
  {v:Value} {x:DataW H × List MemPlace} (h:DataW.trod enc Tryz.prog W base sp held fuel t [v]=some x) :
  ∃ (q:Option Addr) (c:Nat) (l:List α),v=.slice q l.length c/\SlOf enc' k W q c l/\(l=[] ∨ ∃ D E,x.1=.slice D E/\D.length=l.length/\∀ (j:Nat) y d,l[j]? = some y->D[j]? = some d->P y d):=by
 rcases DataW.trod_slice ht h with ⟨h1,_⟩ | ⟨a',len,cap,elems,rest,n,hfu,h1,hx,hb,hlc,hcm,hlen,hel,_,_⟩
 ·simp only [List.cons.injEq,and_true] at h1
  exact ⟨Option.none,0,[],h1,SlOf.none _,Or.inl rfl⟩
 ·simp only [List.cons.injEq,and_true] at h1
  by_cases h0:len=0
  ·subst h0
   exact ⟨some a',cap,[],h1,⟨(fun h=>by cases h),Nat.zero_le _,hcm,LsOf.nil _ _⟩,Or.inl rfl⟩
  rw [hc] at hel
  have hth:∀ i,i < len->∃ y:α,(∀ c,c < k->W.cell? ((a'.add (i * k)).add c)=some ((enc' y)[c]!))/\∀ d,elems[i]? = some d->P y d.1:=fun i hi=>by
   have h3:=hel i hi
   obtain ⟨d,hd⟩:∃ d,elems[i]? = some d:=⟨elems[i]'(by omega),List.getElem?_eq_getElem (by omega)⟩
   rw [hd] at h3
   obtain ⟨cs',hcs,htr⟩:=Option.bind_eq_some_iff.1 h3
   obtain ⟨_,hl,hcell⟩:=World.cells?_some hcs
   obtain ⟨y,hy,hP⟩:=hdec n (by omega) _ _ htr hl
   exact ⟨y,fun c hc'=>by rw [hcell c (by omega)];exact hy c hc',fun d' hd'=>by rw [hd] at hd';cases hd';exact hP⟩
  obtain ⟨f,hf⟩:=Go.Deep.choose_lt hth
  have hc0:=(hf 0 (by omega)).1 0 hk
  have e0:(a'.add (0 * k)).add 0=a':=by simp [Addr.add]
  rw [e0] at hc0
  obtain ⟨hs,hb'⟩:=cell_spot hc0
  obtain ⟨b,off,spot⟩:=a'
  simp only at hs hb'
  subst hs
  refine ⟨some ⟨b,off,Option.none⟩,cap,(List.range len).map f,by simpa using h1,⟨(fun h=>by cases h),by simpa using hlc,hcm,fun _=>⟨b,off,rfl,hb',fun j u hj=>?_⟩⟩,Or.inr ⟨_,_,congrArg Prod.fst hx,by simp [hlen],fun j y d hj hd=>?_⟩⟩
  ·obtain ⟨y,hy,rfl⟩:=flat_get hk hj
   obtain ⟨hjl,rfl⟩:=range_at hy
   have h7:=(hf (j / k) (by omega)).1 (j % k) (Nat.mod_lt _ hk)
   simp only [add_plain] at h7
   rw [Nat.add_assoc,show j / k * k + j % k=j from by rw [Nat.mul_comm];exact Nat.div_add_mod j k] at h7
   exact h7
  ·obtain ⟨hjl,rfl⟩:=range_at hj
   rw [List.getElem?_map] at hd
   obtain ⟨d',hd',rfl⟩:=Option.map_eq_some_iff.1 hd
   exact (hf j hjl).2 d' hd'
theorem bulk_one {H:Type} (d:DataW H):1<=Rows.uptoBulk d:=by
 cases d <;> first | (rename_i b;cases b <;> simp only [Rows.uptoBulk] <;> omega) | (simp only [Rows.uptoBulk];omega)
theorem bulk_len {H:Type} (l:List (DataW H)):l.length<=Rows.uptoBulkAll l:=by
 induction l with
 | nil=>simp
 | cons x r ih=>have:=bulk_one x;simp only [Rows.uptoBulkAll,List.length_cons];omega
theorem bulk_sl {H:Type} {d:DataW H} {α:Type} {l:List α} (g:l=[] ∨ ∃ D E,d=.slice D E/\D.length=l.length):l.length<=Rows.uptoBulk d:=by
 rcases g with rfl | ⟨D,E,rfl,hl⟩
 ·simp
 ·have:=bulk_len D;simp only [Rows.uptoBulk];omega
theorem trod_two {H:Type} {enc:TypeId × Value->H} {P:Program} {w:World} {base:Nat} {spare:Nat->Bool} {held:Bool} {t:TypeId} {f0 f1:Field} {fuel:Nat} {cs:List Value} {x:DataW H × List MemPlace} (ht:P.underlying t=some (.struct #[f0,f1])) (h:DataW.trod enc P w base spare held fuel t cs=some x) :
  ∃ y0 y1 n,n < fuel/\x.1=.agg [y0.1,y1.1]/\DataW.trod enc P w base spare held n f0.type ((cs.drop f0.offset).take (P.cellsOf f0.type))=some y0/\DataW.trod enc P w base spare held n f1.type ((cs.drop f1.offset).take (P.cellsOf f1.type))=some y1:=by
 obtain ⟨xs,n,hn,rfl,hl,hlen,hf⟩:=DataW.trod_struct ht h
 match xs,hlen with
 | [y0,y1],_=>exact ⟨y0,y1,n,by omega,by simp,by simpa using hf 0 f0 rfl,by simpa using hf 1 f1 rfl⟩
theorem trod_three {H:Type} {enc:TypeId × Value->H} {P:Program} {w:World} {base:Nat} {spare:Nat->Bool} {held:Bool} {t:TypeId} {f0 f1 f2:Field} {fuel:Nat} {cs:List Value} {x:DataW H × List MemPlace} (ht:P.underlying t=some (.struct #[f0,f1,f2])) (h:DataW.trod enc P w base spare held fuel t cs=some x) :
  ∃ y0 y1 y2 n,n < fuel/\x.1=.agg [y0.1,y1.1,y2.1]/\DataW.trod enc P w base spare held n f0.type ((cs.drop f0.offset).take (P.cellsOf f0.type))=some y0/\DataW.trod enc P w base spare held n f1.type ((cs.drop f1.offset).take (P.cellsOf f1.type))=some y1/\DataW.trod enc P w base spare held n f2.type ((cs.drop f2.offset).take (P.cellsOf f2.type))=some y2:=by
 obtain ⟨xs,n,hn,rfl,hl,hlen,hf⟩:=DataW.trod_struct ht h
 match xs,hlen with
 | [y0,y1,y2],_=>exact ⟨y0,y1,y2,n,by omega,by simp,by simpa using hf 0 f0 rfl,by simpa using hf 1 f1 rfl,by simpa using hf 2 f2 rfl⟩
theorem trod_four {H:Type} {enc:TypeId × Value->H} {P:Program} {w:World} {base:Nat} {spare:Nat->Bool} {held:Bool} {t:TypeId} {f0 f1 f2 f3:Field} {fuel:Nat} {cs:List Value} {x:DataW H × List MemPlace} (ht:P.underlying t=some (.struct #[f0,f1,f2,f3])) (h:DataW.trod enc P w base spare held fuel t cs=some x) :
  ∃ y0 y1 y2 y3 n,n < fuel/\x.1=.agg [y0.1,y1.1,y2.1,y3.1]/\DataW.trod enc P w base spare held n f0.type ((cs.drop f0.offset).take (P.cellsOf f0.type))=some y0/\DataW.trod enc P w base spare held n f1.type ((cs.drop f1.offset).take (P.cellsOf f1.type))=some y1/\DataW.trod enc P w base spare held n f2.type ((cs.drop f2.offset).take (P.cellsOf f2.type))=some y2/\DataW.trod enc P w base spare held n f3.type ((cs.drop f3.offset).take (P.cellsOf f3.type))=some y3:=by
 obtain ⟨xs,n,hn,rfl,hl,hlen,hf⟩:=DataW.trod_struct ht h
 match xs,hlen with
 | [y0,y1,y2,y3],_=>exact ⟨y0,y1,y2,y3,n,by omega,by simp,by simpa using hf 0 f0 rfl,by simpa using hf 1 f1 rfl,by simpa using hf 2 f2 rfl,by simpa using hf 3 f3 rfl⟩
set_option maxRecDepth 100000 in
theorem open_val {H:Type} {enc:TypeId × Value->H} {W:World} {base:Nat} {sp:Nat->Bool} {held:Bool} {fuel:Nat} {cs:List Value} {x:DataW H × List MemPlace} (h:DataW.trod enc Tryz.prog W base sp held fuel 76 cs=some x) (hl:cs.length=3) :
  ∃ (k n:Int) (s:ByteArray),cs=[.int .i64 k,.int .i64 n,.string s]:=by
 obtain ⟨y0,y1,y2,n,_,_,h0,h1,h2⟩:=trod_three Tryz.underlying76 h
 match cs,hl with
 | [c0,c1,c2],_ =>
  simp only [Tryz.cells3,Tryz.cells9,List.drop,List.take] at h0 h1 h2
  obtain ⟨k,e0,_,_⟩:=DataW.trod_int Tryz.underlying3 h0
  obtain ⟨i,e1,_,_⟩:=DataW.trod_int Tryz.underlying3 h1
  obtain ⟨s,e2,_,_⟩:=DataW.trod_string Tryz.underlying9 h2
  simp only [List.cons.injEq,and_true] at e0 e1 e2
  exact ⟨k,i,s,by rw [e0,e1,e2]⟩
set_option maxRecDepth 100000 in
theorem open_pair {H:Type} {enc:TypeId × Value->H} {W:World} {base:Nat} {sp:Nat->Bool} {held:Bool} {fuel:Nat} {cs:List Value} {x:DataW H × List MemPlace} (h:DataW.trod enc Tryz.prog W base sp held fuel 78 cs=some x) (hl:cs.length=4):∃ y:Pq,cs=encQ y:=by
 obtain ⟨y0,y1,n,_,hx,h0,h1⟩:=trod_two Tryz.underlying78 h
 match cs,hl with
 | [c0,c1,c2,c3],_ =>
  simp only [Tryz.cells9,Tryz.cells76,List.drop,List.take] at h0 h1
  obtain ⟨s,e0,_,_⟩:=DataW.trod_string Tryz.underlying9 h0
  obtain ⟨k,i,s2,e1⟩:=open_val h1 rfl
  simp only [List.cons.injEq,and_true] at e0 e1
  exact ⟨(s,k,i,s2),by rw [e0,e1.1,e1.2.1,e1.2.2];rfl⟩
theorem decD_pair {H:Type} {enc:TypeId × Value->H} {W:World} {base:Nat} {sp:Nat->Bool} {held:Bool} (fuel:Nat) (cs:List Value) (x:DataW H × List MemPlace) (h:DataW.trod enc Tryz.prog W base sp held fuel 78 cs=some x) (hl:cs.length=4):∃ y:Pq,(∀ c,c < 4->cs[c]? = some ((encQ y)[c]!))/\True:=by
 obtain ⟨y,hv⟩:=open_pair h hl
 refine ⟨y,fun c hc=>?_,trivial⟩
 rw [hv]
 have hlen:c < (encQ y).length:=by simp [encQ];omega
 rw [List.getElem?_eq_getElem hlen,getElem!_pos (encQ y) c hlen]
theorem i64_of {n:Int} (h:Lit.wf (.int .i64 n)=true):I64 n:=by
 simp [Lit.wf,IntKind.min,IntKind.max,IntKind.signed,IntKind.bits] at h
 unfold I64;omega
theorem decD_int {H:Type} {enc:TypeId × Value->H} {W:World} {base:Nat} {sp:Nat->Bool} {held:Bool} (fuel:Nat) (cs:List Value) (x:DataW H × List MemPlace) (h:DataW.trod enc Tryz.prog W base sp held fuel 3 cs=some x) (_:cs.length=1):∃ y:Int,(∀ c,c < 1->cs[c]? = some ((encI y)[c]!))/\I64 y:=by
 obtain ⟨a,e0,_,wf⟩:=DataW.trod_int Tryz.underlying3 h
 refine ⟨a,fun c hc=>?_, ?_⟩
 ·have h0:c=0:=(by omega)
  rw [h0,e0];rfl
 ·exact i64_of wf
set_option maxRecDepth 100000 in
theorem open_ch {H:Type} {enc:TypeId × Value->H} {W:World} {base:Nat} {sp:Nat->Bool} {held:Bool} {fuel:Nat} {cs:List Value} {x:DataW H × List MemPlace} (h:DataW.trod enc Tryz.prog W base sp held fuel 36 cs=some x) (hl:cs.length=3) :
  ∃ (k n:Int) (s:ByteArray),cs=[.int .i64 k,.int .i64 n,.string s]/\I64 n/\s.size<=Rows.uptoBulk x.1:=by
 obtain ⟨y0,y1,y2,n,_,hx,h0,h1,h2⟩:=trod_three Tryz.underlying36 h
 match cs,hl with
 | [c0,c1,c2],_ =>
  simp only [Tryz.cells3,Tryz.cells9,List.drop,List.take] at h0 h1 h2
  obtain ⟨k,e0,_,_⟩:=DataW.trod_int Tryz.underlying3 h0
  obtain ⟨i,e1,_,w1⟩:=DataW.trod_int Tryz.underlying3 h1
  obtain ⟨s,e2,hs,_⟩:=DataW.trod_string Tryz.underlying9 h2
  simp only [List.cons.injEq,and_true] at e0 e1 e2
  refine ⟨k,i,s,by rw [e0,e1,e2],i64_of w1, ?_⟩
  have hs2:y2.1=.lit (.string s.data.toList):=by rw [hs]
  rw [hx]
  simp only [Rows.uptoBulk,Rows.uptoBulkAll,hs2]
  show s.data.size<=_
  simp only [Array.length_toList]
  omega
set_option maxRecDepth 100000 in
theorem open_call {H:Type} {enc:TypeId × Value->H} {W:World} {base:Nat} {sp:Nat->Bool} {held:Bool} {fuel:Nat} {cs:List Value} {x:DataW H × List MemPlace} (h:DataW.trod enc Tryz.prog W base sp held fuel 39 cs=some x) (hl:cs.length=4) :
  ∃ (k n:Int) (s:ByteArray) (q:Option Addr) (c:Nat) (ev:List Pq),cs=[.int .i64 k,.int .i64 n,.string s,.slice q ev.length c]/\I64 n/\SlOf encQ 4 W q c ev/\s.size + ev.length<=Rows.uptoBulk x.1:=by
 obtain ⟨y0,y1,n,_,hx,h0,h1⟩:=trod_two Tryz.underlying39 h
 match cs,hl with
 | [c0,c1,c2,c3],_ =>
  simp only [Tryz.cells36,Tryz.cells37,List.drop,List.take] at h0 h1
  obtain ⟨k,i,s,e0,hi,hz⟩:=open_ch h0 rfl
  obtain ⟨q,c,ev,e1,s1,g1⟩:=open_slD (enc':=encQ) (P:=fun _ _=>True) Tryz.underlying37 Tryz.cells78 (by decide) (fun m _=>decD_pair m) h1
  simp only [List.cons.injEq,and_true] at e0
  refine ⟨k,i,s,q,c,ev,by rw [e0.1,e0.2.1,e0.2.2,e1],hi,s1, ?_⟩
  have b1:ev.length<=Rows.uptoBulk y1.1:=bulk_sl (g1.imp id fun ⟨D,E,h2,h3,_⟩=>⟨D,E,h2,h3⟩)
  rw [hx]
  simp only [Rows.uptoBulk,Rows.uptoBulkAll]
  omega
set_option maxRecDepth 100000 in
theorem open_op {H:Type} {enc:TypeId × Value->H} {W:World} {base:Nat} {sp:Nat->Bool} {held:Bool} {fuel:Nat} {cs:List Value} {x:DataW H × List MemPlace} (h:DataW.trod enc Tryz.prog W base sp held fuel 42 cs=some x) (hl:cs.length=7) :
  ∃ (u:Ou) (o:Sop),cs=encO u/\OpIn W u o/\SopI o/\o.text.size + o.ev.length + o.nums.length + 1<=Rows.uptoBulk x.1:=by
 obtain ⟨y0,y1,y2,y3,n,_,hx,h0,h1,h2,h3⟩:=trod_four Tryz.underlying42 h
 match cs,hl with
 | [c0,c1,c2,c3,c4,c5,c6],_ =>
  simp only [Tryz.cells3,Tryz.cells39,Tryz.cells40,List.drop,List.take] at h0 h1 h2 h3
  obtain ⟨kd,e0,_,_⟩:=DataW.trod_int Tryz.underlying3 h0
  obtain ⟨wh,e1,_,w1⟩:=DataW.trod_int Tryz.underlying3 h1
  obtain ⟨ck,i,s,q,c,ev,e2,hi,s2,z2⟩:=open_call h2 rfl
  obtain ⟨p,d,ns,e3,s3,g3⟩:=open_slD (enc':=encI) (P:=fun y _=>I64 y) Tryz.underlying40 Tryz.cells3 (by decide) (fun m _=>decD_int m) h3
  simp only [List.cons.injEq,and_true] at e0 e1 e2
  have b3:ns.length<=Rows.uptoBulk y3.1:=bulk_sl (g3.imp id fun ⟨D,E,h2,h3,_⟩=>⟨D,E,h2,h3⟩)
  have b0:=bulk_one y0.1
  have hI:∀ n ∈ ns,I64 n:=by
   intro n hn
   rcases g3 with rfl | ⟨D,E,_,hlD,hP⟩
   ·cases hn
   ·obtain ⟨j,hj⟩:=List.mem_iff_getElem?.1 hn
    have hjl:=(List.getElem?_eq_some_iff.1 hj).1
    exact hP j n D[j] hj (List.getElem?_eq_getElem (by omega))
  refine ⟨{ kind:=kd,who:=wh,ck:=ck,id:=i,text:=s,qe:=q,ne:=ev.length,ce:=c,qn:=p,nn:=ns.length,cn:=d },{ kind:=kd,who:=wh,ck:=ck,id:=i,text:=s,ev:=ev,nums:=ns }, ?_,⟨rfl,rfl,rfl,rfl,rfl,rfl,rfl,s2,s3⟩,⟨i64_of w1,hi,hI⟩, ?_⟩
  ·rw [e0,e1,e2.1,e2.2.1,e2.2.2.1,e2.2.2.2,e3];rfl
  ·rw [hx]
   simp only [Rows.uptoBulk,Rows.uptoBulkAll]
   omega
end Go.Proofs.YtdgoibnndfibnaaGreatDoor
