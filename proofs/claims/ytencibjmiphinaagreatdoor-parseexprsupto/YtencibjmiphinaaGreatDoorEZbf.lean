/- What the rows list of the library's variables gives the walks of the lex layer. -/
import Derived.Test.YtencibjmiphinaaGreatDoorEZal
import Derived.ProofKit
import Derived.LaidMore
import Derived.OpenShut
import Derived.Stop.Joined
import Derived.Stop.LaidErr
import Derived.Test.YtencibjmiphinaaGreatDoorEZac
import Derived.Test.YtencibjmiphinaaGreatDoorEZae
import Derived.Deep.Slices
import Derived.Deep.Strs
import Derived.Deep.DeepHandedRow
import Derived.Deep.DeepWitnessRowRef
import Derived.Lib.SmallJoins
import Derived.Lib.LaidTab
import Derived.SizedLaws
import Derived.Test.YtencibjmiphinaaGreatDoorRows
import Derived.Test.YtencibjmiphinaaGreatDoorEZbc
import Derived.Test.YtencibjmiphinaaGreatDoorEZat
namespace Go.Proofs.YtencibjmiphinaaGreatDoor
open Go.ChangeShapes Go.WideShapes Go.ChangeAt Go.RowKit

theorem Tryz.laidOut:laidOutB Tryz.prog=true:=by kernel_rfl
theorem Tryz.own:ownKnob Tryz.prog.godebug=none:=by kernel_rfl
theorem Tryz.gTab:Tryz.prog.globalNamed "internal/strconv.uint64pow10"=some 3:=by kernel_rfl
theorem Tryz.gTabType:(Tryz.prog.globals[3]?).map (·.type)=some 207:=by kernel_rfl
theorem Tryz.gES:Tryz.prog.globalNamed "strconv.ErrSyntax"=some 1:=by kernel_rfl
theorem Tryz.gESType:(Tryz.prog.globals[1]?).map (·.type)=some 114:=by kernel_rfl
theorem Tryz.gER:Tryz.prog.globalNamed "strconv.ErrRange"=some 2:=by kernel_rfl
theorem Tryz.gERType:(Tryz.prog.globals[2]?).map (·.type)=some 114:=by kernel_rfl
theorem Tryz.cells161:Tryz.prog.cellsOf 161=1:=by kernel_rfl
theorem Tryz.cells207:Tryz.prog.cellsOf 207=20:=by kernel_rfl
theorem Tryz.cells211:Tryz.prog.cellsOf 211=1:=by kernel_rfl
theorem Tryz.cells9:Tryz.prog.cellsOf 9=1:=by kernel_rfl
theorem star:"*" ++ "errors.errorString"="*errors.errorString":=by decide
theorem row209 (u:TypeId) (h:Tryz.prog.typeName? 3 u=some "*errors.errorString"):u=209 :=
  typeName_ptr_named (nm:="errors.errorString") (by rw [star];kernel_rfl) (by kernel_rfl) (by decide) u (by rw [star];exact h)

/-- What every row of the layer lists. -/
def laidAll:List (String × DataW Unit):=[("math/bits.deBruijn32tab",Rows.laid_math_bits_deBruijn32tab),("math/bits.deBruijn64tab",Rows.laid_math_bits_deBruijn64tab),("internal/strconv.uint64pow10",Rows.laid_internal_strconv_uint64pow10),("strconv.ErrRange",Rows.laid_strconv_ErrRange),("strconv.ErrSyntax",Rows.laid_strconv_ErrSyntax)]
theorem tab_data:(Rows.laid_internal_strconv_uint64pow10:DataW Unit)=Lib.tabData .u64 Lib.pow10Tab:=by rfl
theorem G_of_laid {W:World} (h:laidMetH Tryz.prog laidAll W):Lx.G W:=by
  rw [MakeChecks.laidMetH_plain _ _ _ (by kernel_rfl)] at h
  have h3:=h.tail.tail
  rw [tab_data] at h3
  have h4:=h3.tail
  have h5:=h4.tail
  obtain ⟨a1,s1,hv1,-,-,-⟩:=laid_sentinel h4 Tryz.gER Tryz.gERType Tryz.underlying114 row209 Tryz.underlying209 Tryz.underlying211 rfl rfl Tryz.underlying9 Tryz.cells211 Tryz.cells9
  obtain ⟨a2,s2,hv2,-,-,-⟩:=laid_sentinel h5 Tryz.gES Tryz.gESType Tryz.underlying114 row209 Tryz.underlying209 Tryz.underlying211 rfl rfl Tryz.underlying9 Tryz.cells211 Tryz.cells9
  exact ⟨Lib.tabIs_of_head Tryz.gTab Tryz.gTabType Tryz.underlying207 Tryz.underlying161 Tryz.cells161 Tryz.cells207 h3,⟨_,_,hv2⟩,⟨_,_,hv1⟩⟩
end Go.Proofs.YtencibjmiphinaaGreatDoor
namespace Go.Proofs.YtencibjmiphinaaGreatDoor
open Go.ChangeShapes Go.WideShapes Go.ChangeAt Go.RowKit Go.Joins

theorem Tryz.cells3:Tryz.prog.cellsOf 3=1:=by kernel_rfl
theorem Tryz.cells23:Tryz.prog.cellsOf 23=1:=by kernel_rfl
theorem Tryz.cells24:Tryz.prog.cellsOf 24=1:=by kernel_rfl
theorem Tryz.cells26:Tryz.prog.cellsOf 26=6:=by kernel_rfl
theorem cell_spot {w:World} {a:Addr} {v:Value} (h:w.cell? a=some v):a.spot=Option.none∧a.block < w.heap.size:=by
  unfold World.cell? at h
  split at h
  · next hc =>
    refine ⟨?_,(Array.getElem?_eq_some_iff.1 hc).1⟩
    split at h
    · cases h
    · next hs=>simpa using hs
  · cases h
theorem range_at {α:Type} {f:Nat→α} {n j:Nat} {x:α} (h:((List.range n).map f)[j]? = some x):j < n∧x=f j:=by
  obtain ⟨hj,e⟩:=List.getElem?_eq_some_iff.1 h
  simp at hj e
  exact ⟨hj,e.symm⟩
/-- The cells of a row, one by one. -/
theorem flat_get {α:Type} [Inhabited α] {enc:α→List Value} {k:Nat} (hk:0 < k) {l:List α} {j:Nat} {u:Value} (h:(Sort.flatK enc k l.toArray).toList[j]? = some u):∃ x,l[j / k]? = some x∧u=(enc x)[j % k]!:=by
  have hs:=(List.getElem?_eq_some_iff.1 h).1
  have hlt:j < l.length * k:=by simpa using hs
  have hq:j / k < l.length:=(Nat.div_lt_iff_lt_mul hk).2 hlt
  obtain ⟨x,hx,_⟩:=get_at hq
  have h2:=flat_at (enc:=enc) (k:=k) hx (j % k) (Nat.mod_lt _ hk)
  rw [show j / k * k + j % k=j from by rw [Nat.mul_comm];exact Nat.div_add_mod j k,h] at h2
  exact ⟨x,hx,Option.some.inj h2⟩
set_option maxRecDepth 100000 in
/-- A list among the arguments. -/
theorem open_sl {α:Type} [Inhabited α] {enc':α→List Value} {k:Nat} {t e:TypeId} (ht:Tryz.prog.underlying t=some (.slice e)) (hc:Tryz.prog.cellsOf e=k) (hk:0 < k) {H:Type} {enc:TypeId × Value→H} {W:World} {base:Nat} {sp:Nat→Bool} {held:Bool}
    (hdec:∀ (fuel:Nat) (cs:List Value) (x:DataW H × List MemPlace),DataW.trod enc Tryz.prog W base sp held fuel e cs=some x→cs.length=k→∃ y:α,∀ c,c < k→cs[c]? = some ((enc' y)[c]!))
    {fuel:Nat} {v:Value} {x:DataW H × List MemPlace} (h:DataW.trod enc Tryz.prog W base sp held fuel t [v]=some x) :
    ∃ (q:Option Addr) (c:Nat) (l:List α),v=.slice q l.length c∧SlOf enc' k W q c l∧(l=[] ∨ ∃ D E,x.1=.slice D E∧D.length=l.length):=by
  rcases Go.Deep.open_slice ht h with ⟨h1,_⟩ | ⟨a',len,cap,m,n,D,Pl,h1,_,hlc,hcm,hm,hx,hel⟩
  · simp only [List.cons.injEq,and_true] at h1
    exact ⟨Option.none,0,[],h1,SlOf.none _,Or.inl rfl⟩
  · simp only [List.cons.injEq,and_true] at h1
    by_cases h0:len=0
    · subst h0
      exact ⟨some a',cap,[],h1,⟨(fun h=>by cases h),Nat.zero_le _,hcm,LsOf.nil _ _⟩,Or.inl rfl⟩
    have hmm:len≤m:=by rw [hm];split <;> omega
    rw [hc] at hel
    have hth:∀ i,i < m→∃ y:α,∀ c,c < k→W.cell? ((a'.add (i * k)).add c)=some ((enc' y)[c]!):=fun i hi=>by
      obtain ⟨cs',hcs,htr⟩:=hel i hi
      obtain ⟨_,hl,hcell⟩:=World.cells?_some hcs
      obtain ⟨y,hy⟩:=hdec _ _ _ htr hl
      exact ⟨y,fun c hc'=>by
        rw [hcell c (by omega)];exact hy c hc'⟩
    obtain ⟨f,hf⟩:=Go.Deep.choose_lt hth
    have hc0:=hf 0 (by omega) 0 hk
    have e0:(a'.add (0 * k)).add 0=a':=by simp [Addr.add]
    rw [e0] at hc0
    obtain ⟨hs,hb⟩:=cell_spot hc0
    obtain ⟨b,off,spot⟩:=a'
    simp only at hs hb
    subst hs
    have hd:x.1=.slice ((List.range len).map D) ((List.range (m - len)).map fun j=>D (len + j)):=congrArg Prod.fst hx
    refine ⟨some ⟨b,off,Option.none⟩,cap,(List.range len).map f,by simpa using h1,⟨(fun h=>by cases h),by simpa using hlc,hcm,fun _=>⟨b,off,rfl,hb,fun j u hj=>?_⟩⟩,Or.inr ⟨_,_,hd,by simp⟩⟩
    obtain ⟨y,hy,rfl⟩:=flat_get hk hj
    obtain ⟨hjl,rfl⟩:=range_at hy
    have h7:=hf (j / k) (by omega) (j % k) (Nat.mod_lt _ hk)
    simp only [add_plain] at h7
    rw [Nat.add_assoc,show j / k * k + j % k=j from by rw [Nat.mul_comm];exact Nat.div_add_mod j k] at h7
    exact h7
theorem dec_int {H:Type} {enc:TypeId × Value→H} {W:World} {base:Nat} {sp:Nat→Bool} {held:Bool} (fuel:Nat) (cs:List Value) (x:DataW H × List MemPlace) (h:DataW.trod enc Tryz.prog W base sp held fuel 3 cs=some x) (_:cs.length=1):∃ y:Int,∀ c,c < 1→cs[c]? = some ((encI y)[c]!):=by
  obtain ⟨a,e0,_,_⟩:=DataW.trod_int Tryz.underlying3 h
  exact ⟨a,fun c hc=>by
    have h0:c=0:=(by omega)
    rw [h0,e0];rfl⟩
theorem trod_six {H:Type} {enc:TypeId × Value→H} {P:Program} {w:World} {base:Nat} {spare:Nat→Bool} {held:Bool} {t:TypeId} {f0 f1 f2 f3 f4 f5:Field} {fuel:Nat} {cs:List Value} {x:DataW H × List MemPlace} (ht:P.underlying t=some (.struct #[f0,f1,f2,f3,f4,f5])) (h:DataW.trod enc P w base spare held fuel t cs=some x) :
    ∃ y0 y1 y2 y3 y4 y5 n,x.1=.agg [y0.1,y1.1,y2.1,y3.1,y4.1,y5.1]∧DataW.trod enc P w base spare held n f0.type ((cs.drop f0.offset).take (P.cellsOf f0.type))=some y0∧DataW.trod enc P w base spare held n f1.type ((cs.drop f1.offset).take (P.cellsOf f1.type))=some y1∧DataW.trod enc P w base spare held n f2.type ((cs.drop f2.offset).take (P.cellsOf f2.type))=some y2∧DataW.trod enc P w base spare held n f3.type ((cs.drop f3.offset).take (P.cellsOf f3.type))=some y3∧DataW.trod enc P w base spare held n f4.type ((cs.drop f4.offset).take (P.cellsOf f4.type))=some y4∧DataW.trod enc P w base spare held n f5.type ((cs.drop f5.offset).take (P.cellsOf f5.type))=some y5:=by
  obtain ⟨xs,n,_,rfl,hl,hlen,hf⟩:=DataW.trod_struct ht h
  match xs,hlen with
  | [y0,y1,y2,y3,y4,y5],_=>exact ⟨y0,y1,y2,y3,y4,y5,n,by simp,by simpa using hf 0 f0 rfl,by simpa using hf 1 f1 rfl,by simpa using hf 2 f2 rfl,by simpa using hf 3 f3 rfl,by simpa using hf 4 f4 rfl,by simpa using hf 5 f5 rfl⟩
end Go.Proofs.YtencibjmiphinaaGreatDoor
namespace Go.Proofs.YtencibjmiphinaaGreatDoor
open Go.ChangeShapes Go.WideShapes Go.ChangeAt Go.RowKit Go.Joins

instance:Inhabited Nd:=⟨.mk 0 ⟨#[]⟩ [] [] 0 0 0 []⟩
theorem bulk_one {H:Type} (d:DataW H):1≤Rows.uptoBulk d:=by
  cases d with
  | lit l=>cases l <;> simp [Rows.uptoBulk]
  | _=>simp [Rows.uptoBulk]
theorem bulk_len {H:Type} (l:List (DataW H)):l.length≤Rows.uptoBulkAll l:=by
  induction l with
  | nil=>simp [Rows.uptoBulkAll]
  | cons x r ih=>have:=bulk_one x;simp only [Rows.uptoBulkAll,List.length_cons];omega
theorem bulk_words {H:Type}:∀ (l:List ByteArray) (D:List (DataW H)),D.length=l.length→(∀ (j:Nat) y d,l[j]? = some y→D[j]? = some d→1 + y.size≤Rows.uptoBulk d)→wordsWt l≤Rows.uptoBulkAll D:=by
  intro l
  induction l with
  | nil=>intro D _ _;simp [wordsWt]
  | cons x l ih =>
    intro D hl hP
    cases D with
    | nil=>simp at hl
    | cons d D =>
      have h0:=hP 0 x d rfl rfl
      have h1:=ih D (by simpa using hl) (fun j y e hj he=>hP (j + 1) y e (by simpa using hj) (by simpa using he))
      simp only [wordsWt,Rows.uptoBulkAll]
      omega
theorem bulk_kids {H:Type}:∀ (l:List Nd) (D:List (DataW H)),D.length=l.length→(∀ (j:Nat) y d,l[j]? = some y→D[j]? = some d→wtN y≤Rows.uptoBulk d)→wtL l≤Rows.uptoBulkAll D:=by
  intro l
  induction l with
  | nil=>intro D _ _;simp [wtL]
  | cons x l ih =>
    intro D hl hP
    cases D with
    | nil=>simp at hl
    | cons d D =>
      have h0:=hP 0 x d rfl rfl
      have h1:=ih D (by simpa using hl) (fun j y e hj he=>hP (j + 1) y e (by simpa using hj) (by simpa using he))
      simp only [wtL,Rows.uptoBulkAll]
      omega
set_option maxRecDepth 100000 in
/-- A list among the arguments, with what is known of each element's data. -/
theorem open_slD {α:Type} [Inhabited α] {enc':α→List Value} {k:Nat} {t e:TypeId} (ht:Tryz.prog.underlying t=some (.slice e)) (hc:Tryz.prog.cellsOf e=k) (hk:0 < k) {H:Type} {enc:TypeId × Value→H} {W:World} {base:Nat} {sp:Nat→Bool} {held:Bool} {fuel:Nat} {P:α→DataW H→Prop}
    (hdec:∀ (n:Nat),n < fuel→∀ (cs:List Value) (x:DataW H × List MemPlace),DataW.trod enc Tryz.prog W base sp held n e cs=some x→cs.length=k→∃ y:α,(∀ c,c < k→cs[c]? = some ((enc' y)[c]!))∧P y x.1)
    {v:Value} {x:DataW H × List MemPlace} (h:DataW.trod enc Tryz.prog W base sp held fuel t [v]=some x) :
    ∃ (q:Option Addr) (c:Nat) (l:List α),v=.slice q l.length c∧SlOf enc' k W q c l∧(l=[] ∨ ∃ D E,x.1=.slice D E∧D.length=l.length∧∀ (j:Nat) y d,l[j]? = some y→D[j]? = some d→P y d):=by
  rcases DataW.trod_slice ht h with ⟨h1,_⟩ | ⟨a',len,cap,elems,rest,n,hfu,h1,hx,hb,hlc,hcm,hlen,hel,_,_⟩
  · simp only [List.cons.injEq,and_true] at h1
    exact ⟨Option.none,0,[],h1,SlOf.none _,Or.inl rfl⟩
  · simp only [List.cons.injEq,and_true] at h1
    by_cases h0:len=0
    · subst h0
      exact ⟨some a',cap,[],h1,⟨(fun h=>by cases h),Nat.zero_le _,hcm,LsOf.nil _ _⟩,Or.inl rfl⟩
    rw [hc] at hel
    have hth:∀ i,i < len→∃ y:α,(∀ c,c < k→W.cell? ((a'.add (i * k)).add c)=some ((enc' y)[c]!))∧∀ d,elems[i]? = some d→P y d.1:=fun i hi=>by
      have h3:=hel i hi
      obtain ⟨d,hd⟩:∃ d,elems[i]? = some d:=⟨elems[i]'(by omega),List.getElem?_eq_getElem (by omega)⟩
      rw [hd] at h3
      obtain ⟨cs',hcs,htr⟩:=Option.bind_eq_some_iff.1 h3
      obtain ⟨_,hl,hcell⟩:=World.cells?_some hcs
      obtain ⟨y,hy,hP⟩:=hdec n (by omega) _ _ htr hl
      exact ⟨y,fun c hc'=>by rw [hcell c (by omega)];exact hy c hc',fun d' hd'=>by rw [hd] at hd';cases hd';exact hP⟩
    obtain ⟨f,hf⟩:=Go.Deep.choose_lt hth
    have hc0:=(hf 0 (by omega)).1 0 hk
    have e0:(a'.add (0 * k)).add 0=a':=by simp [Addr.add]
    rw [e0] at hc0
    obtain ⟨hs,hb'⟩:=cell_spot hc0
    obtain ⟨b,off,spot⟩:=a'
    simp only at hs hb'
    subst hs
    refine ⟨some ⟨b,off,Option.none⟩,cap,(List.range len).map f,by simpa using h1,⟨(fun h=>by cases h),by simpa using hlc,hcm,fun _=>⟨b,off,rfl,hb',fun j u hj=>?_⟩⟩,Or.inr ⟨_,_,congrArg Prod.fst hx,by simp [hlen],fun j y d hj hd=>?_⟩⟩
    · obtain ⟨y,hy,rfl⟩:=flat_get hk hj
      obtain ⟨hjl,rfl⟩:=range_at hy
      have h7:=(hf (j / k) (by omega)).1 (j % k) (Nat.mod_lt _ hk)
      simp only [add_plain] at h7
      rw [Nat.add_assoc,show j / k * k + j % k=j from by rw [Nat.mul_comm];exact Nat.div_add_mod j k] at h7
      exact h7
    · obtain ⟨hjl,rfl⟩:=range_at hj
      rw [List.getElem?_map] at hd
      obtain ⟨d',hd',rfl⟩:=Option.map_eq_some_iff.1 hd
      exact (hf j hjl).2 d' hd'
theorem trod_three {H:Type} {enc:TypeId × Value→H} {P:Program} {w:World} {base:Nat} {spare:Nat→Bool} {held:Bool} {t:TypeId} {f0 f1 f2:Field} {fuel:Nat} {cs:List Value} {x:DataW H × List MemPlace} (ht:P.underlying t=some (.struct #[f0,f1,f2])) (h:DataW.trod enc P w base spare held fuel t cs=some x) :
    ∃ y0 y1 y2 n,n < fuel∧x.1=.agg [y0.1,y1.1,y2.1]∧DataW.trod enc P w base spare held n f0.type ((cs.drop f0.offset).take (P.cellsOf f0.type))=some y0∧DataW.trod enc P w base spare held n f1.type ((cs.drop f1.offset).take (P.cellsOf f1.type))=some y1∧DataW.trod enc P w base spare held n f2.type ((cs.drop f2.offset).take (P.cellsOf f2.type))=some y2:=by
  obtain ⟨xs,n,hn,rfl,hl,hlen,hf⟩:=DataW.trod_struct ht h
  match xs,hlen with
  | [y0,y1,y2],_=>exact ⟨y0,y1,y2,n,by omega,by simp,by simpa using hf 0 f0 rfl,by simpa using hf 1 f1 rfl,by simpa using hf 2 f2 rfl⟩
theorem Tryz.cells27:Tryz.prog.cellsOf 27=1:=by kernel_rfl
theorem Tryz.cells29:Tryz.prog.cellsOf 29=8:=by kernel_rfl
set_option maxRecDepth 100000 in
/-- The six cells of a predicate, and how much they hold. -/
theorem open_sixD {H:Type} {enc:TypeId × Value→H} {W:World} {base:Nat} {sp:Nat→Bool} {held:Bool} {fuel:Nat} {cs:List Value} {x:DataW H × List MemPlace} (h:DataW.trod enc Tryz.prog W base sp held fuel 26 cs=some x) (hl:cs.length=6) :
    ∃ (kind:Int) (attr:ByteArray) (qi:Option Addr) (ci:Nat) (ints:List Int) (qw:Option Addr) (cw:Nat) (words:List ByteArray) (lo hi:Int),cs=[.int .i64 kind,.string attr,.slice qi ints.length ci,.slice qw words.length cw,.int .i64 lo,.int .i64 hi] ∧
      SlOf encI 1 W qi ci ints∧SlOf encS 1 W qw cw words∧attr.size + ints.length + wordsWt words + 1≤Rows.uptoBulk x.1:=by
  obtain ⟨y0,y1,y2,y3,y4,y5,n,hx,h0,h1,h2,h3,h4,h5⟩:=trod_six Tryz.underlying26 h
  match cs,hl with
  | [c0,c1,c2,c3,c4,c5],_ =>
    simp only [Tryz.cells3,Tryz.cells9,Tryz.cells23,Tryz.cells24,List.drop,List.take] at h0 h1 h2 h3 h4 h5
    obtain ⟨kind,e0,_,_⟩:=DataW.trod_int Tryz.underlying3 h0
    obtain ⟨attr,e1,d1,_⟩:=DataW.trod_string Tryz.underlying9 h1
    obtain ⟨qi,ci,ints,e2,s2,g2⟩:=open_slD (enc':=encI) (P:=fun _ _=>True) Tryz.underlying23 Tryz.cells3 (by decide) (fun n _ cs x hx hl=>by obtain ⟨y,hy⟩:=dec_int n cs x hx hl;exact ⟨y,hy,trivial⟩) h2
    obtain ⟨qw,cw,words,e3,s3,g3⟩:=open_slD (enc':=encS) (P:=fun y d=>1 + y.size≤Rows.uptoBulk d) Tryz.underlying24 Tryz.cells9 (by decide) (fun n _ cs x hx hl=>by
      obtain ⟨a,e0,d0,_⟩:=DataW.trod_string Tryz.underlying9 hx
      refine ⟨a,fun c hc=>?_, ?_⟩
      · have h0:c=0:=(by omega)
        rw [h0,e0];rfl
      · rw [d0];simp only [Rows.uptoBulk,Array.length_toList];have:a.data.size=a.size:=rfl;omega) h3
    obtain ⟨lo,e4,_,_⟩:=DataW.trod_int Tryz.underlying3 h4
    obtain ⟨hi,e5,_,_⟩:=DataW.trod_int Tryz.underlying3 h5
    simp only [List.cons.injEq,and_true] at e0 e1 e4 e5
    refine ⟨kind,attr,qi,ci,ints,qw,cw,words,lo,hi,by rw [e0,e1,e2,e3,e4,e5],s2,s3, ?_⟩
    have b1:attr.size + 1=Rows.uptoBulk y1.1:=by rw [d1];simp only [Rows.uptoBulk,Array.length_toList];rfl
    have b2:ints.length≤Rows.uptoBulk y2.1:=by
      rcases g2 with rfl | ⟨D,E,hD,hl,_⟩
      · simp
      · rw [hD];have:=bulk_len D;simp only [Rows.uptoBulk];omega
    have b3:wordsWt words≤Rows.uptoBulk y3.1:=by
      rcases g3 with rfl | ⟨D,E,hD,hl,hP⟩
      · simp [wordsWt]
      · rw [hD];have:=bulk_words words D hl hP;simp only [Rows.uptoBulk];omega
    rw [hx]
    simp only [Rows.uptoBulk,Rows.uptoBulkAll]
    omega
set_option maxRecDepth 100000 in
/-- The eight cells of a node: a tree lies there, and holds no more than the bulk. -/
theorem open_node {H:Type} {enc:TypeId × Value→H} {W:World} {base:Nat} {sp:Nat→Bool} {held:Bool}:∀ (fuel:Nat) (cs:List Value) (x:DataW H × List MemPlace),DataW.trod enc Tryz.prog W base sp held fuel 29 cs=some x→cs.length=8 →
    ∃ v:Nv,cs=encV v∧∃ t:Nd,NdIn W v t∧wtN t≤Rows.uptoBulk x.1:=by
  intro fuel
  induction fuel using Nat.strongRecOn with
  | ind fuel ih =>
    intro cs x h hl
    obtain ⟨y0,y1,y2,n,hn,hx,h0,h1,h2⟩:=trod_three Tryz.underlying29 h
    match cs,hl with
    | [c0,c1,c2,c3,c4,c5,c6,c7],_ =>
      simp only [Tryz.cells3,Tryz.cells26,Tryz.cells27,List.drop,List.take] at h0 h1 h2
      obtain ⟨kind,attr,qi,ci,ints,qw,cw,words,lo,hi,e0,s1,s2,b0⟩:=open_sixD h0 rfl
      obtain ⟨op,e1,_,_⟩:=DataW.trod_int Tryz.underlying3 h1
      obtain ⟨qk,ck,vs,e2,s3,g3⟩:=open_slD (enc':=encV) (P:=fun v d=>∃ t:Nd,NdIn W v t∧wtN t≤Rows.uptoBulk d) Tryz.underlying27 Tryz.cells29 (by decide) (fun m hm cs x hx hl=>by
        obtain ⟨v,hv,t,ht,hw⟩:=ih m (by omega) cs x hx hl
        refine ⟨v,fun c hc=>?_,t,ht,hw⟩
        rw [hv]
        have hlen:c < (encV v).length:=by simp [encV];omega
        rw [List.getElem?_eq_getElem hlen,getElem!_pos (encV v) c hlen]) h2
      have hkids:∃ kids:List Nd,kids.length=vs.length∧(∀ (j:Nat) v t,vs[j]? = some v→kids[j]? = some t→NdIn W v t)∧wtL kids≤Rows.uptoBulk y2.1:=by
        rcases g3 with rfl | ⟨D,E,hD,hlD,hP⟩
        · exact ⟨[],rfl,fun j v t hj _=>by simp at hj,by simp [wtL]⟩
        · have hth:∀ i,i < vs.length→∃ t:Nd,∀ v d,vs[i]? = some v→D[i]? = some d→NdIn W v t∧wtN t≤Rows.uptoBulk d:=fun i hi=>by
            obtain ⟨t,ht⟩:=hP i vs[i] (D[i]'(by omega)) (List.getElem?_eq_getElem hi) (List.getElem?_eq_getElem (by omega))
            exact ⟨t,fun v d hv hd=>by
              rw [List.getElem?_eq_getElem hi] at hv
              rw [List.getElem?_eq_getElem (by omega)] at hd
              cases hv;cases hd;exact ht⟩
          obtain ⟨f,hf⟩:=Go.Deep.choose_lt hth
          refine ⟨(List.range vs.length).map f,by simp,fun j v t hj ht=>?_, ?_⟩
          · obtain ⟨hjl,rfl⟩:=range_at ht
            exact (hf j hjl v (D[j]'(by omega)) hj (List.getElem?_eq_getElem (by omega))).1
          · have:=bulk_kids ((List.range vs.length).map f) D (by simpa using hlD) (fun j y d hj hd=>by
              obtain ⟨hjl,rfl⟩:=range_at hj
              exact (hf j hjl vs[j] d (List.getElem?_eq_getElem hjl) hd).2)
            rw [hD]
            simp only [Rows.uptoBulk]
            omega
      obtain ⟨kids,hkl,hkn,hkw⟩:=hkids
      simp only [List.cons.injEq,and_true] at e0 e1
      obtain ⟨rfl,rfl,rfl,rfl,rfl,rfl⟩:=e0
      refine ⟨⟨kind,attr,qi,ints.length,ci,qw,words.length,cw,lo,hi,op,qk,kids.length,ck⟩,by rw [e1,e2,hkl];rfl,.mk kind attr ints words lo hi op kids,.mk s1 s2 s3 hkl.symm hkn, ?_⟩
      rw [hx]
      simp only [wtN,Rows.uptoBulk,Rows.uptoBulkAll]
      have:=bulk_one y1.1
      omega
end Go.Proofs.YtencibjmiphinaaGreatDoor
namespace Go.Proofs.YtencibjmiphinaaGreatDoor
open Go.ChangeShapes Go.WideShapes Go.ChangeAt Go.RowKit Go.Joins

theorem Tryz.cells62:Tryz.prog.cellsOf 62=2:=by kernel_rfl
theorem Tryz.bytes62:Tryz.prog.bytesOf 62=24:=by kernel_rfl
theorem trod_two {H:Type} {enc:TypeId × Value→H} {P:Program} {w:World} {base:Nat} {spare:Nat→Bool} {held:Bool} {t:TypeId} {f0 f1:Field} {fuel:Nat} {cs:List Value} {x:DataW H × List MemPlace} (ht:P.underlying t=some (.struct #[f0,f1])) (h:DataW.trod enc P w base spare held fuel t cs=some x) :
    ∃ y0 y1 n,x=(.agg [y0.1,y1.1],y0.2 ++ y1.2)∧cs.length=P.cellsOf t∧DataW.trod enc P w base spare held n f0.type ((cs.drop f0.offset).take (P.cellsOf f0.type))=some y0 ∧
      DataW.trod enc P w base spare held n f1.type ((cs.drop f1.offset).take (P.cellsOf f1.type))=some y1:=by
  obtain ⟨xs,n,_,rfl,hl,hlen,hf⟩:=DataW.trod_struct ht h
  match xs,hlen with
  | [y0,y1],_=>exact ⟨y0,y1,n,by simp,hl,by simpa using hf 0 f0 rfl,by simpa using hf 1 f1 rfl⟩
set_option maxRecDepth 100000 in
theorem dec_at {H:Type} {enc:TypeId × Value→H} {W:World} {base:Nat} {sp:Nat→Bool} {held:Bool} (fuel:Nat) (cs:List Value) (x:DataW H × List MemPlace) (h:DataW.trod enc Tryz.prog W base sp held fuel 62 cs=some x) (hl:cs.length=2):∃ y:ByteArray × Int,∀ c,c < 2→cs[c]? = some ((Sc.encA y)[c]!):=by
  obtain ⟨y0,y1,n,_,_,h0,h1⟩:=trod_two Tryz.underlying62 h
  match cs,hl with
  | [c0,c1],_ =>
    simp only [Tryz.cells3,Tryz.cells9,List.drop,List.take] at h0 h1
    obtain ⟨s,e0,_,hs⟩:=DataW.trod_string Tryz.underlying9 h0
    obtain ⟨b,e1,_,_⟩:=DataW.trod_int Tryz.underlying3 h1
    simp only [List.cons.injEq,and_true] at e0 e1
    refine ⟨(s,b),fun c hc=>?_⟩
    match c,hc with
    | 0,_=>simp [Sc.encA,e0]
    | 1,_=>simp [Sc.encA,e1]
theorem atsOf_sl {W:World} {q:Option Addr} {c:Nat} {l:List (ByteArray × Int)} (h:SlOf Sc.encA 2 W q c l):Sc.AtsOf W q l:=fun h0=>by
  obtain ⟨b,off,rfl,hb,hj⟩:=h.2.2.2 h0
  refine ⟨b,off,rfl,hb,fun j x hx=>⟨?_, ?_⟩⟩
  · have:=hj (j * 2 + 0) _ (flat_at (enc:=Sc.encA) (k:=2) hx 0 (by omega))
    simpa [Sc.encA] using this
  · have:=hj (j * 2 + 1) _ (flat_at (enc:=Sc.encA) (k:=2) hx 1 (by omega))
    simpa [Sc.encA,Nat.add_assoc] using this
end Go.Proofs.YtencibjmiphinaaGreatDoor
