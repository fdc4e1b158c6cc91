/- What the rows list of the library's variables gives the walks of the tree layer; how lists and predicates among the arguments are opened. -/
import Derived.Test.YtimklglliffpcaaGreatQZaa
import Derived.Test.YtimklglliffpcaaGreatChecked
import Derived.ProofKit
import Derived.LaidMore
import Derived.OpenShut
import Derived.Stop.Joined
import Derived.Stop.LaidErr
import Derived.Deep.Slices
import Derived.Deep.Strs
import Derived.Deep.DeepHandedRow
import Derived.Deep.DeepWitnessRowRef
import Derived.Lib.SmallJoins
import Derived.Lib.LaidTab
import Derived.SizedLaws
import Derived.Test.YtimklglliffpcaaGreatRows
import Derived.Test.YtimklglliffpcaaGreatQCjFix
namespace Go.Proofs.YtimklglliffpcaaGreat
open Go.ChangeShapes Go.WideShapes Go.ChangeAt Go.RowKit Go.Joins
theorem Tryz.laidOut:laidOutB Tryz.prog=true:=by kernel_rfl
theorem Tryz.own:ownKnob Tryz.prog.godebug=none:=by kernel_rfl
theorem Tryz.cells3:Tryz.prog.cellsOf 3=1:=by kernel_rfl
theorem Tryz.cells9:Tryz.prog.cellsOf 9=1:=by kernel_rfl
theorem Tryz.cells23:Tryz.prog.cellsOf 23=1:=by kernel_rfl
theorem Tryz.cells24:Tryz.prog.cellsOf 24=1:=by kernel_rfl
theorem Tryz.cells26:Tryz.prog.cellsOf 26=6:=by kernel_rfl
theorem Lz {w:World} {a:Addr} {v:Value} (h:w.cell? a=some v):a.spot=Option.none/\a.block < w.heap.size:=by
 unfold World.cell? at h
 split at h
 ·next hc =>
  refine ⟨?_,(Array.getElem?_eq_some_iff.1 hc).1⟩
  split at h
  ·cases h
  ·next hs=>simpa using hs
 ·cases h
theorem yl {α:Type} {f:Nat->α} {n j:Nat} {x:α} (h:((List.range n).map f)[j]? = some x):j < n/\x=f j:=by
 obtain ⟨hj,e⟩:=List.getElem?_eq_some_iff.1 h
 simp at hj e
 exact ⟨hj,e.symm⟩
/-- The cells of a row, one by one. -/
theorem Vg {α:Type} [Inhabited α] {enc:α->List Value} {k:Nat} (hk:0 < k) {l:List α} {j:Nat} {u:Value} (h:(Sort.flatK enc k l.toArray).toList[j]? = some u):∃ x,l[j / k]? = some x/\u=(enc x)[j % k]!:=by
  have hs:=(List.getElem?_eq_some_iff.1 h).1
  have hlt:j < l.length * k:=by simpa using hs
  have hq:j / k < l.length:=(Nat.div_lt_iff_lt_mul hk).2 hlt
  obtain ⟨x,hx,_⟩:=je hq
  have h2:=lj (enc:=enc) (k:=k) hx (j % k) (Nat.mod_lt _ hk)
  rw [show j / k * k + j % k=j from by rw [Nat.mul_comm];exact Nat.div_add_mod j k,h] at h2
  exact ⟨x,hx,Option.some.inj h2⟩
theorem Zp {H:Type} {enc:TypeId × Value->H} {W:World} {base:Nat} {sp:Nat->Bool} {held:Bool} (fuel:Nat) (cs:List Value) (x:DataW H × List MemPlace) (h:DataW.trod enc Tryz.prog W base sp held fuel 3 cs=some x) (_:cs.length=1):∃ y:Int,∀ c,c < 1->cs[c]? = some ((jq y)[c]!):=by
 obtain ⟨a,e0,_,_⟩:=DataW.trod_int Tryz.underlying3 h
 exact ⟨a,fun c hc=>by
  have h0:c=0:=(by omega)
  rw [h0,e0];rfl⟩
theorem Ru {H:Type} {enc:TypeId × Value->H} {P:Program} {w:World} {base:Nat} {spare:Nat->Bool} {held:Bool} {t:TypeId} {f0 f1 f2 f3 f4 f5:Field} {fuel:Nat} {cs:List Value} {x:DataW H × List MemPlace} (ht:P.underlying t=some (.struct #[f0,f1,f2,f3,f4,f5])) (h:DataW.trod enc P w base spare held fuel t cs=some x) :
  ∃ y0 y1 y2 y3 y4 y5 n,x.1=.agg [y0.1,y1.1,y2.1,y3.1,y4.1,y5.1]/\DataW.trod enc P w base spare held n f0.type ((cs.drop f0.offset).take (P.cellsOf f0.type))=some y0/\DataW.trod enc P w base spare held n f1.type ((cs.drop f1.offset).take (P.cellsOf f1.type))=some y1/\DataW.trod enc P w base spare held n f2.type ((cs.drop f2.offset).take (P.cellsOf f2.type))=some y2/\DataW.trod enc P w base spare held n f3.type ((cs.drop f3.offset).take (P.cellsOf f3.type))=some y3/\DataW.trod enc P w base spare held n f4.type ((cs.drop f4.offset).take (P.cellsOf f4.type))=some y4/\DataW.trod enc P w base spare held n f5.type ((cs.drop f5.offset).take (P.cellsOf f5.type))=some y5:=by
 obtain ⟨xs,n,_,rfl,hl,hlen,hf⟩:=DataW.trod_struct ht h
 match xs,hlen with
 | [y0,y1,y2,y3,y4,y5],_=>exact ⟨y0,y1,y2,y3,y4,y5,n,by simp,by simpa using hf 0 f0 rfl,by simpa using hf 1 f1 rfl,by simpa using hf 2 f2 rfl,by simpa using hf 3 f3 rfl,by simpa using hf 4 f4 rfl,by simpa using hf 5 f5 rfl⟩
end Go.Proofs.YtimklglliffpcaaGreat
namespace Go.Proofs.YtimklglliffpcaaGreat
open Go.ChangeShapes Go.WideShapes Go.ChangeAt Go.RowKit Go.Joins
instance:Inhabited Nd:=⟨.mk 0 ⟨#[]⟩ [] [] 0 0 0 []⟩
theorem Tj {H:Type} (d:DataW H):1<=Rows.uptoBulk d:=by
 cases d with
 | lit l=>cases l <;> simp [Rows.uptoBulk]
 | _=>simp [Rows.uptoBulk]
theorem Q5 {H:Type} (l:List (DataW H)):l.length<=Rows.uptoBulkAll l:=by
 induction l with
 | nil=>simp [Rows.uptoBulkAll]
 | cons x r ih=>have:=Tj x;simp only [Rows.uptoBulkAll,List.length_cons];omega
theorem K3 {H:Type}:∀ (l:List ByteArray) (D:List (DataW H)),D.length=l.length->(∀ (j:Nat) y d,l[j]? = some y->D[j]? = some d->1 + y.size<=Rows.uptoBulk d)->mn l<=Rows.uptoBulkAll D:=by
 intro l
 induction l with
 | nil=>intro D _ _;simp [mn]
 | cons x l ih =>
  intro D hl hP
  cases D with
  | nil=>simp at hl
  | cons d D =>
   have h0:=hP 0 x d rfl rfl
   have h1:=ih D (by simpa using hl) (fun j y e hj he=>hP (j + 1) y e (by simpa using hj) (by simpa using he))
   simp only [mn,Rows.uptoBulkAll]
   omega
set_option maxRecDepth 100000 in
/-- A list among the arguments, with what is known of each element's data. -/
theorem Bv {α:Type} [Inhabited α] {enc':α->List Value} {k:Nat} {t e:TypeId} (ht:Tryz.prog.underlying t=some (.slice e)) (hc:Tryz.prog.cellsOf e=k) (hk:0 < k) {H:Type} {enc:TypeId × Value->H} {W:World} {base:Nat} {sp:Nat->Bool} {held:Bool} {fuel:Nat} {P:α->DataW H->Prop}
    (hdec:∀ (n:Nat),n < fuel->∀ (cs:List Value) (x:DataW H × List MemPlace),DataW.trod enc Tryz.prog W base sp held n e cs=some x->cs.length=k->∃ y:α,(∀ c,c < k->cs[c]? = some ((enc' y)[c]!))/\P y x.1)
    {v:Value} {x:DataW H × List MemPlace} (h:DataW.trod enc Tryz.prog W base sp held fuel t [v]=some x) :
    ∃ (q:Option Addr) (c:Nat) (l:List α),v=.slice q l.length c/\SlOf enc' k W q c l/\(l=[] ∨ ∃ D E,x.1=.slice D E/\D.length=l.length/\∀ (j:Nat) y d,l[j]? = some y->D[j]? = some d->P y d):=by
  rcases DataW.trod_slice ht h with ⟨h1,_⟩ | ⟨a',len,cap,elems,rest,n,hfu,h1,hx,hb,hlc,hcm,hlen,hel,_,_⟩
  · simp only [List.cons.injEq,and_true] at h1
    exact ⟨Option.none,0,[],h1,SlOf.none _,Or.inl rfl⟩
  · simp only [List.cons.injEq,and_true] at h1
    by_cases h0:len=0
    · subst h0
      exact ⟨some a',cap,[],h1,⟨(fun h=>by cases h),Nat.zero_le _,hcm,LsOf.nil _ _⟩,Or.inl rfl⟩
    rw [hc] at hel
    have hth:∀ i,i < len->∃ y:α,(∀ c,c < k->W.cell? ((a'.add (i * k)).add c)=some ((enc' y)[c]!))/\∀ d,elems[i]? = some d->P y d.1:=fun i hi=>by
      have h3:=hel i hi
      obtain ⟨d,hd⟩:∃ d,elems[i]? = some d:=⟨elems[i]'(by omega),List.getElem?_eq_getElem (by omega)⟩
      rw [hd] at h3
      obtain ⟨cs',hcs,htr⟩:=Option.bind_eq_some_iff.1 h3
      obtain ⟨_,hl,hcell⟩:=World.cells?_some hcs
      obtain ⟨y,hy,hP⟩:=hdec n (by omega) _ _ htr hl
      exact ⟨y,fun c hc'=>by rw [hcell c (by omega)];exact hy c hc',fun d' hd'=>by rw [hd] at hd';cases hd';exact hP⟩
    obtain ⟨f,hf⟩:=Go.Deep.choose_lt hth
    have hc0:=(hf 0 (by omega)).1 0 hk
    have e0:(a'.add (0 * k)).add 0=a':=by simp [Addr.add]
    rw [e0] at hc0
    obtain ⟨hs,hb'⟩:=Lz hc0
    obtain ⟨b,off,spot⟩:=a'
    simp only at hs hb'
    subst hs
    refine ⟨some ⟨b,off,Option.none⟩,cap,(List.range len).map f,by simpa using h1,⟨(fun h=>by cases h),by simpa using hlc,hcm,fun _=>⟨b,off,rfl,hb',fun j u hj=>?_⟩⟩,Or.inr ⟨_,_,congrArg Prod.fst hx,by simp [hlen],fun j y d hj hd=>?_⟩⟩
    · obtain ⟨y,hy,rfl⟩:=Vg hk hj
      obtain ⟨hjl,rfl⟩:=yl hy
      have h7:=(hf (j / k) (by omega)).1 (j % k) (Nat.mod_lt _ hk)
      simp only [nz] at h7
      rw [Nat.add_assoc,show j / k * k + j % k=j from by rw [Nat.mul_comm];exact Nat.div_add_mod j k] at h7
      exact h7
    · obtain ⟨hjl,rfl⟩:=yl hj
      rw [List.getElem?_map] at hd
      obtain ⟨d',hd',rfl⟩:=Option.map_eq_some_iff.1 hd
      exact (hf j hjl).2 d' hd'
set_option maxRecDepth 100000 in
/-- The six cells of a predicate, and how much they hold. -/
theorem Lo {H:Type} {enc:TypeId × Value->H} {W:World} {base:Nat} {sp:Nat->Bool} {held:Bool} {fuel:Nat} {cs:List Value} {x:DataW H × List MemPlace} (h:DataW.trod enc Tryz.prog W base sp held fuel 26 cs=some x) (hl:cs.length=6) :
    ∃ (kind:Int) (attr:ByteArray) (qi:Option Addr) (ci:Nat) (ints:List Int) (qw:Option Addr) (cw:Nat) (words:List ByteArray) (lo hi:Int),cs=[.int .i64 kind,.string attr,.slice qi ints.length ci,.slice qw words.length cw,.int .i64 lo,.int .i64 hi] /\
      SlOf jq 1 W qi ci ints/\SlOf jy 1 W qw cw words/\attr.size + ints.length + mn words + 1<=Rows.uptoBulk x.1:=by
  obtain ⟨y0,y1,y2,y3,y4,y5,n,hx,h0,h1,h2,h3,h4,h5⟩:=Ru Tryz.underlying26 h
  match cs,hl with
  | [c0,c1,c2,c3,c4,c5],_ =>
    simp only [Tryz.cells3,Tryz.cells9,Tryz.cells23,Tryz.cells24,List.drop,List.take] at h0 h1 h2 h3 h4 h5
    obtain ⟨kind,e0,_,_⟩:=DataW.trod_int Tryz.underlying3 h0
    obtain ⟨attr,e1,d1,_⟩:=DataW.trod_string Tryz.underlying9 h1
    obtain ⟨qi,ci,ints,e2,s2,g2⟩:=Bv (enc':=jq) (P:=fun _ _=>True) Tryz.underlying23 Tryz.cells3 (by decide) (fun n _ cs x hx hl=>by obtain ⟨y,hy⟩:=Zp n cs x hx hl;exact ⟨y,hy,trivial⟩) h2
    obtain ⟨qw,cw,words,e3,s3,g3⟩:=Bv (enc':=jy) (P:=fun y d=>1 + y.size<=Rows.uptoBulk d) Tryz.underlying24 Tryz.cells9 (by decide) (fun n _ cs x hx hl=>by
      obtain ⟨a,e0,d0,_⟩:=DataW.trod_string Tryz.underlying9 hx
      refine ⟨a,fun c hc=>?_, ?_⟩
      · have h0:c=0:=(by omega)
        rw [h0,e0];rfl
      · rw [d0];simp only [Rows.uptoBulk,Array.length_toList];have:a.data.size=a.size:=rfl;omega) h3
    obtain ⟨lo,e4,_,_⟩:=DataW.trod_int Tryz.underlying3 h4
    obtain ⟨hi,e5,_,_⟩:=DataW.trod_int Tryz.underlying3 h5
    simp only [List.cons.injEq,and_true] at e0 e1 e4 e5
    refine ⟨kind,attr,qi,ci,ints,qw,cw,words,lo,hi,by rw [e0,e1,e2,e3,e4,e5],s2,s3, ?_⟩
    have b1:attr.size + 1=Rows.uptoBulk y1.1:=by rw [d1];simp only [Rows.uptoBulk,Array.length_toList];rfl
    have b2:ints.length<=Rows.uptoBulk y2.1:=by
      rcases g2 with rfl | ⟨D,E,hD,hl,_⟩
      · simp
      · rw [hD];have:=Q5 D;simp only [Rows.uptoBulk];omega
    have b3:mn words<=Rows.uptoBulk y3.1:=by
      rcases g3 with rfl | ⟨D,E,hD,hl,hP⟩
      · simp [mn]
      · rw [hD];have:=K3 words D hl hP;simp only [Rows.uptoBulk];omega
    rw [hx]
    simp only [Rows.uptoBulk,Rows.uptoBulkAll]
    omega
end Go.Proofs.YtimklglliffpcaaGreat
namespace Go.Proofs.YtimklglliffpcaaGreat
open Go.ChangeShapes Go.WideShapes Go.ChangeAt Go.RowKit Go.Joins
end Go.Proofs.YtimklglliffpcaaGreat
namespace Go.Proofs.YtimklglliffpcaaGreat
open Go.ChangeShapes Go.WideShapes Go.ChangeAt Go.RowKit Go.Joins
instance:Inhabited Pd:=⟨pr⟩
end Go.Proofs.YtimklglliffpcaaGreat
