/- The law ParseOwns returns true, whatever the attributes and the text: all cases. -/
import Derived.Test.YtencibjmiphinaaGreatDoorEOOwLaw
import Derived.Test.YtencibjmiphinaaGreatDoorELxText
import Derived.ProofKit
import Derived.LaidMore
import Derived.OpenShut
import Derived.Stop.Joined
import Derived.Stop.LaidErr
import Derived.Test.YtencibjmiphinaaGreatDoorEZac
import Derived.Test.YtencibjmiphinaaGreatDoorEZae
import Derived.Deep.Slices
import Derived.Deep.Strs
import Derived.Deep.DeepHandedRow
import Derived.Deep.DeepWitnessRowRef
import Derived.Lib.SmallJoins
import Derived.Lib.LaidTab
import Derived.SizedLaws
import Derived.Test.YtencibjmiphinaaGreatDoorEZav
import Derived.Test.YtencibjmiphinaaGreatDoorEZat
namespace Go.Proofs.YtencibjmiphinaaGreatDoor
open Go.RowKit Go.Sort
theorem parseOwns_any (p:Option Addr) (cap:Nat) (l:List (ByteArray × Int)) (s:ByteArray) (w:World) (hG:Lx.G w) (hl:l.length * 24<=140737488355328) (hp:p=none->l.length=0/\cap=0) (hA:Sc.AtsOf w p l) :
  Calls Tryz.prog 8 #[.slice p l.length cap,.string s] w fun e w'=>e=.returned (.bool true)/\Below w.heap.size w w':=by
 by_cases hq:64 < l.length
 ·exact owns_big p cap l s w hG hl hp hA hq
 ·by_cases hn:l.all Sc.atOk=true/\(l.map Sc.nmA).Nodup
  ·exact owns_good p cap l s w hG hl hp hA (by omega) hn.1 hn.2
  ·exact owns_bad p cap l s w hG hl hp hA (by omega) hn
end Go.Proofs.YtencibjmiphinaaGreatDoor
namespace Go.Proofs.YtencibjmiphinaaGreatDoor
open Go.ChangeShapes Go.WideShapes Go.ChangeAt Go.RowKit
theorem Tryz.laidOut:laidOutB Tryz.prog=true:=by kernel_rfl
theorem Tryz.own:ownKnob Tryz.prog.godebug=none:=by kernel_rfl
theorem Tryz.gTab:Tryz.prog.globalNamed "internal/strconv.uint64pow10"=some 3:=by kernel_rfl
theorem Tryz.gTabType:(Tryz.prog.globals[3]?).map (·.type)=some 207:=by kernel_rfl
theorem Tryz.gES:Tryz.prog.globalNamed "strconv.ErrSyntax"=some 1:=by kernel_rfl
theorem Tryz.gESType:(Tryz.prog.globals[1]?).map (·.type)=some 114:=by kernel_rfl
theorem Tryz.gER:Tryz.prog.globalNamed "strconv.ErrRange"=some 2:=by kernel_rfl
theorem Tryz.gERType:(Tryz.prog.globals[2]?).map (·.type)=some 114:=by kernel_rfl
theorem Tryz.cells161:Tryz.prog.cellsOf 161=1:=by kernel_rfl
theorem Tryz.cells207:Tryz.prog.cellsOf 207=20:=by kernel_rfl
theorem Tryz.cells211:Tryz.prog.cellsOf 211=1:=by kernel_rfl
theorem Tryz.cells9:Tryz.prog.cellsOf 9=1:=by kernel_rfl
theorem star:"*" ++ "errors.errorString"="*errors.errorString":=by decide
theorem row209 (u:TypeId) (h:Tryz.prog.typeName? 3 u=some "*errors.errorString"):u=209 :=
 typeName_ptr_named (nm:="errors.errorString") (by rw [star];kernel_rfl) (by kernel_rfl) (by decide) u (by rw [star];exact h)
/-- What every row of the layer lists. -/
def laidAll:List (String × DataW Unit):=[("math/bits.deBruijn32tab",Rows.laid_math_bits_deBruijn32tab),("math/bits.deBruijn64tab",Rows.laid_math_bits_deBruijn64tab),("internal/strconv.uint64pow10",Rows.laid_internal_strconv_uint64pow10),("strconv.ErrRange",Rows.laid_strconv_ErrRange),("strconv.ErrSyntax",Rows.laid_strconv_ErrSyntax)]
theorem tab_data:(Rows.laid_internal_strconv_uint64pow10:DataW Unit)=Lib.tabData .u64 Lib.pow10Tab:=by rfl
theorem G_of_laid {W:World} (h:laidMetH Tryz.prog laidAll W):Lx.G W:=by
 rw [MakeChecks.laidMetH_plain _ _ _ (by kernel_rfl)] at h
 have h3:=h.tail.tail
 rw [tab_data] at h3
 have h4:=h3.tail
 have h5:=h4.tail
 obtain ⟨a1,s1,hv1,-,-,-⟩:=laid_sentinel h4 Tryz.gER Tryz.gERType Tryz.underlying114 row209 Tryz.underlying209 Tryz.underlying211 rfl rfl Tryz.underlying9 Tryz.cells211 Tryz.cells9
 obtain ⟨a2,s2,hv2,-,-,-⟩:=laid_sentinel h5 Tryz.gES Tryz.gESType Tryz.underlying114 row209 Tryz.underlying209 Tryz.underlying211 rfl rfl Tryz.underlying9 Tryz.cells211 Tryz.cells9
 exact ⟨Lib.tabIs_of_head Tryz.gTab Tryz.gTabType Tryz.underlying207 Tryz.underlying161 Tryz.cells161 Tryz.cells207 h3,⟨_,_,hv2⟩,⟨_,_,hv1⟩⟩
end Go.Proofs.YtencibjmiphinaaGreatDoor
namespace Go.Proofs.YtencibjmiphinaaGreatDoor
open Go.ChangeShapes Go.WideShapes Go.ChangeAt Go.RowKit Go.Joins
theorem Tryz.cells3:Tryz.prog.cellsOf 3=1:=by kernel_rfl
theorem cell_spot {w:World} {a:Addr} {v:Value} (h:w.cell? a=some v):a.spot=Option.none/\a.block < w.heap.size:=by
 unfold World.cell? at h
 split at h
 ·next hc =>
  refine ⟨?_,(Array.getElem?_eq_some_iff.1 hc).1⟩
  split at h
  ·cases h
  ·next hs=>simpa using hs
 ·cases h
theorem range_at {α:Type} {f:Nat->α} {n j:Nat} {x:α} (h:((List.range n).map f)[j]? = some x):j < n/\x=f j:=by
 obtain ⟨hj,e⟩:=List.getElem?_eq_some_iff.1 h
 simp at hj e
 exact ⟨hj,e.symm⟩
/-- The cells of a row, one by one. -/
theorem flat_get {α:Type} [Inhabited α] {enc:α->List Value} {k:Nat} (hk:0 < k) {l:List α} {j:Nat} {u:Value} (h:(Sort.flatK enc k l.toArray).toList[j]? = some u):∃ x,l[j / k]? = some x/\u=(enc x)[j % k]!:=by
 have hs:=(List.getElem?_eq_some_iff.1 h).1
 have hlt:j < l.length * k:=by simpa using hs
 have hq:j / k < l.length:=(Nat.div_lt_iff_lt_mul hk).2 hlt
 obtain ⟨x,hx,_⟩:=get_at hq
 have h2:=flat_at (enc:=enc) (k:=k) hx (j % k) (Nat.mod_lt _ hk)
 rw [show j / k * k + j % k=j from by rw [Nat.mul_comm];exact Nat.div_add_mod j k,h] at h2
 exact ⟨x,hx,Option.some.inj h2⟩
set_option maxRecDepth 100000 in
/-- A list among the arguments. -/
theorem open_sl {α:Type} [Inhabited α] {enc':α->List Value} {k:Nat} {t e:TypeId} (ht:Tryz.prog.underlying t=some (.slice e)) (hc:Tryz.prog.cellsOf e=k) (hk:0 < k) {H:Type} {enc:TypeId × Value->H} {W:World} {base:Nat} {sp:Nat->Bool} {held:Bool}
  (hdec:∀ (fuel:Nat) (cs:List Value) (x:DataW H × List MemPlace),DataW.trod enc Tryz.prog W base sp held fuel e cs=some x->cs.length=k->∃ y:α,∀ c,c < k->cs[c]? = some ((enc' y)[c]!))
  {fuel:Nat} {v:Value} {x:DataW H × List MemPlace} (h:DataW.trod enc Tryz.prog W base sp held fuel t [v]=some x) :
  ∃ (q:Option Addr) (c:Nat) (l:List α),v=.slice q l.length c/\SlOf enc' k W q c l/\(l=[] ∨ ∃ D E,x.1=.slice D E/\D.length=l.length):=by
 rcases Go.Deep.open_slice ht h with ⟨h1,_⟩ | ⟨a',len,cap,m,n,D,Pl,h1,_,hlc,hcm,hm,hx,hel⟩
 ·simp only [List.cons.injEq,and_true] at h1
  exact ⟨Option.none,0,[],h1,SlOf.none _,Or.inl rfl⟩
 ·simp only [List.cons.injEq,and_true] at h1
  by_cases h0:len=0
  ·subst h0
   exact ⟨some a',cap,[],h1,⟨(fun h=>by cases h),Nat.zero_le _,hcm,LsOf.nil _ _⟩,Or.inl rfl⟩
  have hmm:len<=m:=by rw [hm];split <;> omega
  rw [hc] at hel
  have hth:∀ i,i < m->∃ y:α,∀ c,c < k->W.cell? ((a'.add (i * k)).add c)=some ((enc' y)[c]!):=fun i hi=>by
   obtain ⟨cs',hcs,htr⟩:=hel i hi
   obtain ⟨_,hl,hcell⟩:=World.cells?_some hcs
   obtain ⟨y,hy⟩:=hdec _ _ _ htr hl
   exact ⟨y,fun c hc'=>by
    rw [hcell c (by omega)];exact hy c hc'⟩
  obtain ⟨f,hf⟩:=Go.Deep.choose_lt hth
  have hc0:=hf 0 (by omega) 0 hk
  have e0:(a'.add (0 * k)).add 0=a':=by simp [Addr.add]
  rw [e0] at hc0
  obtain ⟨hs,hb⟩:=cell_spot hc0
  obtain ⟨b,off,spot⟩:=a'
  simp only at hs hb
  subst hs
  have hd:x.1=.slice ((List.range len).map D) ((List.range (m - len)).map fun j=>D (len + j)):=congrArg Prod.fst hx
  refine ⟨some ⟨b,off,Option.none⟩,cap,(List.range len).map f,by simpa using h1,⟨(fun h=>by cases h),by simpa using hlc,hcm,fun _=>⟨b,off,rfl,hb,fun j u hj=>?_⟩⟩,Or.inr ⟨_,_,hd,by simp⟩⟩
  obtain ⟨y,hy,rfl⟩:=flat_get hk hj
  obtain ⟨hjl,rfl⟩:=range_at hy
  have h7:=hf (j / k) (by omega) (j % k) (Nat.mod_lt _ hk)
  simp only [add_plain] at h7
  rw [Nat.add_assoc,show j / k * k + j % k=j from by rw [Nat.mul_comm];exact Nat.div_add_mod j k] at h7
  exact h7
end Go.Proofs.YtencibjmiphinaaGreatDoor
namespace Go.Proofs.YtencibjmiphinaaGreatDoor
open Go.ChangeShapes Go.WideShapes Go.ChangeAt Go.RowKit Go.Joins
theorem Tryz.cells62:Tryz.prog.cellsOf 62=2:=by kernel_rfl
theorem Tryz.bytes62:Tryz.prog.bytesOf 62=24:=by kernel_rfl
theorem trod_two {H:Type} {enc:TypeId × Value->H} {P:Program} {w:World} {base:Nat} {spare:Nat->Bool} {held:Bool} {t:TypeId} {f0 f1:Field} {fuel:Nat} {cs:List Value} {x:DataW H × List MemPlace} (ht:P.underlying t=some (.struct #[f0,f1])) (h:DataW.trod enc P w base spare held fuel t cs=some x) :
  ∃ y0 y1 n,x=(.agg [y0.1,y1.1],y0.2 ++ y1.2)/\cs.length=P.cellsOf t/\DataW.trod enc P w base spare held n f0.type ((cs.drop f0.offset).take (P.cellsOf f0.type))=some y0 /\
   DataW.trod enc P w base spare held n f1.type ((cs.drop f1.offset).take (P.cellsOf f1.type))=some y1:=by
 obtain ⟨xs,n,_,rfl,hl,hlen,hf⟩:=DataW.trod_struct ht h
 match xs,hlen with
 | [y0,y1],_=>exact ⟨y0,y1,n,by simp,hl,by simpa using hf 0 f0 rfl,by simpa using hf 1 f1 rfl⟩
set_option maxRecDepth 100000 in
theorem dec_at {H:Type} {enc:TypeId × Value->H} {W:World} {base:Nat} {sp:Nat->Bool} {held:Bool} (fuel:Nat) (cs:List Value) (x:DataW H × List MemPlace) (h:DataW.trod enc Tryz.prog W base sp held fuel 62 cs=some x) (hl:cs.length=2):∃ y:ByteArray × Int,∀ c,c < 2->cs[c]? = some ((Sc.encA y)[c]!):=by
 obtain ⟨y0,y1,n,_,_,h0,h1⟩:=trod_two Tryz.underlying62 h
 match cs,hl with
 | [c0,c1],_ =>
  simp only [Tryz.cells3,Tryz.cells9,List.drop,List.take] at h0 h1
  obtain ⟨s,e0,_,hs⟩:=DataW.trod_string Tryz.underlying9 h0
  obtain ⟨b,e1,_,_⟩:=DataW.trod_int Tryz.underlying3 h1
  simp only [List.cons.injEq,and_true] at e0 e1
  refine ⟨(s,b),fun c hc=>?_⟩
  match c,hc with
  | 0,_=>simp [Sc.encA,e0]
  | 1,_=>simp [Sc.encA,e1]
theorem atsOf_sl {W:World} {q:Option Addr} {c:Nat} {l:List (ByteArray × Int)} (h:SlOf Sc.encA 2 W q c l):Sc.AtsOf W q l:=fun h0=>by
 obtain ⟨b,off,rfl,hb,hj⟩:=h.2.2.2 h0
 refine ⟨b,off,rfl,hb,fun j x hx=>⟨?_, ?_⟩⟩
 ·have:=hj (j * 2 + 0) _ (flat_at (enc:=Sc.encA) (k:=2) hx 0 (by omega))
  simpa [Sc.encA] using this
 ·have:=hj (j * 2 + 1) _ (flat_at (enc:=Sc.encA) (k:=2) hx 1 (by omega))
  simpa [Sc.encA,Nat.add_assoc] using this
end Go.Proofs.YtencibjmiphinaaGreatDoor
