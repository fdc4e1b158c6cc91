/- What the rows list of the library's variables gives the walks of the tree layer; how lists and predicates among the arguments are opened. -/
import Derived.Test.YtikhopiegaoacacDZab
import Derived.ProofKit
import Derived.LaidMore
import Derived.OpenShut
import Derived.Stop.Joined
import Derived.Stop.LaidErr
import Derived.Deep.Slices
import Derived.Deep.Strs
import Derived.Deep.DeepHandedRow
import Derived.Deep.DeepWitnessRowRef
import Derived.Lib.SmallJoins
import Derived.Lib.LaidTab
import Derived.SizedLaws
namespace Go.Proofs.Ytikhopiegaoacac
open Go.ChangeShapes Go.WideShapes Go.ChangeAt Go.RowKit Go.Joins

theorem Try.laidOut:laidOutB Try.prog=true:=by kernel_rfl
theorem Try.own:ownKnob Try.prog.godebug=none:=by kernel_rfl
theorem Try.cells3:Try.prog.cellsOf 3=1:=by kernel_rfl
theorem Try.cells9:Try.prog.cellsOf 9=1:=by kernel_rfl
theorem Try.cells22:Try.prog.cellsOf 22=1:=by kernel_rfl
theorem Try.cells23:Try.prog.cellsOf 23=1:=by kernel_rfl
theorem Try.cells25:Try.prog.cellsOf 25=6:=by kernel_rfl
theorem cell_spot {w:World} {a:Addr} {v:Value} (h:w.cell? a=some v):a.spot=Option.none∧a.block < w.heap.size:=by
 unfold World.cell? at h
 split at h
 ·next hc =>
  refine ⟨?_,(Array.getElem?_eq_some_iff.1 hc).1⟩
  split at h
  ·cases h
  ·next hs=>simpa using hs
 ·cases h
theorem range_at {α:Type} {f:Nat→α} {n j:Nat} {x:α} (h:((List.range n).map f)[j]? = some x):j < n∧x=f j:=by
 obtain ⟨hj,e⟩:=List.getElem?_eq_some_iff.1 h
 simp at hj e
 exact ⟨hj,e.symm⟩
/-- The cells of a row, one by one. -/
theorem flat_get {α:Type} [Inhabited α] {enc:α→List Value} {k:Nat} (hk:0 < k) {l:List α} {j:Nat} {u:Value} (h:(Sort.flatK enc k l.toArray).toList[j]? = some u):∃ x,l[j / k]? = some x∧u=(enc x)[j % k]!:=by
 have hs:=(List.getElem?_eq_some_iff.1 h).1
 have hlt:j < l.length * k:=by simpa using hs
 have hq:j / k < l.length:=(Nat.div_lt_iff_lt_mul hk).2 hlt
 obtain ⟨x,hx,_⟩:=get_at hq
 have h2:=flat_at (enc:=enc) (k:=k) hx (j % k) (Nat.mod_lt _ hk)
 rw [show j / k * k + j % k=j from by rw [Nat.mul_comm];exact Nat.div_add_mod j k,h] at h2
 exact ⟨x,hx,Option.some.inj h2⟩
theorem dec_int {H:Type} {enc:TypeId × Value→H} {W:World} {base:Nat} {sp:Nat→Bool} {held:Bool} (fuel:Nat) (cs:List Value) (x:DataW H × List MemPlace) (h:DataW.trod enc Try.prog W base sp held fuel 3 cs=some x) (_:cs.length=1):∃ y:Int,∀ c,c < 1→cs[c]? = some ((encI y)[c]!):=by
 obtain ⟨a,e0,_,_⟩:=DataW.trod_int Try.underlying3 h
 exact ⟨a,fun c hc=>by
  have h0:c=0:=(by omega)
  rw [h0,e0];rfl⟩
theorem trod_six {H:Type} {enc:TypeId × Value→H} {P:Program} {w:World} {base:Nat} {spare:Nat→Bool} {held:Bool} {t:TypeId} {f0 f1 f2 f3 f4 f5:Field} {fuel:Nat} {cs:List Value} {x:DataW H × List MemPlace} (ht:P.underlying t=some (.struct #[f0,f1,f2,f3,f4,f5])) (h:DataW.trod enc P w base spare held fuel t cs=some x) :
  ∃ y0 y1 y2 y3 y4 y5 n,x.1=.agg [y0.1,y1.1,y2.1,y3.1,y4.1,y5.1]∧DataW.trod enc P w base spare held n f0.type ((cs.drop f0.offset).take (P.cellsOf f0.type))=some y0∧DataW.trod enc P w base spare held n f1.type ((cs.drop f1.offset).take (P.cellsOf f1.type))=some y1∧DataW.trod enc P w base spare held n f2.type ((cs.drop f2.offset).take (P.cellsOf f2.type))=some y2∧DataW.trod enc P w base spare held n f3.type ((cs.drop f3.offset).take (P.cellsOf f3.type))=some y3∧DataW.trod enc P w base spare held n f4.type ((cs.drop f4.offset).take (P.cellsOf f4.type))=some y4∧DataW.trod enc P w base spare held n f5.type ((cs.drop f5.offset).take (P.cellsOf f5.type))=some y5:=by
 obtain ⟨xs,n,_,rfl,hl,hlen,hf⟩:=DataW.trod_struct ht h
 match xs,hlen with
 | [y0,y1,y2,y3,y4,y5],_=>exact ⟨y0,y1,y2,y3,y4,y5,n,by simp,by simpa using hf 0 f0 rfl,by simpa using hf 1 f1 rfl,by simpa using hf 2 f2 rfl,by simpa using hf 3 f3 rfl,by simpa using hf 4 f4 rfl,by simpa using hf 5 f5 rfl⟩
end Go.Proofs.Ytikhopiegaoacac
