/- Expressions as trees: the plain data, and how they lie in memory. -/
import Derived.Test.YtikhopiegaoacacDOwn
import Derived.Test.YtikhopiegaoacacDName
import Derived.Test.YtikhopiegaoacacDZaa
import Derived.Lib.SmallJoins
import Derived.Lib.AppendIntMem
namespace Go.Proofs.Ytikhopiegaoacac
open Go.RowKit

inductive Nd where
  | mk (kind:Int) (attr:ByteArray) (ints:List Int) (words:List ByteArray) (lo hi op:Int) (kids:List Nd)
namespace Nd
def kids:Nd→List Nd
  | .mk _ _ _ _ _ _ _ ks=>ks
theorem ind {P:Nd→Prop} (h:∀ kind attr ints words lo hi op kids,(∀ x ∈ kids,P x)→P (.mk kind attr ints words lo hi op kids)) (t:Nd):P t :=
  Nd.rec (motive_1:=P) (motive_2:=fun l=>∀ x ∈ l,P x) (fun kind attr ints words lo hi op kids ih=>h kind attr ints words lo hi op kids ih)
    (fun x hx=>by simp at hx) (fun x xs hx hxs y hy=>by
      rcases List.mem_cons.1 hy with rfl | hy
      · exact hx
      · exact hxs y hy) t
end Nd
/-- The value of a node. -/
def Nv.val (v:Nv):Value:=.agg #[.int .i64 v.kind,.string v.attr,.slice v.qi v.ni v.ci,.slice v.qw v.nw v.cw,.int .i64 v.lo,.int .i64 v.hi,.int .i64 v.op,.slice v.qk v.nk v.ck]
/-- The tree of the node v lies in memory. -/
inductive NdIn (w:World):Nv→Nd→Prop
  | mk {kind:Int} {attr:ByteArray} {ints:List Int} {words:List ByteArray} {lo hi op:Int} {kids:List Nd} {qi:Option Addr} {ci:Nat} {qw:Option Addr} {cw:Nat} {qk:Option Addr} {ck:Nat} {vs:List Nv} :
      SlOf encI 1 w qi ci ints→SlOf encS 1 w qw cw words→SlOf encV 8 w qk ck vs→vs.length=kids.length→(∀ (j:Nat) (v:Nv) (x:Nd),vs[j]? = some v→kids[j]? = some x→NdIn w v x) →
      NdIn w ⟨kind,attr,qi,ints.length,ci,qw,words.length,cw,lo,hi,op,qk,kids.length,ck⟩ (.mk kind attr ints words lo hi op kids)
theorem NdIn.keep {w w':World} {v:Nv} {t:Nd} (h:NdIn w v t) (hb:Below w.heap.size w w'):NdIn w' v t:=by
  induction h with
  | mk hi hw hk hl hr ih=>exact .mk (hi.below hb) (hw.below hb) (hk.below hb) hl fun j v x hj hx=>ih j v x hj hx
/-- A list of nodes in memory. -/
def NdsOf (w:World) (q:Option Addr) (c:Nat) (l:List Nd):Prop:=∃ vs,SlOf encV 8 w q c vs∧vs.length=l.length∧∀ (j:Nat) (v:Nv) (x:Nd),vs[j]? = some v→l[j]? = some x→NdIn w v x
theorem NdsOf.below {w w':World} {q:Option Addr} {c:Nat} {l:List Nd} (h:NdsOf w q c l) (hb:Below w.heap.size w w'):NdsOf w' q c l:=by
  obtain ⟨vs,h1,h2,h3⟩:=h
  exact ⟨vs,h1.below hb,h2,fun j v x hj hx=>(h3 j v x hj hx).keep hb⟩
theorem NdIn.parts {w:World} {v:Nv} {kind:Int} {attr:ByteArray} {ints:List Int} {words:List ByteArray} {lo hi op:Int} {kids:List Nd} (h:NdIn w v (.mk kind attr ints words lo hi op kids)) :
    ∃ qi ci qw cw qk ck,v=⟨kind,attr,qi,ints.length,ci,qw,words.length,cw,lo,hi,op,qk,kids.length,ck⟩∧SlOf encI 1 w qi ci ints∧SlOf encS 1 w qw cw words∧NdsOf w qk ck kids:=by
  cases h with
  | mk hi hw hk hl hr=>exact ⟨_,_,_,_,_,_,rfl,hi,hw,_,hk,hl,hr⟩
theorem NdIn.make {w:World} {kind:Int} {attr:ByteArray} {ints:List Int} {words:List ByteArray} {lo hi op:Int} {kids:List Nd} {qi:Option Addr} {ci:Nat} {qw:Option Addr} {cw:Nat} {qk:Option Addr} {ck:Nat}
    (h1:SlOf encI 1 w qi ci ints) (h2:SlOf encS 1 w qw cw words) (h3:NdsOf w qk ck kids):NdIn w ⟨kind,attr,qi,ints.length,ci,qw,words.length,cw,lo,hi,op,qk,kids.length,ck⟩ (.mk kind attr ints words lo hi op kids):=by
  obtain ⟨vs,k1,k2,k3⟩:=h3
  exact .mk h1 h2 k1 k2 k3
/-- The j-th kid: its cells, and its tree. -/
theorem NdsOf.at {w:World} {q:Option Addr} {c:Nat} {l:List Nd} {j:Nat} {x:Nd} (h:NdsOf w q c l) (hj:l[j]? = some x) :
    ∃ b off v,q=some ⟨b,off,none⟩∧b < w.heap.size∧NdIn w v x∧w.cell? ⟨b,off + j * 8,none⟩=some (.int .i64 v.kind)∧w.cell? ⟨b,off + j * 8 + 1,none⟩=some (.string v.attr)∧w.cell? ⟨b,off + j * 8 + 2,none⟩=some (.slice v.qi v.ni v.ci)∧w.cell? ⟨b,off + j * 8 + 3,none⟩=some (.slice v.qw v.nw v.cw)∧w.cell? ⟨b,off + j * 8 + 4,none⟩=some (.int .i64 v.lo)∧w.cell? ⟨b,off + j * 8 + 5,none⟩=some (.int .i64 v.hi)∧w.cell? ⟨b,off + j * 8 + 6,none⟩=some (.int .i64 v.op)∧w.cell? ⟨b,off + j * 8 + 7,none⟩=some (.slice v.qk v.nk v.ck):=by
  obtain ⟨vs,h1,h2,h3⟩:=h
  have hl:j < l.length:=(List.getElem?_eq_some_iff.1 hj).1
  obtain ⟨v,hv,_⟩:=get_at (l:=vs) (k:=j) (by omega)
  obtain ⟨b,off,hq,hb,hc⟩:=h1.2.2.2.at hv
  exact ⟨b,off,v,hq,hb,h3 j v x hv hj,cells8 hc⟩
/-- The same, seen from a later world. -/
theorem NdsOf.on {w wr:World} {q:Option Addr} {c:Nat} {l:List Nd} {j:Nat} {x:Nd} (h:NdsOf w q c l) (hj:l[j]? = some x) (hbel:Below w.heap.size w wr) :
    ∃ b off v,q=some ⟨b,off,none⟩∧NdIn wr v x∧wr.cell? ⟨b,off + j * 8,none⟩=some (.int .i64 v.kind)∧wr.cell? ⟨b,off + j * 8 + 1,none⟩=some (.string v.attr)∧wr.cell? ⟨b,off + j * 8 + 2,none⟩=some (.slice v.qi v.ni v.ci)∧wr.cell? ⟨b,off + j * 8 + 3,none⟩=some (.slice v.qw v.nw v.cw)∧wr.cell? ⟨b,off + j * 8 + 4,none⟩=some (.int .i64 v.lo)∧wr.cell? ⟨b,off + j * 8 + 5,none⟩=some (.int .i64 v.hi)∧wr.cell? ⟨b,off + j * 8 + 6,none⟩=some (.int .i64 v.op)∧wr.cell? ⟨b,off + j * 8 + 7,none⟩=some (.slice v.qk v.nk v.ck):=by
  obtain ⟨b,off,v,hq,hb,hin,c⟩:=(h.below hbel).at hj
  exact ⟨b,off,v,hq,hin,c⟩
theorem intsAt {w:World} {q:Option Addr} {c:Nat} {l:List Int} {j:Nat} {x:Int} (h:SlOf encI 1 w q c l) (hj:l[j]? = some x):∃ b off,q=some ⟨b,off,none⟩∧b < w.heap.size∧w.cell? ⟨b,off + j,none⟩=some (.int .i64 x):=by
  obtain ⟨b,off,hq,hb,hc⟩:=h.2.2.2.at hj
  exact ⟨b,off,hq,hb,by have:=hc 0 (by omega);rw [Nat.mul_one] at this;exact this⟩
theorem wordsAt {w:World} {q:Option Addr} {c:Nat} {l:List ByteArray} {j:Nat} {x:ByteArray} (h:SlOf encS 1 w q c l) (hj:l[j]? = some x):∃ b off,q=some ⟨b,off,none⟩∧b < w.heap.size∧w.cell? ⟨b,off + j,none⟩=some (.string x):=by
  obtain ⟨b,off,hq,hb,hc⟩:=h.2.2.2.at hj
  exact ⟨b,off,hq,hb,by have:=hc 0 (by omega);rw [Nat.mul_one] at this;exact this⟩

mutual
/-- How many nodes. -/
def sizeN:Nd→Nat
  | .mk _ _ _ _ _ _ _ ks=>1 + sizeL ks
def sizeL:List Nd→Nat
  | []=>0
  | x :: xs=>sizeN x + sizeL xs
end
def wordsWt:List ByteArray→Nat
  | []=>0
  | x :: xs=>1 + x.size + wordsWt xs
mutual
/-- How much a tree holds. -/
def wtN:Nd→Nat
  | .mk _ attr ints words _ _ _ ks=>1 + attr.size + ints.length + wordsWt words + wtL ks
def wtL:List Nd→Nat
  | []=>0
  | x :: xs=>wtN x + wtL xs
end
theorem wtL_mem {x:Nd} {l:List Nd} (h:x ∈ l):wtN x≤wtL l:=by
  induction l with
  | nil=>simp at h
  | cons y l ih =>
    rcases List.mem_cons.1 h with rfl | h
    · simp [wtL]
    · have:=ih h;simp only [wtL];omega
theorem words_len (l:List ByteArray):l.length≤wordsWt l:=by
  induction l with
  | nil=>simp [wordsWt]
  | cons x l ih=>simp only [wordsWt,List.length_cons];omega
theorem size_wt:∀ t,sizeN t≤wtN t:=by
  apply Nd.ind
  intro kind attr ints words lo hi op kids ih
  have:sizeL kids≤wtL kids:=by
    clear kind attr ints words lo hi op
    induction kids with
    | nil=>simp [sizeL]
    | cons x xs ih2 =>
      have h1:=ih x List.mem_cons_self
      have h2:=ih2 fun y hy=>ih y (List.mem_cons_of_mem _ hy)
      simp only [wtL,sizeL];omega
  simp only [wtN,sizeN];omega
theorem sizeL_wt (l:List Nd):sizeL l≤wtL l:=by
  induction l with
  | nil=>simp [sizeL]
  | cons x l ih=>have:=size_wt x;simp only [wtL,sizeL];omega
theorem take_snoc_of {α:Type} {l:List α} {k:Nat} {x:α} (h:l[k]? = some x):l.take (k + 1)=l.take k ++ [x]:=by
  rw [List.take_add_one,h];rfl
end Go.Proofs.Ytikhopiegaoacac
namespace Go.Proofs.Ytikhopiegaoacac
open Go.RowKit

/-- What the listed variables of the library hold. -/
def G (w:World):Prop:=Lib.TabIs Try.prog w "internal/strconv.uint64pow10" .u64 Lib.pow10Tab
theorem below_sub {a b c:World} (h:Below a.heap.size a b) (h2:Below b.heap.size b c):Below a.heap.size a c:=h.trans (h2.mono h.size)

theorem bcell {W w1:World} (hb:Below W.heap.size W w1):(∀ b o,b < W.heap.size→w1.cell? ⟨b,o,none⟩=W.cell? ⟨b,o,none⟩)∧(∀ b o,b < W.heap.size→w1.frozen? ⟨b,o,none⟩=W.frozen? ⟨b,o,none⟩) :=
  ⟨fun b o h=>hb.cell (p:=⟨b,o,none⟩) h,fun b o h=>hb.frozen (p:=⟨b,o,none⟩) h⟩

theorem toList_ne {a b:ByteArray} (h:a ≠ b):(a.toList == b.toList)=false:=by
  rw [beq_eq_false_iff_ne]
  intro h2
  rw [ByteArray.toList_eq,ByteArray.toList_eq] at h2
  exact h (WideShapes.bytes_inj h2)

end Go.Proofs.Ytikhopiegaoacac
