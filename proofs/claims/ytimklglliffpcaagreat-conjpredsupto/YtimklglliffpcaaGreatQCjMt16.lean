/- The law ConjMeets: the region that meets the predicates turned round, every order of its operations. -/
import Derived.Test.YtimklglliffpcaaGreatQZRp
import Derived.Test.YtimklglliffpcaaGreatQCjFix2
namespace Go.Proofs.YtimklglliffpcaaGreat
open Go.RowKit Go.Sort Go.Shelf
theorem tt {α:Type} [Inhabited α] {enc:α->List Value} {k g:Nat} {w W:World} {q:Option Addr} {c:Nat} {l:List α} (h:SlOf enc k w q c l) (hs:w.heap.size<=W.heap.size) (hW:∀ b,b < w.heap.size->b ≠ g->W.heap[b]? = w.heap[b]?) (hg:∀ a,q=some a->0 < l.length->a.block < w.heap.size->a.block ≠ g):SlOf enc k W q c l:=by
 refine ⟨h.1,h.2.1,h.2.2.1,fun h0=>?_⟩
 obtain ⟨b,off,e1,e2,e3⟩:=h.2.2.2 h0
 exact ⟨b,off,e1,Nat.lt_of_lt_of_le e2 hs,fun j u hj=>(World.cell?_of_block (a:=⟨b,off + j,Option.none⟩) (hW b e2 (hg _ e1 h0 e2))).trans (e3 j u hj)⟩
/-- A predicate that no write into block g reaches. -/
def PdOff (g:Nat) (w:World) (r:Pv) (m:Pd):Prop:=∀ W:World,w.heap.size<=W.heap.size->(∀ b,b < w.heap.size->b ≠ g->W.heap[b]? = w.heap[b]?)->PdIn W r m
theorem PdOwn.off {B g:Nat} {w:World} {r:Pv} {m:Pd} (h:PdOwn B w r m) (hg:g < B):PdOff g w r m:=fun W hs hW=>by
 obtain ⟨⟨h1,h2,h3,h4,h5,h6,h7,h8⟩,⟨f1,f2⟩,_⟩:=h
 exact ⟨h1,h2,h3,h4,h5,h6,tt h7 hs hW (fun a e _ _=>by have:=f1 a e;omega),tt h8 hs hW (fun a e _ _=>by have:=f2 a e;omega)⟩
theorem PdIn.off2 {w:World} {r:Pv} {m:Pd} (h:PdIn w r m) (o:Obj):PdOff w.heap.size (w.alloc o) r m:=fun W hs hW=>by
 obtain ⟨h1,h2,h3,h4,h5,h6,h7,h8⟩:=h
 rw [jl] at hs
 have hc:∀ b,b < w.heap.size->b ≠ w.heap.size->W.heap[b]? = w.heap[b]?:=fun b hb _=>(hW b (by rw [jl];omega) (by omega)).trans (Below.heap_alloc _ _ b hb)
 exact ⟨h1,h2,h3,h4,h5,h6,tt h7 (by omega) hc (fun a _ _ hl=>Nat.ne_of_lt hl),tt h8 (by omega) hc (fun a _ _ hl=>Nat.ne_of_lt hl)⟩
theorem PdOff.below {g:Nat} {w w':World} {r:Pv} {m:Pd} (h:PdOff g w r m) (hb:Below w.heap.size w w'):PdOff g w' r m:=fun W hs hW=>h W (Nat.le_trans hb.size hs) fun b hlt hne=>(hW b (Nat.lt_of_lt_of_le hlt hb.size) hne).trans (hb.block b hlt)
end Go.Proofs.YtimklglliffpcaaGreat
