/- trommelmem.Node: a deep copy of a tree, with spare room behind each list. -/
import Derived.Test.YtimklglliffpcaaGreatQKept
import Derived.Test.YtimklglliffpcaaGreatQZab
import Derived.Test.YtimklglliffpcaaGreatQFixPlain
import Derived.Lib.QuietBelow
namespace Go.Proofs.YtimklglliffpcaaGreat
open Go.RowKit Go.Sort
def spV:Nv:=⟨0,⟨#[]⟩,none,0,0,none,0,0,0,0,77,none,0,0⟩
/-- The copy of a tree, with spare room behind each list. -/
inductive SpIn (w:World) (B:Nat):Nv->Nd->Prop
  | mk {kind:Int} {attr:ByteArray} {ints:List Int} {words:List ByteArray} {lo hi op:Int} {kids:List Nd} {g1 k1 g2 k2 g3 k3:Nat} {vs:List Nv} :
      LsOf jq 1 w (some ⟨g1,0,none⟩) (ints ++ spI)->ints.length + 2<=k1->k1<=maxLen->LsOf jy 1 w (some ⟨g2,0,none⟩) (words ++ spS)->words.length + 2<=k2->k2<=maxLen ->
      LsOf rb 8 w (some ⟨g3,0,none⟩) (vs ++ [spV])->kids.length + 1<=k3->k3<=maxLen->vs.length=kids.length->(∀ (j:Nat) (v:Nv) (x:Nd),vs[j]? = some v->kids[j]? = some x->SpIn w B v x)->B<=g1->B<=g2->B<=g3 ->
      SpIn w B ⟨kind,attr,some ⟨g1,0,none⟩,ints.length,k1,some ⟨g2,0,none⟩,words.length,k2,lo,hi,op,some ⟨g3,0,none⟩,kids.length,k3⟩ (.mk kind attr ints words lo hi op kids)
theorem LsOf.up {α:Type} [Inhabited α] {enc:α->List Value} {k B:Nat} {w w':World} {g:Nat} {l:List α} (h:LsOf enc k w (some ⟨g,0,none⟩) l) (hg:B<=g) (hu:SameUp B w w'):LsOf enc k w' (some ⟨g,0,none⟩) l:=fun h0=>by
 obtain ⟨b,off,hq,hB,hA⟩:=h h0
 cases hq
 exact ⟨g,0,rfl,Nat.lt_of_lt_of_le hB hu.1,fun j u hj=>(hu.2 g (0 + j) hg hB).trans (hA j u hj)⟩
theorem SpIn.up {w w':World} {B:Nat} {v:Nv} {t:Nd} (h:SpIn w B v t) (hu:SameUp B w w'):SpIn w' B v t:=by
 induction h with
 | mk a1 a2 a3 b1 b2 b3 c1 c2 c3 hl hr d1 d2 d3 ih=>exact .mk (a1.up d1 hu) a2 a3 (b1.up d2 hu) b2 b3 (c1.up d3 hu) c2 c3 hl (fun j v x hj hx=>ih j v x hj hx) d1 d2 d3
theorem SpIn.keep {w w':World} {B:Nat} {v:Nv} {t:Nd} (h:SpIn w B v t) (hb:Below w.heap.size w w'):SpIn w' B v t:=h.up (SameUp.of hb)
theorem SpIn.mono {w:World} {B B':Nat} {v:Nv} {t:Nd} (h:SpIn w B v t) (hB:B'<=B):SpIn w B' v t:=by
 induction h with
 | mk a1 a2 a3 b1 b2 b3 c1 c2 c3 hl hr d1 d2 d3 ih=>exact .mk a1 a2 a3 b1 b2 b3 c1 c2 c3 hl (fun j v x hj hx=>ih j v x hj hx) (Nat.le_trans hB d1) (Nat.le_trans hB d2) (Nat.le_trans hB d3)
theorem SpIn.toIn {w:World} {B:Nat} {v:Nv} {t:Nd} (h:SpIn w B v t):NdIn w v t:=by
 induction h with
 | mk a1 a2 a3 b1 b2 b3 c1 c2 c3 hl hr d1 d2 d3 ih =>
  exact .mk ⟨(fun h=>by cases h),by omega,a3,a1.take (by decide)⟩ ⟨(fun h=>by cases h),by omega,b3,b1.take (by decide)⟩ ⟨(fun h=>by cases h),by omega,c3,c1.take (by decide)⟩ hl fun j v x hj hx=>ih j v x hj hx
theorem ke (W:World):W.drew.heap=W.heap:=rfl
theorem Fx {P:Program} {f:Nat} {args:Array Value} {w:World} {Q:Ending->World->Prop} (h:∀ Y,Y=w->Calls P f args Y Q):Calls P f args w Q:=h w rfl
theorem jz {w w':World} (h:Below w.drew.heap.size w.drew w'):Below w.heap.size w w':=⟨h.os,h.tape,h.output,h.size,h.block⟩
theorem Tt {w:World} {o:Obj} {k:Nat} (h:k < w.heap.size):(w.alloc o).heap[k]? = w.heap[k]?:=((Below.refl w.heap.size w).alloc (Nat.le_refl _) o).block k h
theorem jl (w:World) (o:Obj):(w.alloc o).heap.size=w.heap.size + 1:=by simp
theorem Li {w Y:World} {o1 o2:Obj} (h:(w.alloc o1).alloc o2=Y):Y.heap[w.heap.size]? = some o1/\Y.heap[w.heap.size + 1]? = some o2/\Below w.heap.size w Y/\Y.heap.size=w.heap.size + 2:=by
 subst h
 refine ⟨?_, ?_, ?_,by simp⟩
 ·rw [Tt (by simp only [jl];omega)];exact jf _ _
 ·have:=jf (w.alloc o1) o2;rwa [jl] at this
 ·exact ((Below.refl _ _).alloc (Nat.le_refl _) _).alloc (by simp) _
theorem LsOf.same {α:Type} [Inhabited α] {enc:α->List Value} {k:Nat} {w w':World} {g:Nat} {l:List α} (h:LsOf enc k w (some ⟨g,0,none⟩) l) (hs:w.heap.size<=w'.heap.size) (hc:∀ o,g < w.heap.size->w'.cell? ⟨g,o,none⟩=w.cell? ⟨g,o,none⟩):LsOf enc k w' (some ⟨g,0,none⟩) l:=fun h0=>by
 obtain ⟨b,off,hq,hB,hA⟩:=h h0
 cases hq
 exact ⟨g,0,rfl,Nat.lt_of_lt_of_le hB hs,fun j u hj=>(hc (0 + j) hB).trans (hA j u hj)⟩
theorem ra (w:World) {g b:Nat} (h:g ≠ b) (o j:Nat) (u:Value):(w.setCell ⟨b,j,none⟩ u).cell? ⟨g,o,none⟩=w.cell? ⟨g,o,none⟩:=by
 have h':¬ b=g:=fun e=>h e.symm
 go_simp
theorem tj {w:World} {M:Nat} {u:Nv} (h:w.heap[M]? = some (.cells #[.int .i64 u.kind,.string u.attr,.slice u.qi u.ni u.ci,.slice u.qw u.nw u.cw,.int .i64 u.lo,.int .i64 u.hi,.int .i64 u.op,.slice u.qk u.nk u.ck] 56 (0,0))):Cg rb 8 w (some ⟨M,0,none⟩) 1 [u] :=
 (H0 (vs:=[u]) h (by rw [Xh];rfl) (by simp)).src
end Go.Proofs.YtimklglliffpcaaGreat
