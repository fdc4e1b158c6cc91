/- What the copies of lists and trees are: new memory that holds the same. -/
import Derived.Test.YtikhopiegaoacacDZab
import Derived.Lib.SliceRun
namespace Go.Proofs.Ytikhopiegaoacac
open Go.RowKit Go.Sort

theorem OwnK.from {α:Type} [Inhabited α] {enc:α→List Value} {k B:Nat} {e:TypeId} {w:World} {q:Option Addr} {cap:Nat} {l:List α} (h:OwnK enc e k B w q cap l):∀ a,q=some a→B≤a.block:=by
  intro a ha
  rcases h.2 with ⟨h0,_⟩ | ⟨g,cp,cur,hv,hB,_⟩
  · injection h0 with h1;rw [ha] at h1;cases h1
  · injection hv with h1;rw [ha] at h1;cases h1;exact hB
theorem OwnK.upF {α:Type} [Inhabited α] {enc:α→List Value} {e:TypeId} {k B B':Nat} {w:World} {q:Option Addr} {cap:Nat} {l:List α} {w':World} (h:OwnK enc e k B w q cap l) (hq:∀ a,q=some a→B'≤a.block) (hu:∀ b,B'≤b→b < w.heap.size→w'.heap[b]? = w.heap[b]?):OwnK enc e k B' w' q cap l:=by
  refine ⟨h.1, ?_⟩
  rcases h.2 with h0 | ⟨g,c,cur,h0,h1,h2,h3⟩
  · exact Or.inl h0
  · refine Or.inr ⟨g,c,cur,h0, ?_, ?_,h3⟩
    · injection h0 with h4
      exact hq _ h4
    · injection h0 with h4
      exact (hu g (hq _ h4) (Array.getElem?_eq_some_iff.1 h2).1).trans h2
/-- The tree of v lies in memory in rows of its own, all of it in blocks from B on. -/
inductive NdFrom (w:World) (B:Nat):Nv→Nd→Prop
  | mk {kind:Int} {attr:ByteArray} {ints:List Int} {words:List ByteArray} {lo hi op:Int} {kids:List Nd} {qi:Option Addr} {ci:Nat} {qw:Option Addr} {cw:Nat} {qk:Option Addr} {ck:Nat} {vs:List Nv} :
      OwnK encI 3 1 B w qi ci ints→OwnK encS 9 1 B w qw cw words→OwnK encV 28 8 B w qk ck vs→vs.length=kids.length→(∀ (j:Nat) (v:Nv) (x:Nd),vs[j]? = some v→kids[j]? = some x→NdFrom w B v x) →
      NdFrom w B ⟨kind,attr,qi,ints.length,ci,qw,words.length,cw,lo,hi,op,qk,kids.length,ck⟩ (.mk kind attr ints words lo hi op kids)
theorem NdFrom.toIn {w:World} {B:Nat} {v:Nv} {t:Nd} (h:NdFrom w B v t):NdIn w v t:=by
  induction h with
  | mk hi hw hk hl hr ih=>exact .mk hi.ls hw.ls hk.ls hl fun j v x hj hx=>ih j v x hj hx
theorem NdFrom.mono {w:World} {B B':Nat} {v:Nv} {t:Nd} (h:NdFrom w B v t) (hB:B'≤B):NdFrom w B' v t:=by
  induction h with
  | mk hi hw hk hl hr ih=>exact .mk (hi.upF (fun a e=>Nat.le_trans hB (hi.from a e)) (fun _ _ _=>rfl)) (hw.upF (fun a e=>Nat.le_trans hB (hw.from a e)) (fun _ _ _=>rfl)) (hk.upF (fun a e=>Nat.le_trans hB (hk.from a e)) (fun _ _ _=>rfl)) hl fun j v x hj hx=>ih j v x hj hx
/-- A later world that has the same cells from B on. -/
def SameUp (B:Nat) (w w':World):Prop:=w.heap.size≤w'.heap.size∧∀ b,B≤b→b < w.heap.size→w'.heap[b]? = w.heap[b]?
theorem SameUp.cell {B:Nat} {w w':World} (h:SameUp B w w') (b o:Nat) (h1:B≤b) (h2:b < w.heap.size):w'.cell? ⟨b,o,none⟩=w.cell? ⟨b,o,none⟩:=World.cell?_of_block (w:=w) (a:=⟨b,o,none⟩) (h.2 b h1 h2)
theorem SlOf.up {α:Type} [Inhabited α] {enc:α→List Value} {k B:Nat} {w w':World} {q:Option Addr} {c:Nat} {l:List α} (h:SlOf enc k w q c l) (hq:∀ a,q=some a→B≤a.block) (hu:SameUp B w w'):SlOf enc k w' q c l:=by
  refine ⟨h.1,h.2.1,h.2.2.1,fun h0=>?_⟩
  obtain ⟨b,off,rfl,hB,hA⟩:=h.2.2.2 h0
  exact ⟨b,off,rfl,Nat.lt_of_lt_of_le hB hu.1,fun j u hj=>(hu.cell b (off + j) (hq _ rfl) hB).trans (hA j u hj)⟩
theorem NdFrom.up {w w':World} {B:Nat} {v:Nv} {t:Nd} (h:NdFrom w B v t) (hu:SameUp B w w'):NdFrom w' B v t:=by
  induction h with
  | mk hi hw hk hl hr ih=>exact .mk (hi.upF hi.from hu.2) (hw.upF hw.from hu.2) (hk.upF hk.from hu.2) hl fun j v x hj hx=>ih j v x hj hx
theorem SameUp.of {B:Nat} {w w':World} (h:Below w.heap.size w w'):SameUp B w w':=⟨h.size,fun b _ hb=>h.block b hb⟩
theorem SameUp.trans {B:Nat} {x y z:World} (h:SameUp B x y) (k:SameUp B y z):SameUp B x z:=⟨Nat.le_trans h.1 k.1,fun b h1 h2=>(k.2 b h1 (Nat.lt_of_lt_of_le h2 h.1)).trans (h.2 b h1 h2)⟩
theorem SameUp.grown {B g:Nat} {w w':World} (h:w.grownBy w' (some g)) (hg:g < B):SameUp B w w':=⟨h.size,fun b h1 h2=>h.block b h2 (fun e=>by cases e;omega)⟩
theorem NdFrom.keep {w w':World} {B:Nat} {v:Nv} {t:Nd} (h:NdFrom w B v t) (hb:Below w.heap.size w w'):NdFrom w' B v t:=h.up (SameUp.of hb)
theorem NdFrom.make {w:World} {B:Nat} {kind:Int} {attr:ByteArray} {ints:List Int} {words:List ByteArray} {lo hi op:Int} {kids:List Nd} {qi:Option Addr} {ci:Nat} {qw:Option Addr} {cw:Nat} {qk:Option Addr} {ck:Nat} {vs:List Nv}
    (h1:OwnK encI 3 1 B w qi ci ints) (h2:OwnK encS 9 1 B w qw cw words) (h3:OwnK encV 28 8 B w qk ck vs) (hl:vs.length=kids.length) (hr:∀ (j:Nat) (v:Nv) (x:Nd),vs[j]? = some v→kids[j]? = some x→NdFrom w B v x) :
    NdFrom w B ⟨kind,attr,qi,ints.length,ci,qw,words.length,cw,lo,hi,op,qk,kids.length,ck⟩ (.mk kind attr ints words lo hi op kids):=.mk h1 h2 h3 hl hr
/-- A row of one node. -/
theorem own_one {w:World} {B M:Nat} {v:Nv} (h:w.heap[M]? = some (.cells #[.int .i64 v.kind,.string v.attr,.slice v.qi v.ni v.ci,.slice v.qw v.nw v.cw,.int .i64 v.lo,.int .i64 v.hi,.int .i64 v.op,.slice v.qk v.nk v.ck] 28 (0,0))) (hB:B≤M):OwnK encV 28 8 B w (some ⟨M,0,none⟩) 1 [v]:=by
  unfold OwnK
  exact ⟨by simp,Or.inr ⟨M,1,_,rfl,hB,h,Nat.le_refl _,by unfold maxLen;omega,rfl,by simp only [Go.Sort.flatK,Array.toList_map,Array.toList_range];simp [List.range,List.range.loop,encV]⟩⟩
set_option maxRecDepth 100000 in
set_option maxHeartbeats 1000000 in
theorem cloneI (q:Option Addr) (c:Nat) (l:List Int) (w:World) (h:SlOf encI 1 w q c l) (hl:l.length≤1000000000000) :
    Calls Try.prog 30 #[.slice q l.length c] w fun e w'=>∃ q' c',e=.returned (.slice q' l.length c')∧OwnK encI 3 1 w.heap.size w' q' c' l∧Below w.heap.size w w':=by
  cases q with
  | none =>
    obtain ⟨h0,rfl⟩:=h.1 rfl
    obtain rfl:l=[]:=List.length_eq_zero_iff.1 h0
    have heq:=fun (w:World)=>Lib.run_eql_slice_nil (P:=Try.prog) w 22 3 none 0 0 0 0 Try.underlying22
    clear h h0
    go_enter Try.func30,Try.ntmps30
    go_wp2
    go_ret
    exact ⟨none,0,rfl,OwnK.nil _ _,Below.refl _ _⟩
  | some a =>
    have HS:=hide h
    have heq:=fun (w:World)=>Lib.run_eql_slice_nil (P:=Try.prog) w 22 3 (some a) l.length c 0 0 Try.underlying22
    clear h
    go_enter Try.func30,Try.ntmps30
    go_wp2_with (at_builtin;refine wpList_app rowI rfl _ _ rfl w.heap.size (some ⟨w.heap.size,0,none⟩) 0 [] (some a) c l 0 l.length l.length rfl rfl (by omega) rfl rfl (OwnK.made _ _ (Nat.le_refl _)) ((uh HS).below ((Below.refl _ _).alloc (Nat.le_refl _) _)).src (by unfold maxLen;omega) (by omega) (by simp) ?_;intro q2 c2 w2 hown2 hb2 _ hg2)
    go_ret
    exact ⟨q2,c2,rfl,by simpa using hown2,((Below.refl _ _).alloc (Nat.le_refl _) _).trans hb2⟩
set_option maxRecDepth 100000 in
set_option maxHeartbeats 1000000 in
theorem cloneS (q:Option Addr) (c:Nat) (l:List ByteArray) (w:World) (h:SlOf encS 1 w q c l) (hl:l.length≤1000000000000) :
    Calls Try.prog 44 #[.slice q l.length c] w fun e w'=>∃ q' c',e=.returned (.slice q' l.length c')∧OwnK encS 9 1 w.heap.size w' q' c' l∧Below w.heap.size w w':=by
  cases q with
  | none =>
    obtain ⟨h0,rfl⟩:=h.1 rfl
    obtain rfl:l=[]:=List.length_eq_zero_iff.1 h0
    have heq:=fun (w:World)=>Lib.run_eql_slice_nil (P:=Try.prog) w 23 9 none 0 0 0 0 Try.underlying23
    clear h h0
    go_enter Try.func44,Try.ntmps44
    go_wp2
    go_ret
    exact ⟨none,0,rfl,OwnK.nil _ _,Below.refl _ _⟩
  | some a =>
    have HS:=hide h
    have heq:=fun (w:World)=>Lib.run_eql_slice_nil (P:=Try.prog) w 23 9 (some a) l.length c 0 0 Try.underlying23
    clear h
    go_enter Try.func44,Try.ntmps44
    go_wp2_with (at_builtin;refine wpList_app rowS rfl _ _ rfl w.heap.size (some ⟨w.heap.size,0,none⟩) 0 [] (some a) c l 0 l.length l.length rfl rfl (by omega) rfl rfl (OwnK.made _ _ (Nat.le_refl _)) ((uh HS).below ((Below.refl _ _).alloc (Nat.le_refl _) _)).src (by unfold maxLen;omega) (by omega) (by simp) ?_;intro q2 c2 w2 hown2 hb2 _ hg2)
    go_ret
    exact ⟨q2,c2,rfl,by simpa using hown2,((Below.refl _ _).alloc (Nat.le_refl _) _).trans hb2⟩
set_option maxRecDepth 100000 in
set_option maxHeartbeats 1000000 in
theorem cloneV (q:Option Addr) (c:Nat) (l:List Nv) (w:World) (h:SlOf encV 8 w q c l) (hl:l.length≤1000000000000) :
    Calls Try.prog 65 #[.slice q l.length c] w fun e w'=>∃ q' c',e=.returned (.slice q' l.length c')∧OwnK encV 28 8 w.heap.size w' q' c' l∧Below w.heap.size w w':=by
  cases q with
  | none =>
    obtain ⟨h0,rfl⟩:=h.1 rfl
    obtain rfl:l=[]:=List.length_eq_zero_iff.1 h0
    have heq:=fun (w:World)=>Lib.run_eql_slice_nil (P:=Try.prog) w 26 28 none 0 0 0 0 Try.underlying26
    clear h h0
    go_enter Try.func65,Try.ntmps65
    go_wp2
    go_ret
    exact ⟨none,0,rfl,OwnK.nil _ _,Below.refl _ _⟩
  | some a =>
    have HS:=hide h
    have heq:=fun (w:World)=>Lib.run_eql_slice_nil (P:=Try.prog) w 26 28 (some a) l.length c 0 0 Try.underlying26
    clear h
    go_enter Try.func65,Try.ntmps65
    go_wp2_with (at_builtin;refine wpList_app rowV rfl _ _ rfl w.heap.size (some ⟨w.heap.size,0,none⟩) 0 [] (some a) c l 0 l.length l.length rfl rfl (by omega) rfl rfl (OwnK.made _ _ (Nat.le_refl _)) ((uh HS).below ((Below.refl _ _).alloc (Nat.le_refl _) _)).src (by unfold maxLen;omega) (by omega) (by simp) ?_;intro q2 c2 w2 hown2 hb2 _ hg2)
    go_ret
    exact ⟨q2,c2,rfl,by simpa using hown2,((Below.refl _ _).alloc (Nat.le_refl _) _).trans hb2⟩
end Go.Proofs.Ytikhopiegaoacac
namespace Go.Proofs.Ytikhopiegaoacac
open Go.RowKit

theorem size_pos (t:Nd):1≤sizeN t:=by cases t;simp only [sizeN];omega
theorem len_size (l:List Nd):l.length≤sizeL l:=by
  induction l with
  | nil=>simp
  | cons x l ih=>have:=size_pos x;simp only [sizeL,List.length_cons];omega
end Go.Proofs.Ytikhopiegaoacac
namespace Go.Proofs.Ytikhopiegaoacac
open Go.RowKit

theorem pre_snoc {α:Type} {l m:List α} {k:Nat} {x:α} (h:l.take k=m.take k) (hx:l[k]? = some x) (hy:m[k]? = some x):l.take (k + 1)=m.take (k + 1):=by
  rw [take_snoc_of hx,take_snoc_of hy,h]
theorem pre_ne {α:Type} {l m:List α} {k:Nat} {x y:α} (hx:l[k]? = some x) (hy:m[k]? = some y) (h:x ≠ y):l ≠ m:=fun e=>by subst e;rw [hx] at hy;cases hy;exact h rfl
theorem NdsOf.cells {w wr:World} {q:Option Addr} {c:Nat} {l:List Nd} {j:Nat} {x:Nd} (h:NdsOf w q c l) (hj:l[j]? = some x) (hbel:Below w.heap.size w wr) :
    ∃ b off v,q=some ⟨b,off,none⟩∧b < wr.heap.size∧NdIn wr v x∧(wr.cell? ⟨b,off + j * 8,none⟩=some (.int .i64 v.kind)∧wr.cell? ⟨b,off + j * 8 + 1,none⟩=some (.string v.attr)∧wr.cell? ⟨b,off + j * 8 + 2,none⟩=some (.slice v.qi v.ni v.ci)∧wr.cell? ⟨b,off + j * 8 + 3,none⟩=some (.slice v.qw v.nw v.cw)∧wr.cell? ⟨b,off + j * 8 + 4,none⟩=some (.int .i64 v.lo)∧wr.cell? ⟨b,off + j * 8 + 5,none⟩=some (.int .i64 v.hi)∧wr.cell? ⟨b,off + j * 8 + 6,none⟩=some (.int .i64 v.op)∧wr.cell? ⟨b,off + j * 8 + 7,none⟩=some (.slice v.qk v.nk v.ck)):=by
  obtain ⟨b,off,v,hq,hb,hin,c⟩:=(h.below hbel).at hj
  exact ⟨b,off,v,hq,hb,hin,c⟩
end Go.Proofs.Ytikhopiegaoacac
