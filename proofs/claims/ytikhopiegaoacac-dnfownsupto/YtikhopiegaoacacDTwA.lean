/- Objects in memory, each in a range of blocks of its own. -/
import Derived.Test.YtikhopiegaoacacDZaf
import Derived.Test.YtikhopiegaoacacDOvT
import Derived.Test.YtikhopiegaoacacDZag
import Derived.Test.YtikhopiegaoacacDMemNodeAt
import Derived.Test.YtikhopiegaoacacDGrow
namespace Go.Proofs.Ytikhopiegaoacac
open Go.RowKit Go.Sort

theorem RT.up {B B':Nat} {w:World}:∀ (n:Nat) (v:Nv),RT B B' w n v→RT B B' w (n + 1) v:=by
 intro n
 induction n with
 | zero=>intro v h;cases h
 | succ n ih =>
  intro v h
  cases h with
  | mk us a b c d e f=>exact .mk us a b c d e fun i hi=>ih _ (f i hi)
theorem RT.le {B B':Nat} {w:World} {n m:Nat} {v:Nv} (h:RT B B' w n v) (hm:n≤m):RT B B' w m v:=by
 obtain ⟨k,rfl⟩:∃ k,m=n + k:=⟨m - n,by omega⟩
 clear hm
 induction k with
 | zero=>exact h
 | succ k ih=>exact RT.up _ _ ih
theorem rt_all {B B':Nat} {w:World}:∀ (vs:List Nv),(∀ u ∈ vs,∃ n,RT B B' w n u)→∃ n,∀ u ∈ vs,RT B B' w n u
 | [],_=>⟨0,fun u h=>by simp at h⟩
 | v :: vs,h=>by
  obtain ⟨n,hn⟩:=h v (by simp)
  obtain ⟨m,hm⟩:=rt_all vs fun u hu=>h u (by simp [hu])
  refine ⟨n + m,fun u hu=>?_⟩
  rcases List.mem_cons.1 hu with rfl | hu
  ·exact hn.le (Nat.le_add_right _ _)
  ·exact (hm u hu).le (Nat.le_add_left _ _)
theorem rt_mk {B B':Nat} {w:World} {v:Nv} {vs:List Nv} (h1:Raw 3 1 B B' w v.qi v.ni v.ci) (h2:Raw 9 1 B B' w v.qw v.nw v.cw) (h3:Raw 28 8 B B' w v.qk v.nk v.ck) (hb:v.ni≤1000000000∧v.nw≤1000000000∧v.nk≤1000000000) (hl:vs.length=v.nk) (hc:∀ g,v.qk=some ⟨g,0,none⟩→∀ (j c:Nat) (u:Nv),vs[j]? = some u→c < 8→w.cell? ⟨g,j * 8 + c,none⟩=some ((encV u)[c]!)) (hr:∀ u ∈ vs,∃ n,RT B B' w n u):∃ n,RT B B' w n v:=by
 obtain ⟨n,hn⟩:=rt_all vs hr
 have hg:∀ i,i < v.nk→vs[i]? = some (vs.getD i v):=fun i hi=>by
  have hi':i < vs.length:=by omega
  rw [List.getD_eq_getElem?_getD,List.getElem?_eq_getElem hi']
  rfl
 exact ⟨n + 1,.mk (fun i=>vs.getD i v) h1 h2 h3 hb (fun g hq i c hi hcc=>hc g hq i c _ (hg i hi) hcc) fun i hi=>hn _ (List.mem_of_getElem? (hg i hi))⟩
theorem own_rt {α:Type} [Inhabited α] {enc:α→List Value} {e:TypeId} {k B:Nat} {w:World} {q:Option Addr} {c:Nat} {l:List α} (h:OwnK enc e k B w q c l):Raw e k B w.heap.size w q l.length c:=h.raw (Nat.le_refl _) (Wr.refl [] 0 0 w)
theorem NdFrom.rt:∀ (t:Nd) (w:World) (B:Nat) (v:Nv),NdFrom w B v t→wtN t≤1000000000→∃ n,RT B w.heap.size w n v:=by
 intro t
 induction t using Nd.ind with
 | h kind attr ints words lo hi op kids ih =>
  intro w B v h hwt
  simp only [wtN] at hwt
  have z1:=words_len words
  have z2:=len_size kids
  have z3:=sizeL_wt kids
  cases h with
  | mk a b c hl hr =>
   refine rt_mk (own_rt a) (own_rt b) (hl ▸ own_rt c) ⟨by simp only;omega,by simp only;omega,by simp only;omega⟩ hl (fun g hq j d u hj hd=>?_) fun u hu=>?_
   ·obtain ⟨b',off,hq2,_,hA⟩:=(c.ls.2.2.2).at hj
    simp only at hq
    rw [hq] at hq2
    injection hq2 with hq2
    injection hq2 with e1 e2
    subst e1 e2
    have:=hA d hd
    rwa [Nat.zero_add] at this
   ·obtain ⟨j,hj,rfl⟩:=List.mem_iff_getElem.1 hu
    have hx:kids[j]? = some (kids[j]'(by omega)):=List.getElem?_eq_getElem _
    have hm:=List.mem_of_getElem? hx
    exact ih _ hm w B _ (hr j _ _ (List.getElem?_eq_getElem hj) hx) (by have:=wtL_mem hm;omega)
theorem lsb_rt {α:Type} [Inhabited α] {enc:α→List Value} {e:TypeId} {k B g c n:Nat} {w:World} {l:List α} (h:LsB enc e k w g c l) (hB:B≤g) (h1:n≤c) (h2:c≤maxLen):Raw e k B w.heap.size w (some ⟨g,0,none⟩) n c:=by
 obtain ⟨_,cur,h3,h4⟩:=h
 exact Or.inr ⟨g,cur,rfl,hB,blk_lt h3,h3,h1,h2,h4⟩
theorem SpIn.rt:∀ (t:Nd) (w:World) (B:Nat) (v:Nv),SpIn w B v t→wtN t≤1000000000→∃ n,RT B w.heap.size w n v:=by
 intro t
 induction t using Nd.ind with
 | h kind attr ints words lo hi op kids ih =>
  intro w B v h hwt
  simp only [wtN] at hwt
  have z1:=words_len words
  have z2:=len_size kids
  have z3:=sizeL_wt kids
  cases h with
  | @mk _ _ _ _ _ _ _ _ _ _ _ _ _ _ vs a1 a2 a3 b1 b2 b3 c1 c2 c3 hl hr d1 d2 d3 =>
   refine rt_mk (vs:=vs) (lsb_rt a1 d1 (Nat.le_trans (Nat.le_add_right _ 2) a2) a3) (lsb_rt b1 d2 (Nat.le_trans (Nat.le_add_right _ 2) b2) b3) (lsb_rt c1 d3 (Nat.le_trans (Nat.le_add_right _ 1) c2) c3) ⟨by simp only;omega,by simp only;omega,by simp only;omega⟩ hl (fun g hq j d u hj hd=>?_) fun u hu=>?_
   ·have hj2:(vs ++ [spV])[j]? = some u:=by rw [List.getElem?_append_left (List.getElem?_eq_some_iff.1 hj).1];exact hj
    obtain ⟨b',off,hq2,_,hA⟩:=c1.1.at hj2
    simp only at hq
    rw [hq] at hq2
    injection hq2 with hq2
    injection hq2 with e1 e2
    subst e1 e2
    have:=hA d hd
    rwa [Nat.zero_add] at this
   ·obtain ⟨j,hj,rfl⟩:=List.mem_iff_getElem.1 hu
    have hx:kids[j]? = some (kids[j]'(by omega)):=List.getElem?_eq_getElem _
    have hm:=List.mem_of_getElem? hx
    exact ih _ hm w B _ (hr j _ _ (List.getElem?_eq_getElem hj) hx) (by have:=wtL_mem hm;omega)
/-- A tree that is written over stays one that may be. -/
theorem RT.keep {B B' n:Nat} {w w':World} {v:Nv} (h:RT B B' w n v) (hb:Below w.heap.size w w'):RT B B' w' n v:=Pse.wr (Wr.of_below [] 0 0 hb) (by simp) _ _ _ _ h
/-- What lies in later blocks stays. -/
theorem NdFrom.past {S:List TypeId} {B B' C:Nat} {w w':World} {v:Nv} {t:Nd} (h:NdFrom w C v t) (hw:Wr S B B' w w') (hC:B'≤C):NdFrom w' C v t:=h.up ⟨hw.size,fun b h1 h2=>hw.past b h2 (Or.inr (Nat.le_trans hC h1))⟩
theorem RT.same {B B':Nat} {w w':World} (he:∀ b,B≤b→b < B'→w'.heap[b]? = w.heap[b]?):∀ (n:Nat) (v:Nv),RT B B' w n v→RT B B' w' n v:=by
 have hraw:∀ {e:TypeId} {k:Nat} {q:Option Addr} {m c:Nat},Raw e k B B' w q m c→Raw e k B B' w' q m c:=fun h=>by
  rcases h with h | ⟨g,cur,h1,h2,h3,h4,h5⟩
  ·exact Or.inl h
  ·exact Or.inr ⟨g,cur,h1,h2,h3,(he g h2 h3).trans h4,h5⟩
 intro n
 induction n with
 | zero=>intro v h;cases h
 | succ n ih =>
  intro v h
  cases h with
  | mk us a b c d e f =>
   refine .mk us (hraw a) (hraw b) (hraw c) d (fun g hq i c' hi hc=>?_) fun i hi=>ih _ (f i hi)
   obtain ⟨g',hq',h1,h2,_⟩:=c.at (by omega)
   rw [hq] at hq'
   injection hq' with hq'
   injection hq' with hq'
   subst hq'
   exact (World.cell?_of_block (he g h1 h2)).trans (e g hq i c' hi hc)
/-- A copy, a tree that was made, a box of a node, a row of nodes. -/
def cpOb (lo hi:Nat) (u:Nv) (x:Nd):Ob:=⟨lo,hi,fun W=>SpIn W lo u x∧∃ n,RT lo hi W n u⟩
def trOb (lo hi:Nat) (u:Nv) (x:Nd):Ob:=⟨lo,hi,fun W=>NdFrom W lo u x∧∃ n,RT lo hi W n u⟩
def bxOb (g:Nat) (u:Nv):Ob:=⟨g,g + 1,fun W=>W.heap[g]? = some (.cells #[.int .i64 u.kind,.string u.attr,.slice u.qi u.ni u.ci,.slice u.qw u.nw u.cw,.int .i64 u.lo,.int .i64 u.hi,.int .i64 u.op,.slice u.qk u.nk u.ck] 28 (0,0))⟩
def rwOb (q:Option Addr) (c:Nat) (us:List Nv):Ob:=⟨(q.map (·.block)).getD 0,(q.map (·.block + 1)).getD 0,fun W=>OwnK encV 28 8 0 W q c us⟩
theorem SpIn.st {w:World} {lo:Nat} {u:Nv} {x:Nd} (h:SpIn w lo u x) (hw:wtN x≤1000000000) (hl:lo≤w.heap.size):St lo w.heap.size (cpOb lo w.heap.size u x).P w :=
 ⟨hl,Nat.le_refl _,fun w' hs he=>⟨h.up ⟨hs,he⟩,by obtain ⟨n,hn⟩:=SpIn.rt x w lo u h hw;exact ⟨n,RT.same he n u hn⟩⟩⟩
theorem NdFrom.st {w:World} {lo:Nat} {u:Nv} {x:Nd} (h:NdFrom w lo u x) (hw:wtN x≤1000000000) (hl:lo≤w.heap.size):St lo w.heap.size (trOb lo w.heap.size u x).P w :=
 ⟨hl,Nat.le_refl _,fun w' hs he=>⟨h.up ⟨hs,he⟩,by obtain ⟨n,hn⟩:=NdFrom.rt x w lo u h hw;exact ⟨n,RT.same he n u hn⟩⟩⟩
theorem box_st {w:World} {g:Nat} {u:Nv} (h:w.heap[g]? = some (.cells #[.int .i64 u.kind,.string u.attr,.slice u.qi u.ni u.ci,.slice u.qw u.nw u.cw,.int .i64 u.lo,.int .i64 u.hi,.int .i64 u.op,.slice u.qk u.nk u.ck] 28 (0,0))):St g (g + 1) (bxOb g u).P w :=
 ⟨Nat.le_succ _,blk_lt h,fun _ _ he=>(he g (Nat.le_refl _) (Nat.lt_succ_self _)).trans h⟩
theorem Objs.row {L:List Ob} {w:World} {q:Option Addr} {c B:Nat} {us:List Nv} (h:Objs L w) (hr:OwnK encV 28 8 B w q c us) (ho:Out L q):Objs (L ++ [rwOb q c us]) w:=by
 have hr0:OwnK encV 28 8 0 w q c us:=hr.upF (fun _ _=>Nat.zero_le _) (fun _ _ _=>rfl)
 refine ⟨List.pairwise_append.2 ⟨h.1,List.pairwise_singleton _ _,fun o hL p hp=>?_⟩,fun o hL=>?_⟩
 ·rw [List.mem_singleton.1 hp]
  cases q with
  | none=>exact Or.inr (Nat.zero_le _)
  | some a =>
   show o.hi≤a.block ∨ a.block + 1≤o.lo
   have:=ho a rfl o hL
   omega
 ·rcases List.mem_append.1 hL with hL | hL
  ·exact h.2 o hL
  ·rw [List.mem_singleton.1 hL]
   cases q with
   | none =>
    refine ⟨Nat.le_refl _,Nat.zero_le _,fun w' _ _=>?_⟩
    rcases hr0.2 with ⟨h0,h1⟩ | ⟨g,cp,cur,h0,_⟩
    ·exact ⟨hr0.1,Or.inl ⟨h0,h1⟩⟩
    ·cases h0
   | some a =>
    have hlt:a.block < w.heap.size:=by
     rcases hr0.2 with ⟨h0,_⟩ | ⟨g,cp,cur,h0,_,h2,_⟩
     ·cases h0
     ·injection h0 with h0
      injection h0 with h0
      subst h0
      exact blk_lt h2
    refine ⟨Nat.le_succ _,hlt,fun w' hs he=>?_⟩
    have hs':a.block + 1≤w'.heap.size:=hs
    have he':w'.heap[a.block]? = w.heap[a.block]?:=he a.block (Nat.le_refl _) (Nat.lt_succ_self _)
    refine ⟨hr0.1, ?_⟩
    rcases hr0.2 with h0 | ⟨g,cp,cur,h0,h1,h2,h3⟩
    ·exact Or.inl h0
    ·refine Or.inr ⟨g,cp,cur,h0,h1, ?_,h3⟩
     injection h0 with h4
     injection h4 with h4
     subst h4
     exact he'.trans h2
end Go.Proofs.Ytikhopiegaoacac
