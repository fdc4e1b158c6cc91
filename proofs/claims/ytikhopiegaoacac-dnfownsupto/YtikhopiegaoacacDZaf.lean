/- Objects in memory, each in a range of blocks of its own: what hangs on its range alone. -/
import Derived.Test.YtikhopiegaoacacDGrow
import Derived.Test.YtikhopiegaoacacDDnfRows
import Derived.Test.YtikhopiegaoacacDOvR
namespace Go.Proofs.Ytikhopiegaoacac
open Go.RowKit Go.Sort

/-- P hangs on the blocks from lo up to hi alone. -/
structure St (lo hi:Nat) (P:World→Prop) (w:World):Prop where
 le:lo≤hi
 top:hi≤w.heap.size
 all:∀ w':World,hi≤w'.heap.size→(∀ b,lo≤b→b < hi→w'.heap[b]? = w.heap[b]?)→P w'
theorem St.now {lo hi:Nat} {P:World→Prop} {w:World} (h:St lo hi P w):P w:=h.all w h.top fun _ _ _=>rfl
theorem St.step {lo hi:Nat} {P:World→Prop} {w w':World} (h:St lo hi P w) (hs:w.heap.size≤w'.heap.size) (he:∀ b,lo≤b→b < hi→w'.heap[b]? = w.heap[b]?):St lo hi P w' :=
 ⟨h.le,Nat.le_trans h.top hs,fun w'' hs' he'=>h.all w'' hs' fun b h1 h2=>(he' b h1 h2).trans (he b h1 h2)⟩
/-- An object: its range of blocks, and what holds of it. -/
structure Ob where
 lo:Nat
 hi:Nat
 P:World→Prop
/-- Objects in ranges apart. -/
structure Objs (L:List Ob) (w:World):Prop where
 apart:L.Pairwise fun o p=>o.hi≤p.lo ∨ p.hi≤o.lo
 st:∀ o ∈ L,St o.lo o.hi o.P w
theorem Objs.nil (w:World):Objs [] w:=⟨List.Pairwise.nil,fun o h=>by simp at h⟩
theorem Objs.below {L:List Ob} {w w':World} (h:Objs L w) (hb:Below w.heap.size w w'):Objs L w':=⟨h.1,fun o ho=>(h.2 o ho).step hb.size fun b _ h2=>hb.block b (Nat.lt_of_lt_of_le h2 (h.2 o ho).top)⟩
theorem Objs.add {L:List Ob} {w w':World} {lo hi:Nat} {P:World→Prop} (h:Objs L w) (hb:Below w.heap.size w w') (hs:St lo hi P w') (hl:w.heap.size≤lo):Objs (L ++ [⟨lo,hi,P⟩]) w':=by
 have h':=h.below hb
 refine ⟨List.pairwise_append.2 ⟨h.1,List.pairwise_singleton _ _,fun o ho p hp=>?_⟩,fun o ho=>?_⟩
 ·rw [List.mem_singleton.1 hp]
  exact Or.inl (Nat.le_trans (h.2 o ho).top hl)
 ·rcases List.mem_append.1 ho with ho | ho
  ·exact h'.2 o ho
  ·rw [List.mem_singleton.1 ho]
   exact hs
theorem Objs.grown {L:List Ob} {w w':World} {r:Option Nat} (h:Objs L w) (hg:w.grownBy w' r) (ho:∀ g,r=some g→∀ o ∈ L,g < o.lo ∨ o.hi≤g):Objs L w':=by
 refine ⟨h.1,fun o hL=>(h.2 o hL).step hg.size fun b h1 h2=>hg.block b (Nat.lt_of_lt_of_le h2 (h.2 o hL).top) fun e=>?_⟩
 have:=ho b e.symm o hL
 omega
theorem Objs.wr {L1 L2:List Ob} {o:Ob} {S:List TypeId} {w w':World} (h:Objs (L1 ++ o :: L2) w) (hw:Wr S o.lo o.hi w w'):Objs (L1 ++ L2) w':=by
 obtain ⟨h1,h2,h3⟩:=List.pairwise_append.1 h.1
 have h4:=List.pairwise_cons.1 h2
 refine ⟨List.pairwise_append.2 ⟨h1,h4.2,fun a ha b hb=>h3 a ha b (by simp [hb])⟩,fun p hp=>?_⟩
 have hd:p.hi≤o.lo ∨ o.hi≤p.lo:=by
  rcases List.mem_append.1 hp with hp | hp
  ·exact h3 p hp o (by simp)
  ·exact (h4.1 p hp).symm
 have hst:=h.2 p (by rcases List.mem_append.1 hp with hp | hp <;> simp [hp])
 exact hst.step hw.size fun b h5 h6=>hw.past b (Nat.lt_of_lt_of_le h6 hst.top) (by omega)
theorem Objs.get {L:List Ob} {w:World} {o:Ob} (h:Objs L w) (ho:o ∈ L):o.P w:=(h.2 o ho).now
/-- The row lies outside the objects. -/
def Out (L:List Ob) (q:Option Addr):Prop:=∀ a,q=some a→∀ o ∈ L,a.block < o.lo ∨ o.hi≤a.block
/-- An object more, in the midst of the list. -/
theorem Objs.ins {L1 L2:List Ob} {w w':World} {o:Ob} (h:Objs (L1 ++ L2) w) (hb:Below w.heap.size w w') (hs:St o.lo o.hi o.P w') (hl:w.heap.size≤o.lo):Objs (L1 ++ o :: L2) w':=by
 have h':=h.below hb
 obtain ⟨p1,p2,p3⟩:=List.pairwise_append.1 h.1
 have top:∀ p ∈ L1 ++ L2,p.hi≤o.lo:=fun p hp=>Nat.le_trans (h.2 p hp).top hl
 refine ⟨List.pairwise_append.2 ⟨p1,List.pairwise_cons.2 ⟨fun p hp=>Or.inr (top p (by simp [hp])),p2⟩,fun a ha b hb'=>?_⟩,fun p hp=>?_⟩
 ·rcases List.mem_cons.1 hb' with rfl | hb'
  ·exact Or.inl (top a (by simp [ha]))
  ·exact p3 a ha b hb'
 ·simp only [List.mem_append,List.mem_cons] at hp
  rcases hp with hp | rfl | hp
  ·exact h'.2 p (by simp [hp])
  ·exact hs
  ·exact h'.2 p (by simp [hp])
theorem Objs.set {L:List Ob} {w:World} (h:Objs L w) {g o:Nat} {u:Value} (hg:∀ p ∈ L,g < p.lo ∨ p.hi≤g):Objs L (w.setCell ⟨g,o,none⟩ u) :=
 h.grown (r:=some g) (gset (grefl w (some g)) o u) fun b e p hp=>by cases e;exact hg p hp
end Go.Proofs.Ytikhopiegaoacac
namespace Go.Proofs.Ytikhopiegaoacac
open Go.RowKit Go.Sort

def nwI:Array Value:=#[.int .i64 (-5),.int .i64 (-6)]
set_option maxHeartbeats 4000000 in
set_option maxRecDepth 100000 in
theorem over_45 (B B':Nat) (q:Option Addr) (n c:Nat) (w:World) (hl:n≤1000000000) (hR:Raw 3 1 B B' w q n c) :
  Calls Try.prog 45 #[.slice q n c] w fun e w'=>e=.returned (.tuple #[])∧Wr [3] B B' w w':=by
 have mixed:Try.prog.follows .mixedOrders=true:=by kernel_rfl
 have HR:=hide hR
 have n0:(0:Int)≤(n:Int):=by omega
 have n9:(n:Int)≤1000000000:=by omega
 clear hR
 go_enter Try.func45,Try.ntmps45
 go_wp2
 go_loopw [6] (fun i wr=>∃ k:Nat,k≤n∧i=.int .i64 k∧Hid (Wr [3] B B' w wr)) (fun i _=>n - (intOf i).toNat)
 case atStart=>exact ⟨0,by omega,rfl,hide (Wr.refl _ _ _ _)⟩
 case round =>
  obtain ⟨k,hk,rfl,Hwr⟩:=hrel
  have Hrow:=hide ((uh HR).wr (uh Hwr))
  by_cases hlt:k < n
  ·have k0:(0:Int)≤(k:Int):=by omega
   have k1:(k:Int) < (n:Int):=by omega
   obtain ⟨g,rfl,hB,hB2,hat,hcell,ff⟩:=(uh Hrow).at (by omega)
   obtain ⟨v0,e0⟩:=hcell (k) (by omega)
   have HAT:=hide hat
   clear hcell hat
   go_wp2
   exact ⟨⟨k + 1,by omega,congrArg (Value.int .i64) (by omega),hide ((uh Hwr).set (uh HAT) (by simp) (Or.inl ⟨hB,hB2⟩) _ _)⟩,by simp [intOf];omega⟩
  ·obtain rfl:k=n:=by omega
   have m1:(k:Int) < (k:Int) + 2:=by omega
   go_wp2_with (at_builtin;refine wpList_raw rowI rfl _ _ rfl (B:=B) (B':=B') q k c ((uh Hrow).wr (Wr.of_below [] 0 0 (Below.alloc (Below.refl _ _) (Nat.le_refl _) _))) ⟨wr.heap.size,0,none⟩ 2 2 nwI.toList rfl (World.news_of_block (heap_alloc_new wr _)) (by decide) (by decide) (k + 2) rfl rfl rfl (by unfold maxLen;omega) (by omega) ?_;intro g2 c2 w2 hw2 hc2 hg2 hm2 _;have HW2:=hide hw2;obtain ⟨cur2,hcur,hcs⟩:=hc2;have c0:w2.cell? ⟨g2,k,none⟩=some (cur2[k]'(by omega)):=(by rw [cell_of_row w2 g2 _ cur2 3 (0,0) hcur];exact Array.getElem?_eq_getElem (by omega));obtain ⟨vv,cc⟩:∃ v,w2.cell? ⟨g2,k,none⟩=some v:=⟨_,c0⟩;have ff2:∀ o,w2.frozen? ⟨g2,o,none⟩=false:=(fun o=>frozen_free hcur);have HAT:=hide (show At 3 g2 w2 from ⟨cur2,hcur⟩);have HG2:=hide hg2;clear c0 hcur hcs hw2 hg2)
   have Hend:Hid (Wr [3] B B' w (w2.setCell ⟨g2,k,none⟩ (.int .i64 (-7)))):=hide (by
    have h1:Wr [3] B B' w (wr.alloc (.cells nwI 3)):=(uh Hwr).alloc _
    refine (h1.trans (uh HW2)).set (uh HAT) (by simp) ?_ _ _
    rcases uh HG2 with h | h
    ·exact Or.inl h
    ·exact Or.inr (Nat.le_trans h1.size h))
   go_wp2
   exact bodyPost_end (v:=.tuple #[]) (by simp [results,Try.results45,go_sem]) rfl ⟨rfl,uh Hend⟩
def nwS:Array Value:=#[.string ⟨#[103,114,111,119,110]⟩,.string ⟨#[109,111,114,101]⟩]
set_option maxHeartbeats 4000000 in
set_option maxRecDepth 100000 in
theorem over_46 (B B':Nat) (q:Option Addr) (n c:Nat) (w:World) (hl:n≤1000000000) (hR:Raw 9 1 B B' w q n c) :
  Calls Try.prog 46 #[.slice q n c] w fun e w'=>e=.returned (.tuple #[])∧Wr [9] B B' w w':=by
 have mixed:Try.prog.follows .mixedOrders=true:=by kernel_rfl
 have HR:=hide hR
 have n0:(0:Int)≤(n:Int):=by omega
 have n9:(n:Int)≤1000000000:=by omega
 clear hR
 go_enter Try.func46,Try.ntmps46
 go_wp2
 go_loopw [6] (fun i wr=>∃ k:Nat,k≤n∧i=.int .i64 k∧Hid (Wr [9] B B' w wr)) (fun i _=>n - (intOf i).toNat)
 case atStart=>exact ⟨0,by omega,rfl,hide (Wr.refl _ _ _ _)⟩
 case round =>
  obtain ⟨k,hk,rfl,Hwr⟩:=hrel
  have Hrow:=hide ((uh HR).wr (uh Hwr))
  by_cases hlt:k < n
  ·have k0:(0:Int)≤(k:Int):=by omega
   have k1:(k:Int) < (n:Int):=by omega
   obtain ⟨g,rfl,hB,hB2,hat,hcell,ff⟩:=(uh Hrow).at (by omega)
   obtain ⟨v0,e0⟩:=hcell (k) (by omega)
   have HAT:=hide hat
   clear hcell hat
   go_wp2
   exact ⟨⟨k + 1,by omega,congrArg (Value.int .i64) (by omega),hide ((uh Hwr).set (uh HAT) (by simp) (Or.inl ⟨hB,hB2⟩) _ _)⟩,by simp [intOf];omega⟩
  ·obtain rfl:k=n:=by omega
   have m1:(k:Int) < (k:Int) + 2:=by omega
   go_wp2_with (at_builtin;refine wpList_raw rowS rfl _ _ rfl (B:=B) (B':=B') q k c ((uh Hrow).wr (Wr.of_below [] 0 0 (Below.alloc (Below.refl _ _) (Nat.le_refl _) _))) ⟨wr.heap.size,0,none⟩ 2 2 nwS.toList rfl (World.news_of_block (heap_alloc_new wr _)) (by decide) (by decide) (k + 2) rfl rfl rfl (by unfold maxLen;omega) (by omega) ?_;intro g2 c2 w2 hw2 hc2 hg2 hm2 _;have HW2:=hide hw2;obtain ⟨cur2,hcur,hcs⟩:=hc2;have c0:w2.cell? ⟨g2,k,none⟩=some (cur2[k]'(by omega)):=(by rw [cell_of_row w2 g2 _ cur2 9 (0,0) hcur];exact Array.getElem?_eq_getElem (by omega));obtain ⟨vv,cc⟩:∃ v,w2.cell? ⟨g2,k,none⟩=some v:=⟨_,c0⟩;have ff2:∀ o,w2.frozen? ⟨g2,o,none⟩=false:=(fun o=>frozen_free hcur);have HAT:=hide (show At 9 g2 w2 from ⟨cur2,hcur⟩);have HG2:=hide hg2;clear c0 hcur hcs hw2 hg2)
   have Hend:Hid (Wr [9] B B' w (w2.setCell ⟨g2,k,none⟩ (.string ⟨#[103,114,111,119,110,32,115,116,105,108,108]⟩))):=hide (by
    have h1:Wr [9] B B' w (wr.alloc (.cells nwS 9)):=(uh Hwr).alloc _
    refine (h1.trans (uh HW2)).set (uh HAT) (by simp) ?_ _ _
    rcases uh HG2 with h | h
    ·exact Or.inl h
    ·exact Or.inr (Nat.le_trans h1.size h))
   go_wp2
   exact bodyPost_end (v:=.tuple #[]) (by simp [results,Try.results46,go_sem]) rfl ⟨rfl,uh Hend⟩
set_option maxHeartbeats 4000000 in
set_option maxRecDepth 100000 in
theorem over_pred (B B':Nat) (w:World) (v:Nv) (h1:Raw 3 1 B B' w v.qi v.ni v.ci) (h2:Raw 9 1 B B' w v.qw v.nw v.cw) (hB:B'≤w.heap.size) (l1:v.ni≤1000000000) (l2:v.nw≤1000000000) :
  Calls Try.prog 26 #[.agg #[.int .i64 v.kind,.string v.attr,.slice v.qi v.ni v.ci,.slice v.qw v.nw v.cw,.int .i64 v.lo,.int .i64 v.hi]] w fun e w'=>e=.returned (.tuple #[])∧Wr [3,9] B B' w w':=by
 obtain ⟨X,HX⟩:∃ X,w.alloc (.cells #[.int .i64 v.kind,.string v.attr,.slice v.qi v.ni v.ci,.slice v.qw v.nw v.cw,.int .i64 v.lo,.int .i64 v.hi] 25)=X:=⟨_,rfl⟩
 have bX:Below w.heap.size w X:=by rw [← HX];exact (Below.refl _ _).alloc (Nat.le_refl _) _
 have hx:X.heap[w.heap.size]? = some (.cells #[.int .i64 v.kind,.string v.attr,.slice v.qi v.ni v.ci,.slice v.qw v.nw v.cw,.int .i64 v.lo,.int .i64 v.hi] 25 (0,0)):=by rw [← HX];exact (by simp [World.alloc,-World.alloc_eq])
 have x2:X.cell? ⟨w.heap.size,2,none⟩=some (.slice v.qi v.ni v.ci):=by unfold World.cell?;simp [hx]
 have x3:X.cell? ⟨w.heap.size,3,none⟩=some (.slice v.qw v.nw v.cw):=by unfold World.cell?;simp [hx]
 have hw0:=Wr.of_below [3,9] B B' bX
 have H1:=hide (over_45 B B' v.qi v.ni v.ci X l1 (h1.wr hw0))
 have H2:=hide (fun W (hW:Wr [3,9] B B' X W)=>over_46 B B' v.qw v.nw v.cw W l2 ((h2.wr hw0).wr hW))
 have HW0:=hide hw0
 have HXB:=hide hx
 clear hw0 h1 h2 bX hx
 go_enter Try.func26,Try.ntmps26
 go_wp2_with (first
  | (go_at_call 45;refine (uh H1).mono ?_;rintro e w1 ⟨rfl,k1⟩;have K1:=hide (k1.mono (T:=[3,9]) (by simp));have y3:w1.cell? ⟨w.heap.size,3,none⟩=some (.slice v.qw v.nw v.cw):=(World.cell?_of_block (k1.past _ (blk_lt (uh HXB)) (Or.inr hB))).trans x3;clear x2 x3 k1)
  | (go_at_call 46;refine (uh H2 _ (uh K1)).mono ?_;rintro e w2 ⟨rfl,k2⟩;have K2:=hide ((uh HW0).trans ((uh K1).trans (k2.mono (T:=[3,9]) (by simp))));clear k2))
 exact bodyPost_end (v:=.tuple #[]) (by simp [results,Try.results26,go_sem]) rfl ⟨rfl,uh K2⟩
end Go.Proofs.Ytikhopiegaoacac
