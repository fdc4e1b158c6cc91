/- OverInts, OverWords, OverPred: they write over rows, and nothing else. -/
import Derived.Test.YtikhopiegaoacaaDoorTOvR
namespace Go.Proofs.YtikhopiegaoacaaDoor
open Go.RowKit Go.Sort

def nwI:Array Value:=#[.int .i64 (-5),.int .i64 (-6)]
set_option maxHeartbeats 4000000 in
set_option maxRecDepth 100000 in
theorem over_46 (B B':Nat) (q:Option Addr) (n c:Nat) (w:World) (hl:n≤1000000000) (hR:Raw 3 1 B B' w q n c) :
  Calls Tryd.prog 46 #[.slice q n c] w fun e w'=>e=.returned (.tuple #[])∧Wr [3] B B' w w':=by
 have mixed:Tryd.prog.follows .mixedOrders=true:=by kernel_rfl
 have HR:=hide hR
 have n0:(0:Int)≤(n:Int):=by omega
 have n9:(n:Int)≤1000000000:=by omega
 clear hR
 go_enter Tryd.func46,Tryd.ntmps46
 go_wp2
 go_loopw [6] (fun i wr=>∃ k:Nat,k≤n∧i=.int .i64 k∧Hid (Wr [3] B B' w wr)) (fun i _=>n - (intOf i).toNat)
 case atStart=>exact ⟨0,by omega,rfl,hide (Wr.refl _ _ _ _)⟩
 case round =>
  obtain ⟨k,hk,rfl,Hwr⟩:=hrel
  have Hrow:=hide ((uh HR).wr (uh Hwr))
  by_cases hlt:k < n
  ·have k0:(0:Int)≤(k:Int):=by omega
   have k1:(k:Int) < (n:Int):=by omega
   obtain ⟨g,rfl,hB,hB2,hat,hcell,ff⟩:=(uh Hrow).at (by omega)
   obtain ⟨v0,e0⟩:=hcell (k) (by omega)
   have HAT:=hide hat
   clear hcell hat
   go_wp2
   exact ⟨⟨k + 1,by omega,congrArg (Value.int .i64) (by omega),hide ((uh Hwr).set (uh HAT) (by simp) (Or.inl ⟨hB,hB2⟩) _ _)⟩,by simp [intOf];omega⟩
  ·obtain rfl:k=n:=by omega
   have m1:(k:Int) < (k:Int) + 2:=by omega
   go_wp2_with (at_builtin;refine wpList_raw rowI rfl _ _ rfl (B:=B) (B':=B') q k c ((uh Hrow).wr (Wr.of_below [] 0 0 (Below.alloc (Below.refl _ _) (Nat.le_refl _) _))) ⟨wr.heap.size,0,none⟩ 2 2 nwI.toList rfl (World.news_of_block (heap_alloc_new wr _)) (by decide) (by decide) (k + 2) rfl rfl rfl (by unfold maxLen;omega) (by omega) ?_;intro g2 c2 w2 hw2 hc2 hg2 hm2 _;have HW2:=hide hw2;obtain ⟨cur2,hcur,hcs⟩:=hc2;have c0:w2.cell? ⟨g2,k,none⟩=some (cur2[k]'(by omega)):=(by rw [cell_of_row w2 g2 _ cur2 3 (0,0) hcur];exact Array.getElem?_eq_getElem (by omega));obtain ⟨vv,cc⟩:∃ v,w2.cell? ⟨g2,k,none⟩=some v:=⟨_,c0⟩;have ff2:∀ o,w2.frozen? ⟨g2,o,none⟩=false:=(fun o=>frozen_free hcur);have HAT:=hide (show At 3 g2 w2 from ⟨cur2,hcur⟩);have HG2:=hide hg2;clear c0 hcur hcs hw2 hg2)
   have Hend:Hid (Wr [3] B B' w (w2.setCell ⟨g2,k,none⟩ (.int .i64 (-7)))):=hide (by
    have h1:Wr [3] B B' w (wr.alloc (.cells nwI 3)):=(uh Hwr).alloc _
    refine (h1.trans (uh HW2)).set (uh HAT) (by simp) ?_ _ _
    rcases uh HG2 with h | h
    ·exact Or.inl h
    ·exact Or.inr (Nat.le_trans h1.size h))
   go_wp2
   exact bodyPost_end (v:=.tuple #[]) (by simp [results,Tryd.results46,go_sem]) rfl ⟨rfl,uh Hend⟩
def nwS:Array Value:=#[.string ⟨#[103,114,111,119,110]⟩,.string ⟨#[109,111,114,101]⟩]
set_option maxHeartbeats 4000000 in
set_option maxRecDepth 100000 in
theorem over_47 (B B':Nat) (q:Option Addr) (n c:Nat) (w:World) (hl:n≤1000000000) (hR:Raw 9 1 B B' w q n c) :
  Calls Tryd.prog 47 #[.slice q n c] w fun e w'=>e=.returned (.tuple #[])∧Wr [9] B B' w w':=by
 have mixed:Tryd.prog.follows .mixedOrders=true:=by kernel_rfl
 have HR:=hide hR
 have n0:(0:Int)≤(n:Int):=by omega
 have n9:(n:Int)≤1000000000:=by omega
 clear hR
 go_enter Tryd.func47,Tryd.ntmps47
 go_wp2
 go_loopw [6] (fun i wr=>∃ k:Nat,k≤n∧i=.int .i64 k∧Hid (Wr [9] B B' w wr)) (fun i _=>n - (intOf i).toNat)
 case atStart=>exact ⟨0,by omega,rfl,hide (Wr.refl _ _ _ _)⟩
 case round =>
  obtain ⟨k,hk,rfl,Hwr⟩:=hrel
  have Hrow:=hide ((uh HR).wr (uh Hwr))
  by_cases hlt:k < n
  ·have k0:(0:Int)≤(k:Int):=by omega
   have k1:(k:Int) < (n:Int):=by omega
   obtain ⟨g,rfl,hB,hB2,hat,hcell,ff⟩:=(uh Hrow).at (by omega)
   obtain ⟨v0,e0⟩:=hcell (k) (by omega)
   have HAT:=hide hat
   clear hcell hat
   go_wp2
   exact ⟨⟨k + 1,by omega,congrArg (Value.int .i64) (by omega),hide ((uh Hwr).set (uh HAT) (by simp) (Or.inl ⟨hB,hB2⟩) _ _)⟩,by simp [intOf];omega⟩
  ·obtain rfl:k=n:=by omega
   have m1:(k:Int) < (k:Int) + 2:=by omega
   go_wp2_with (at_builtin;refine wpList_raw rowS rfl _ _ rfl (B:=B) (B':=B') q k c ((uh Hrow).wr (Wr.of_below [] 0 0 (Below.alloc (Below.refl _ _) (Nat.le_refl _) _))) ⟨wr.heap.size,0,none⟩ 2 2 nwS.toList rfl (World.news_of_block (heap_alloc_new wr _)) (by decide) (by decide) (k + 2) rfl rfl rfl (by unfold maxLen;omega) (by omega) ?_;intro g2 c2 w2 hw2 hc2 hg2 hm2 _;have HW2:=hide hw2;obtain ⟨cur2,hcur,hcs⟩:=hc2;have c0:w2.cell? ⟨g2,k,none⟩=some (cur2[k]'(by omega)):=(by rw [cell_of_row w2 g2 _ cur2 9 (0,0) hcur];exact Array.getElem?_eq_getElem (by omega));obtain ⟨vv,cc⟩:∃ v,w2.cell? ⟨g2,k,none⟩=some v:=⟨_,c0⟩;have ff2:∀ o,w2.frozen? ⟨g2,o,none⟩=false:=(fun o=>frozen_free hcur);have HAT:=hide (show At 9 g2 w2 from ⟨cur2,hcur⟩);have HG2:=hide hg2;clear c0 hcur hcs hw2 hg2)
   have Hend:Hid (Wr [9] B B' w (w2.setCell ⟨g2,k,none⟩ (.string ⟨#[103,114,111,119,110,32,115,116,105,108,108]⟩))):=hide (by
    have h1:Wr [9] B B' w (wr.alloc (.cells nwS 9)):=(uh Hwr).alloc _
    refine (h1.trans (uh HW2)).set (uh HAT) (by simp) ?_ _ _
    rcases uh HG2 with h | h
    ·exact Or.inl h
    ·exact Or.inr (Nat.le_trans h1.size h))
   go_wp2
   exact bodyPost_end (v:=.tuple #[]) (by simp [results,Tryd.results47,go_sem]) rfl ⟨rfl,uh Hend⟩
set_option maxHeartbeats 4000000 in
set_option maxRecDepth 100000 in
theorem over_pred (B B':Nat) (w:World) (v:Nv) (h1:Raw 3 1 B B' w v.qi v.ni v.ci) (h2:Raw 9 1 B B' w v.qw v.nw v.cw) (hB:B'≤w.heap.size) (l1:v.ni≤1000000000) (l2:v.nw≤1000000000) :
  Calls Tryd.prog 25 #[.agg #[.int .i64 v.kind,.string v.attr,.slice v.qi v.ni v.ci,.slice v.qw v.nw v.cw,.int .i64 v.lo,.int .i64 v.hi]] w fun e w'=>e=.returned (.tuple #[])∧Wr [3,9] B B' w w':=by
 obtain ⟨X,HX⟩:∃ X,w.alloc (.cells #[.int .i64 v.kind,.string v.attr,.slice v.qi v.ni v.ci,.slice v.qw v.nw v.cw,.int .i64 v.lo,.int .i64 v.hi] 27)=X:=⟨_,rfl⟩
 have bX:Below w.heap.size w X:=by rw [← HX];exact (Below.refl _ _).alloc (Nat.le_refl _) _
 have hx:X.heap[w.heap.size]? = some (.cells #[.int .i64 v.kind,.string v.attr,.slice v.qi v.ni v.ci,.slice v.qw v.nw v.cw,.int .i64 v.lo,.int .i64 v.hi] 27 (0,0)):=by rw [← HX];exact (by simp [World.alloc,-World.alloc_eq])
 have x2:X.cell? ⟨w.heap.size,2,none⟩=some (.slice v.qi v.ni v.ci):=by unfold World.cell?;simp [hx]
 have x3:X.cell? ⟨w.heap.size,3,none⟩=some (.slice v.qw v.nw v.cw):=by unfold World.cell?;simp [hx]
 have hw0:=Wr.of_below [3,9] B B' bX
 have H1:=hide (over_46 B B' v.qi v.ni v.ci X l1 (h1.wr hw0))
 have H2:=hide (fun W (hW:Wr [3,9] B B' X W)=>over_47 B B' v.qw v.nw v.cw W l2 ((h2.wr hw0).wr hW))
 have HW0:=hide hw0
 have HXB:=hide hx
 clear hw0 h1 h2 bX hx
 go_enter Tryd.func25,Tryd.ntmps25
 go_wp2_with (first
  | (go_at_call 46;refine (uh H1).mono ?_;rintro e w1 ⟨rfl,k1⟩;have K1:=hide (k1.mono (T:=[3,9]) (by simp));have y3:w1.cell? ⟨w.heap.size,3,none⟩=some (.slice v.qw v.nw v.cw):=(World.cell?_of_block (k1.past _ (blk_lt (uh HXB)) (Or.inr hB))).trans x3;clear x2 x3 k1)
  | (go_at_call 47;refine (uh H2 _ (uh K1)).mono ?_;rintro e w2 ⟨rfl,k2⟩;have K2:=hide ((uh HW0).trans ((uh K1).trans (k2.mono (T:=[3,9]) (by simp))));clear k2))
 exact bodyPost_end (v:=.tuple #[]) (by simp [results,Tryd.results25,go_sem]) rfl ⟨rfl,uh K2⟩
end Go.Proofs.YtikhopiegaoacaaDoor
