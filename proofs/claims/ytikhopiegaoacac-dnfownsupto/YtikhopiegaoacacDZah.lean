/- OverLits: it writes over a list of literals in a range of blocks, and nothing else. -/
import Derived.Test.YtikhopiegaoacacDZaf
import Derived.Test.YtikhopiegaoacacDDnfConj
import Derived.Test.YtikhopiegaoacacDDnfRows
import Derived.Deep.RegionHeld3
namespace Go.Proofs.Ytikhopiegaoacac
open Go.RowKit Go.Sort

/-- A list of literals in rows of the blocks from B up to B'. -/
structure LR (B B':Nat) (w:World) (q:Option Addr) (n c:Nat) (us:Nat→Lv):Prop where
  row:Raw 51 7 B B' w q n c
  cells:∀ g,q=some ⟨g,0,none⟩→∀ i c,i < n→c < 7→w.cell? ⟨g,i * 7 + c,none⟩=some ((encL (us i))[c]!)
  ints:∀ i,i < n→Raw 3 1 B B' w (us i).qi (us i).ni (us i).ci
  words:∀ i,i < n→Raw 9 1 B B' w (us i).qw (us i).nw (us i).cw
  small:∀ i,i < n→(us i).ni≤1000000000∧(us i).nw≤1000000000
def nwL:Array Value:=#[.int .i64 0,.string ⟨#[]⟩,.slice none 0 0,.slice none 0 0,.int .i64 0,.int .i64 0,.bool false,.int .i64 0,.string ⟨#[]⟩,.slice none 0 0,.slice none 0 0,.int .i64 0,.int .i64 0,.bool false]
set_option maxHeartbeats 8000000 in
set_option maxRecDepth 100000 in
theorem over_lits (B B':Nat) (q:Option Addr) (n c:Nat) (us:Nat→Lv) (w:World) (h:LR B B' w q n c us) (hB:B'≤w.heap.size) (hn:n≤1000000000) :
    Calls Try.prog 8 #[.slice q n c] w fun e w'=>e=.returned (.tuple #[])∧Wr [3,9,51] B B' w w':=by
  have mixed:Try.prog.follows .mixedOrders=true:=by kernel_rfl
  have HH:=hide h
  have HW:=hide (Wr.refl [3,9,51] B B' w)
  have HC:=hide h.cells
  have n0:(0:Int)≤(n:Int):=by omega
  have n9:(n:Int)≤1000000000:=by omega
  clear h
  go_enter Try.func8,Try.ntmps8
  go_wp2
  go_loopw [6] (fun i wr=>∃ k:Nat,k≤n∧i=.int .i64 k∧Hid (Wr [3,9,51] B B' w wr)∧Hid (∀ g,q=some ⟨g,0,none⟩→∀ i c,k≤i→i < n→c < 7→wr.cell? ⟨g,i * 7 + c,none⟩=some ((encL (us i))[c]!))) (fun i _=>n - (intOf i).toNat)
  case atStart=>exact ⟨0,by omega,rfl,HW,hide (fun g hg i c _ hi hc=>uh HC g hg i c hi hc)⟩
  case round =>
    clear HW HC
    obtain ⟨k,hk,rfl,Hw,Hc⟩:=hrel
    obtain ⟨wr,rfl⟩:∃ U,U=wr:=⟨_,rfl⟩
    by_cases hlt:k < n
    · have k0:(0:Int)≤(k:Int):=by omega
      have k1:(k:Int) < (n:Int):=by omega
      obtain ⟨g,hq,hB1,hB2,hat,hcell,ff⟩:=((uh HH).row.wr (uh Hw)).at (show 0 < n by omega)
      subst hq
      have he:=uh Hc g rfl k
      obtain ⟨u,hu⟩:∃ u,us k=u:=⟨_,rfl⟩
      have hp:=over_pred B B' wr ⟨u.kind,u.attr,u.qi,u.ni,u.ci,u.qw,u.nw,u.cw,u.lo,u.hi,0,none,0,0⟩ (hu ▸ ((uh HH).ints k hlt).wr (uh Hw)) (hu ▸ ((uh HH).words k hlt).wr (uh Hw)) (Nat.le_trans hB (uh Hw).size) (hu ▸ ((uh HH).small k hlt).1) (hu ▸ ((uh HH).small k hlt).2)
      simp only at hp
      have HP:=hide hp
      rw [hu] at he
      have he:=fun c hc=>he c (Nat.le_refl k) hlt hc
      have e0:wr.cell? ⟨g,k * 7,none⟩=some (.int .i64 u.kind):=he 0 (by omega)
      have e1:wr.cell? ⟨g,k * 7 + 1,none⟩=some (.string u.attr):=he 1 (by omega)
      have e2:wr.cell? ⟨g,k * 7 + 2,none⟩=some (.slice u.qi u.ni u.ci):=he 2 (by omega)
      have e3:wr.cell? ⟨g,k * 7 + 3,none⟩=some (.slice u.qw u.nw u.cw):=he 3 (by omega)
      have e4:wr.cell? ⟨g,k * 7 + 4,none⟩=some (.int .i64 u.lo):=he 4 (by omega)
      have e5:wr.cell? ⟨g,k * 7 + 5,none⟩=some (.int .i64 u.hi):=he 5 (by omega)
      have e6:wr.cell? ⟨g,k * 7 + 6,none⟩=some (.bool u.neg):=he 6 (by omega)
      have HAT:=hide hat
      have HF:=hide ff
      clear he hat hcell hu hp ff
      go_wp2_with (go_at_call 26;refine (uh HP).mono ?_;rintro e w1 ⟨rfl,k2⟩;have hb:w1.heap[g]? = wr.heap[g]?:=(by obtain ⟨cur,ha⟩:=uh HAT;obtain ⟨c',h1,_,h2⟩:=k2.shape g cur 51 ha;rw [h1,ha,h2 (by decide)]);have HW1:=hide ((uh Hw).trans (k2.mono (T:=[3,9,51]) (by simp)));have f1:=(World.cell?_of_block (a:=⟨g,k * 7 + 1,none⟩) hb).trans e1;have f6:=(World.cell?_of_block (a:=⟨g,k * 7 + 6,none⟩) hb).trans e6;have HA1:=hide (show At 51 g w1 from (by obtain ⟨cur,ha⟩:=uh HAT;exact ⟨cur,hb.trans ha⟩));have ff:∀ o,w1.frozen? ⟨g,o,none⟩=false:=(by obtain ⟨cur,ha⟩:=uh HA1;exact fun o=>frozen_free ha);have HBK:=hide hb;clear e0 e1 e2 e3 e4 e5 e6 k2 hb)
      exact ⟨⟨k + 1,by omega,congrArg (Value.int .i64) (by omega),hide (((uh HW1).set (uh HA1) (by simp) (Or.inl ⟨hB1,hB2⟩) _ _).set ((uh HA1).set _ _ _) (by simp) (Or.inl ⟨hB1,hB2⟩) _ _),hide (fun g' hg' i c hi1 hi2 hc=>by
        injection hg' with hg'
        injection hg' with hg'
        subst hg'
        rw [World.cell?_setCell_other _ _ _ _ (fun e=>by injection e with _ e;omega),World.cell?_setCell_other _ _ _ _ (fun e=>by injection e with _ e;omega),World.cell?_of_block (uh HBK)]
        exact uh Hc _ rfl i c (by omega) hi2 hc)⟩,by simp [intOf];omega⟩
    · obtain rfl:k=n:=by omega
      have m1:(k:Int) < (k:Int) + 2:=by omega
      have HRK:=hide ((uh HH).row.wr (uh Hw))
      go_wp2_with (at_builtin;refine wpList_raw rowL rfl _ _ rfl (B:=B) (B':=B') q k c ((uh HRK).wr (Wr.of_below [] 0 0 (Below.alloc (Below.refl _ _) (Nat.le_refl _) _))) ⟨wr.heap.size,0,none⟩ 2 2 nwL.toList rfl (World.news_of_block (heap_alloc_new wr _)) (by decide) (by decide) (k + 2) rfl rfl rfl (by unfold maxLen;omega) (by omega) ?_;intro g2 c2 w2 hw2 hc2 hg2 hm2 hel;have HW2:=hide (((uh Hw).alloc (.cells nwL 51)).trans (hw2.mono (T:=[3,9,51]) (by simp)));obtain ⟨cur2,hcur,hcs⟩:=hc2;have c0:w2.cell? ⟨g2,k * 7 + 6,none⟩=some (cur2[k * 7 + 6]'(by omega)):=(by rw [cell_of_row w2 g2 _ cur2 51 (0,0) hcur];exact Array.getElem?_eq_getElem (by omega));obtain ⟨vv,cc⟩:∃ v,w2.cell? ⟨g2,k * 7 + 6,none⟩=some v:=⟨_,c0⟩;have ff2:∀ o,w2.frozen? ⟨g2,o,none⟩=false:=(fun o=>frozen_free hcur);have HAT:=hide (show At 51 g2 w2 from ⟨cur2,hcur⟩);have HG2:=hide (show (B≤g2∧g2 < B') ∨ w.heap.size≤g2 from hg2.imp id (fun h=>Nat.le_trans ((uh Hw).alloc (.cells nwL 51)).size h));clear c0 hcur hcs hw2 hg2 hel)
      exact bodyPost_end (v:=.tuple #[]) (by simp [results,Try.results8,go_sem]) rfl ⟨rfl,(uh HW2).set (uh HAT) (by simp) (uh HG2) _ _⟩
end Go.Proofs.Ytikhopiegaoacac
namespace Go.Proofs.Ytikhopiegaoacac
open Go.RowKit Go.Sort

theorem raw_now {α:Type} [Inhabited α] {enc:α→List Value} {e:TypeId} {k B:Nat} {w:World} {q:Option Addr} {c:Nat} {l:List α} (h:OwnK enc e k B w q c l):Raw e k B w.heap.size w q l.length c:=h.raw (Nat.le_refl _) (Wr.refl [] 0 0 w)
theorem Raw.same {e:TypeId} {k B B':Nat} {w w':World} {q:Option Addr} {m c:Nat} (he:∀ b,B≤b→b < B'→w'.heap[b]? = w.heap[b]?) (h:Raw e k B B' w q m c):Raw e k B B' w' q m c:=by
  rcases h with h | ⟨g,cur,h1,h2,h3,h4,h5⟩
  · exact Or.inl h
  · exact Or.inr ⟨g,cur,h1,h2,h3,(he g h2 h3).trans h4,h5⟩
theorem LR.same {B B':Nat} {w w':World} {q:Option Addr} {n c:Nat} {us:Nat→Lv} (he:∀ b,B≤b→b < B'→w'.heap[b]? = w.heap[b]?) (h:LR B B' w q n c us):LR B B' w' q n c us :=
  ⟨Raw.same he h.row,fun g hq i c' hi hc=>by
    obtain ⟨g',hq',h1,h2,_⟩:=h.row.at (show 0 < n by omega)
    rw [hq] at hq'
    injection hq' with hq'
    injection hq' with hq'
    subst hq'
    exact (World.cell?_of_block (he g h1 h2)).trans (h.cells g hq i c' hi hc),fun i hi=>Raw.same he (h.ints i hi),fun i hi=>Raw.same he (h.words i hi),h.small⟩
theorem GrowL.lr {B:Nat} {w:World} {q:Option Addr} {c n:Nat} {ls:List Lt} (h:GrowL B w q c n ls) (hb:litBound ls):∃ us:Nat→Lv,LR B w.heap.size w q n c us:=by
  obtain ⟨h1,us,h2,h3,h4⟩:=h
  have hnow:=h4.now
  have hg:∀ i,i < n→∃ l,us[i]? = some (us.getD i ⟨0,⟨#[]⟩,none,0,0,none,0,0,0,0,false⟩)∧ls[i]? = some l∧l ∈ ls:=fun i hi=>by
    have hi':i < us.length:=by omega
    have hi2:i < ls.length:=by omega
    refine ⟨ls[i], ?_,List.getElem?_eq_getElem hi2,List.getElem_mem hi2⟩
    rw [List.getD_eq_getElem?_getD,List.getElem?_eq_getElem hi']
    rfl
  have hlit:∀ i,i < n→∃ l ∈ ls,LitFrom w B (us.getD i ⟨0,⟨#[]⟩,none,0,0,none,0,0,0,0,false⟩) l:=fun i hi=>by
    obtain ⟨l,k1,k2,k3⟩:=hg i hi
    exact ⟨l,k3,hnow i _ l k1 k2⟩
  refine ⟨fun i=>us.getD i ⟨0,⟨#[]⟩,none,0,0,none,0,0,0,0,false⟩,⟨h2 ▸ raw_now h3,fun g hq i c hi hc=>?_,fun i hi=>?_,fun i hi=>?_,fun i hi=>?_⟩⟩
  · obtain ⟨l,k1,_,_⟩:=hg i hi
    obtain ⟨b',off,hq2,_,hA⟩:=(h3.ls.2.2.2).at k1
    rw [hq] at hq2
    injection hq2 with hq2
    injection hq2 with e1 e2
    subst e1 e2
    have:=hA c hc
    rwa [Nat.zero_add] at this
  · obtain ⟨l,_,k2⟩:=hlit i hi
    obtain ⟨⟨_,_,a3,_⟩,o1,_⟩:=k2
    have:=raw_now o1
    rwa [← a3] at this
  · obtain ⟨l,_,k2⟩:=hlit i hi
    obtain ⟨⟨_,_,_,a4,_⟩,_,o2⟩:=k2
    have:=raw_now o2
    rwa [← a4] at this
  · obtain ⟨l,k0,k2⟩:=hlit i hi
    obtain ⟨⟨_,_,a3,a4,_⟩,_,_⟩:=k2
    have:=hb l k0
    constructor <;> omega
end Go.Proofs.Ytikhopiegaoacac
namespace Go.Proofs.Ytikhopiegaoacac
open Go.RowKit Go.Sort

theorem rowA (X:World) (cur:Array Value) {n:Nat} (b0 b1 b2 b3 b4 b5 b6 b7 b8 b9:Value) (sX:X.heap.size=n + 2):((X.alloc (.cells cur 62)).alloc (.cells #[b0,b1,b2,b3,b4,b5,b6,b7,b8,b9] 62)).drew.ownsRow (n + 2) 62 10 (.slice (some ⟨n + 2 + 1,0,none⟩) 1 1) 1 [b0,b1,b2,b3,b4,b5,b6,b7,b8,b9]:=by
  have h:=box_nw (X.alloc (.cells cur 62)) (.cells #[b0,b1,b2,b3,b4,b5,b6,b7,b8,b9] 62)
  rw [size_al,sX] at h
  exact row_below (rowOf10 h (by omega) rfl (by unfold maxLen;omega)) ((Below.refl _ _).drew)
theorem rowA2 (X:World) (cur:Array Value) {n m:Nat} (o:Obj) (sX:X.heap.size=n + 2) (hcs:cur.size=m * 10) (hm:m≤maxLen):((X.alloc (.cells cur 62)).alloc o).drew.ownsRow (n + 2) 62 10 (.slice (some ⟨n + 2,0,none⟩) m m) m cur.toList:=by
  have h:=box_nw X (.cells cur 62)
  rw [sX] at h
  exact row_below (rowOf10 h (by omega) hcs hm) (((Below.refl _ _).alloc (Nat.le_refl _) _).drew)
theorem rowB (X:World) (o:Obj) {n:Nat} (b0 b1 b2 b3 b4 b5 b6 b7 b8 b9:Value) (sX:X.heap.size=n + 2):((X.alloc (.cells #[b0,b1,b2,b3,b4,b5,b6,b7,b8,b9] 62)).alloc o).drew.ownsRow (n + 2) 62 10 (.slice (some ⟨n + 2,0,none⟩) 1 1) 1 [b0,b1,b2,b3,b4,b5,b6,b7,b8,b9]:=by
  have h:=box_nw X (.cells #[b0,b1,b2,b3,b4,b5,b6,b7,b8,b9] 62)
  rw [sX] at h
  exact row_below (rowOf10 h (by omega) rfl (by unfold maxLen;omega)) (((Below.refl _ _).alloc (Nat.le_refl _) _).drew)
theorem rowB2 (X:World) (cur:Array Value) {n m:Nat} (o:Obj) (sX:X.heap.size=n + 2) (hcs:cur.size=m * 10) (hm:m≤maxLen):((X.alloc o).alloc (.cells cur 62)).drew.ownsRow (n + 2) 62 10 (.slice (some ⟨n + 2 + 1,0,none⟩) m m) m cur.toList:=by
  have h:=box_nw (X.alloc o) (.cells cur 62)
  rw [size_al,sX] at h
  exact row_below (rowOf10 h (by omega) hcs hm) ((Below.refl _ _).drew)
theorem set10b {B g o:Nat} {a w:World} (h:Below B a w) (hg:B≤g) (a0 a1 a2 a3 a4 a5 a6 a7 a8 a9:Value):Below B a ((((((((((w.setCell ⟨g,o,none⟩ (a0)).setCell ⟨g,o + 1,none⟩ (a1)).setCell ⟨g,o + 2,none⟩ (a2)).setCell ⟨g,o + 3,none⟩ (a3)).setCell ⟨g,o + 4,none⟩ (a4)).setCell ⟨g,o + 5,none⟩ (a5)).setCell ⟨g,o + 6,none⟩ (a6)).setCell ⟨g,o + 7,none⟩ (a7)).setCell ⟨g,o + 8,none⟩ (a8)).setCell ⟨g,o + 9,none⟩ (a9)) :=
  ((((((((((h.setCell (p:=⟨g,o,none⟩) hg a0)).setCell (p:=⟨g,o + 1,none⟩) hg a1).setCell (p:=⟨g,o + 2,none⟩) hg a2).setCell (p:=⟨g,o + 3,none⟩) hg a3).setCell (p:=⟨g,o + 4,none⟩) hg a4).setCell (p:=⟨g,o + 5,none⟩) hg a5).setCell (p:=⟨g,o + 6,none⟩) hg a6).setCell (p:=⟨g,o + 7,none⟩) hg a7).setCell (p:=⟨g,o + 8,none⟩) hg a8).setCell (p:=⟨g,o + 9,none⟩) hg a9
theorem g10z (w:World) (g:Nat) (a0 a1 a2 a3 a4 a5 a6 a7 a8 a9:Value):w.grownBy ((((((((((w.setCell ⟨g,0,none⟩ (a0)).setCell ⟨g,1,none⟩ (a1)).setCell ⟨g,2,none⟩ (a2)).setCell ⟨g,3,none⟩ (a3)).setCell ⟨g,4,none⟩ (a4)).setCell ⟨g,5,none⟩ (a5)).setCell ⟨g,6,none⟩ (a6)).setCell ⟨g,7,none⟩ (a7)).setCell ⟨g,8,none⟩ (a8)).setCell ⟨g,9,none⟩ (a9)) (some g):=gset (gset (gset (gset (gset (gset (gset (gset (gset (gset (grefl w (some g)) _ _) _ _) _ _) _ _) _ _) _ _) _ _) _ _) _ _) _ _
theorem ags10z {A C:Nat} {w0 w:World} (h:Ags A C w0 w) {g:Nat} (h1:A≤g) (h2:g < C) (a0 a1 a2 a3 a4 a5 a6 a7 a8 a9:Value):Ags A C w0 ((((((((((w.setCell ⟨g,0,none⟩ (a0)).setCell ⟨g,1,none⟩ (a1)).setCell ⟨g,2,none⟩ (a2)).setCell ⟨g,3,none⟩ (a3)).setCell ⟨g,4,none⟩ (a4)).setCell ⟨g,5,none⟩ (a5)).setCell ⟨g,6,none⟩ (a6)).setCell ⟨g,7,none⟩ (a7)).setCell ⟨g,8,none⟩ (a8)).setCell ⟨g,9,none⟩ (a9)):=((((((((((h.set (p:=⟨g,0,none⟩) h1 h2 a0)).set (p:=⟨g,1,none⟩) h1 h2 a1).set (p:=⟨g,2,none⟩) h1 h2 a2).set (p:=⟨g,3,none⟩) h1 h2 a3).set (p:=⟨g,4,none⟩) h1 h2 a4).set (p:=⟨g,5,none⟩) h1 h2 a5).set (p:=⟨g,6,none⟩) h1 h2 a6).set (p:=⟨g,7,none⟩) h1 h2 a7).set (p:=⟨g,8,none⟩) h1 h2 a8).set (p:=⟨g,9,none⟩) h1 h2 a9
theorem snocS {kids:List Nd} {us:List Sv} {Q:Sv→Nd→Prop} {s:Sv} {x:Nd} {k:Nat} (hu:us.length=k) (hx:kids[k]? = some x) (h:∀ (j:Nat) (v:Sv) (x:Nd),us[j]? = some v→kids[j]? = some x→Q v x) (sp:Q s x):∀ (j:Nat) (y:Sv) (z:Nd),(us ++ [s])[j]? = some y→kids[j]? = some z→Q y z:=by
  intro j y z hj hz
  by_cases hjk:j < k
  · rw [List.getElem?_append_left (by omega)] at hj
    exact h j y z hj hz
  · have hj2:=(List.getElem?_eq_some_iff.1 hj).1
    rw [List.length_append,hu] at hj2
    obtain rfl:j=k:=by simp at hj2;omega
    rw [List.getElem?_append_right (by omega),hu,Nat.sub_self] at hj
    rw [hx] at hz
    cases hj
    cases hz
    exact sp
end Go.Proofs.Ytikhopiegaoacac
