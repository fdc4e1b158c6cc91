/- OverNode: it writes over a tree's rows, whoever shares them, and nothing else. -/
import Derived.Test.YtikhopiegaoacacDZaf
import Derived.Test.YtikhopiegaoacacDCloneTree
namespace Go.Proofs.Ytikhopiegaoacac
open Go.RowKit Go.Sort

/-- A tree's rows in the blocks from B up to B', whatever they hold and whoever shares them; of at most that many levels. -/
inductive RT (B B':Nat) (w:World):Nat→Nv→Prop
  | mk {h:Nat} {v:Nv} (us:Nat→Nv):Raw 3 1 B B' w v.qi v.ni v.ci→Raw 9 1 B B' w v.qw v.nw v.cw→Raw 28 8 B B' w v.qk v.nk v.ck→(v.ni≤1000000000∧v.nw≤1000000000∧v.nk≤1000000000) →
      (∀ g,v.qk=some ⟨g,0,none⟩→∀ i c,i < v.nk→c < 8→w.cell? ⟨g,i * 8 + c,none⟩=some ((encV (us i))[c]!))→(∀ i,i < v.nk→RT B B' w h (us i))→RT B B' w (h + 1) v
/-- The same rows. -/
def Sim (u u':Nv):Prop:=u'.qi=u.qi∧u'.ni=u.ni∧u'.ci=u.ci∧u'.qw=u.qw∧u'.nw=u.nw∧u'.cw=u.cw∧u'.qk=u.qk∧u'.nk=u.nk∧u'.ck=u.ck
/-- No rows. -/
def Emp (u:Nv):Prop:=(u.qi=none∧u.ni=0∧u.ci=0)∧(u.qw=none∧u.nw=0∧u.cw=0)∧(u.qk=none∧u.nk=0∧u.ck=0)
theorem RT.sim {B B':Nat} {w:World} {n:Nat} {u u':Nv} (h:RT B B' w n u) (s:Sim u u'):RT B B' w n u':=by
  obtain ⟨s1,s2,s3,s4,s5,s6,s7,s8,s9⟩:=s
  cases h with
  | mk us a b c d e f=>exact .mk us (by rw [s1,s2,s3];exact a) (by rw [s4,s5,s6];exact b) (by rw [s7,s8,s9];exact c) (by rw [s2,s5,s8];exact d) (by rw [s7,s8];exact e) (by rw [s8];exact f)
theorem RT.emp {B B':Nat} {w:World} (n:Nat) {u:Nv} (h:Emp u):RT B B' w (n + 1) u:=by
  obtain ⟨h1,h2,h3⟩:=h
  exact .mk (fun _=>u) (Or.inl h1) (Or.inl h2) (Or.inl h3) ⟨by omega,by omega,by omega⟩ (fun g _ i c hi _=>by omega) (fun i hi=>by omega)
/-- Whatever tree lies in rows of its type still does. -/
def Pse (w w':World):Prop:=∀ (C C' n:Nat) (u:Nv),RT C C' w n u→RT C C' w' n u
theorem Pse.trans {a b c:World} (h:Pse a b) (h2:Pse b c):Pse a c:=fun C C' n u k=>h2 C C' n u (h C C' n u k)
theorem Pse.of {S:List TypeId} {C C':Nat} {w w':World} (hw:Wr S C C' w w') (hel:∀ (g i:Nat) (u:Nv),At 28 g w→(∀ c,c < 8→w.cell? ⟨g,i * 8 + c,none⟩=some ((encV u)[c]!))→∃ u':Nv,(∀ c,c < 8→w'.cell? ⟨g,i * 8 + c,none⟩=some ((encV u')[c]!))∧(Sim u u' ∨ Emp u')):Pse w w':=by
  intro E E' n
  induction n with
  | zero=>intro u h;cases h
  | succ n ih =>
    intro v h
    cases h with
    | mk us a b c d e f =>
      by_cases hk:v.nk=0
      · exact .mk us (a.wr hw) (b.wr hw) (c.wr hw) d (fun g _ i c hi _=>by omega) (fun i hi=>by omega)
      · obtain ⟨g0,hq,_,_,hat,_⟩:=c.at (by omega)
        have key:∀ i,∃ u':Nv,i < v.nk→(∀ c,c < 8→w'.cell? ⟨g0,i * 8 + c,none⟩=some ((encV u')[c]!))∧RT E E' w' n u':=fun i=>by
          by_cases hi:i < v.nk
          · obtain ⟨u',h1,h2⟩:=hel g0 i (us i) hat (fun c hc=>e g0 hq i c hi hc)
            refine ⟨u',fun _=>⟨h1, ?_⟩⟩
            have hr:=f i hi
            rcases h2 with h2 | h2
            · exact (ih _ hr).sim h2
            · cases n with
              | zero=>cases hr
              | succ n=>exact RT.emp n h2
          · exact ⟨us i,fun h=>absurd h hi⟩
        refine .mk (fun i=>Classical.choose (key i)) (a.wr hw) (b.wr hw) (c.wr hw) d (fun g hg i c hi hc=>?_) (fun i hi=>(Classical.choose_spec (key i) hi).2)
        rw [hq] at hg
        injection hg with hg
        injection hg with hg
        subst hg
        exact (Classical.choose_spec (key i) hi).1 c hc
theorem Pse.wr {S:List TypeId} {C C':Nat} {w w':World} (hw:Wr S C C' w w') (hS:28 ∉ S):Pse w w':=by
  refine Pse.of hw fun g i u ha hc=>⟨u,fun c hl=>?_,Or.inl ⟨rfl,rfl,rfl,rfl,rfl,rfl,rfl,rfl,rfl⟩⟩
  obtain ⟨cur,ha⟩:=ha
  obtain ⟨c',h1,_,h2⟩:=hw.shape g cur 28 ha
  exact (World.cell?_of_block (by rw [h1,ha,h2 hS])).trans (hc c hl)
theorem Pse.setK {w:World} {g:Nat} (ha:At 28 g w) (m:Nat) (x:Int):Pse w (w.setCell ⟨g,m * 8 + 6,none⟩ (.int .i64 x)):=by
  refine Pse.of (Wr.set (Wr.refl [28] 0 (g + 1) w) ha (by simp) (Or.inl ⟨Nat.zero_le _,Nat.lt_succ_self _⟩) _ _) fun g' i u _ hc=>?_
  by_cases he:g'=g∧i=m
  · obtain ⟨rfl,rfl⟩:=he
    refine ⟨{ u with op:=x },fun c hl=>?_,Or.inl ⟨rfl,rfl,rfl,rfl,rfl,rfl,rfl,rfl,rfl⟩⟩
    by_cases h6:c=6
    · subst h6
      exact World.cell?_setCell_same _ _ _ (hc 6 hl)
    · rw [World.cell?_setCell_other _ _ _ _ (fun e=>by injection e with _ e;omega),hc c hl]
      have hm:c=0 ∨ c=1 ∨ c=2 ∨ c=3 ∨ c=4 ∨ c=5 ∨ c=6 ∨ c=7:=by omega
      rcases hm with rfl | rfl | rfl | rfl | rfl | rfl | rfl | rfl <;> first | rfl | exact absurd rfl h6
  · refine ⟨u,fun c hl=>?_,Or.inl ⟨rfl,rfl,rfl,rfl,rfl,rfl,rfl,rfl,rfl⟩⟩
    rw [World.cell?_setCell_other _ _ _ _ (fun e=>by
      injection e with e1 e2
      exact he ⟨e1.symm,by omega⟩)]
    exact hc c hl
theorem Pse.setA {w:World} {g:Nat} (ha:At 28 g w) (m:Nat) (x:ByteArray):Pse w (w.setCell ⟨g,m * 8 + 1,none⟩ (.string x)):=by
  refine Pse.of (Wr.set (Wr.refl [28] 0 (g + 1) w) ha (by simp) (Or.inl ⟨Nat.zero_le _,Nat.lt_succ_self _⟩) _ _) fun g' i u _ hc=>?_
  by_cases he:g'=g∧i=m
  · obtain ⟨rfl,rfl⟩:=he
    refine ⟨{ u with attr:=x },fun c hl=>?_,Or.inl ⟨rfl,rfl,rfl,rfl,rfl,rfl,rfl,rfl,rfl⟩⟩
    by_cases h6:c=1
    · subst h6
      exact World.cell?_setCell_same _ _ _ (hc 1 hl)
    · rw [World.cell?_setCell_other _ _ _ _ (fun e=>by injection e with _ e;omega),hc c hl]
      have hm:c=0 ∨ c=1 ∨ c=2 ∨ c=3 ∨ c=4 ∨ c=5 ∨ c=6 ∨ c=7:=by omega
      rcases hm with rfl | rfl | rfl | rfl | rfl | rfl | rfl | rfl <;> first | rfl | exact absurd rfl h6
  · refine ⟨u,fun c hl=>?_,Or.inl ⟨rfl,rfl,rfl,rfl,rfl,rfl,rfl,rfl,rfl⟩⟩
    rw [World.cell?_setCell_other _ _ _ _ (fun e=>by
      injection e with e1 e2
      exact he ⟨e1.symm,by omega⟩)]
    exact hc c hl
def nwV:Array Value:=#[.int .i64 0,.string ⟨#[]⟩,.slice none 0 0,.slice none 0 0,.int .i64 0,.int .i64 0,.int .i64 55,.slice none 0 0,.int .i64 0,.string ⟨#[]⟩,.slice none 0 0,.slice none 0 0,.int .i64 0,.int .i64 0,.int .i64 0,.slice none 0 0]
theorem Pse.app {C C':Nat} {w w':World} (hw:Wr [28] C C' w w') (hE:El 28 8 2 nwV.toList w w'):Pse w w':=by
  refine Pse.of hw fun g i u ha hc=>?_
  rcases hE g i ha with h | ⟨j,hj,h⟩
  · exact ⟨u,fun c hl=>(h c hl).trans (hc c hl),Or.inl ⟨rfl,rfl,rfl,rfl,rfl,rfl,rfl,rfl,rfl⟩⟩
  · obtain rfl | rfl:j=0 ∨ j=1:=by omega
    · refine ⟨⟨0,⟨#[]⟩,none,0,0,none,0,0,0,0,55,none,0,0⟩,fun c hl=>?_,Or.inr ⟨⟨rfl,rfl,rfl⟩,⟨rfl,rfl,rfl⟩,rfl,rfl,rfl⟩⟩
      rw [h c hl]
      have hm:c=0 ∨ c=1 ∨ c=2 ∨ c=3 ∨ c=4 ∨ c=5 ∨ c=6 ∨ c=7:=by omega
      rcases hm with rfl | rfl | rfl | rfl | rfl | rfl | rfl | rfl <;> rfl
    · refine ⟨⟨0,⟨#[]⟩,none,0,0,none,0,0,0,0,0,none,0,0⟩,fun c hl=>?_,Or.inr ⟨⟨rfl,rfl,rfl⟩,⟨rfl,rfl,rfl⟩,rfl,rfl,rfl⟩⟩
      rw [h c hl]
      have hm:c=0 ∨ c=1 ∨ c=2 ∨ c=3 ∨ c=4 ∨ c=5 ∨ c=6 ∨ c=7:=by omega
      rcases hm with rfl | rfl | rfl | rfl | rfl | rfl | rfl | rfl <;> rfl
set_option maxHeartbeats 8000000 in
set_option maxRecDepth 100000 in
theorem over_at (n:Nat) (ih:∀ (B B':Nat) (v:Nv) (w:World),RT B B' w n v→B'≤w.heap.size→Calls Try.prog 12 #[v.val] w fun e w'=>e=.returned (.tuple #[])∧Wr [3,9,28] B B' w w'∧Pse w w') (B B':Nat) (kind:Int) (attr:ByteArray) (qi:Option Addr) (ni ci:Nat) (qw:Option Addr) (nw cw:Nat) (lo hi op:Int) (qk:Option Addr) (nk ck:Nat) (w:World) (h:RT B B' w (n + 1) ⟨kind,attr,qi,ni,ci,qw,nw,cw,lo,hi,op,qk,nk,ck⟩) (hB:B'≤w.heap.size) :
    Calls Try.prog 12 #[.agg #[.int .i64 kind,.string attr,.slice qi ni ci,.slice qw nw cw,.int .i64 lo,.int .i64 hi,.int .i64 op,.slice qk nk ck]] w fun e w'=>e=.returned (.tuple #[])∧Wr [3,9,28] B B' w w'∧Pse w w':=by
  have mixed:Try.prog.follows .mixedOrders=true:=by kernel_rfl
  obtain ⟨X,HX⟩:∃ X,w.alloc (.cells #[.int .i64 kind,.string attr,.slice qi ni ci,.slice qw nw cw,.int .i64 lo,.int .i64 hi,.int .i64 op,.slice qk nk ck] 28)=X:=⟨_,rfl⟩
  have bX:Below w.heap.size w X:=by rw [← HX];exact (Below.refl _ _).alloc (Nat.le_refl _) _
  have hx:X.heap[w.heap.size]? = some (.cells #[.int .i64 kind,.string attr,.slice qi ni ci,.slice qw nw cw,.int .i64 lo,.int .i64 hi,.int .i64 op,.slice qk nk ck] 28 (0,0)):=by rw [← HX];exact box_nw w _
  have prX:Pse w X:=Pse.wr (Wr.of_below [] 0 0 bX) (by simp)
  have HPX:=hide prX
  have HRT:=hide (prX _ _ _ _ h)
  have hd:ni≤1000000000∧nw≤1000000000∧nk≤1000000000:=by cases h;assumption
  have HP:=hide (over_pred B B' X ⟨kind,attr,qi,ni,ci,qw,nw,cw,lo,hi,op,qk,nk,ck⟩ (by cases uh HRT;assumption) (by cases uh HRT;assumption) (Nat.le_trans hB bX.size) hd.1 hd.2.1)
  have HWX:=hide (Wr.of_below [3,9,28] B B' bX)
  have HXB:=hide hx
  have hBX:B'≤X.heap.size:=Nat.le_trans hB bX.size
  obtain ⟨b0,b1,b2,b3,b4,b5,b6,b7⟩:=of8' hx
  have n0:(0:Int)≤(nk:Int):=by omega
  have n9:(nk:Int)≤1000000000:=by omega
  have n8:nk≤1000000000:=hd.2.2
  clear h hd bX hx prX
  go_enter Try.func12,Try.ntmps12
  go_wp2_with (go_at_call 26;refine (uh HP).mono ?_;rintro e w1 ⟨rfl,k1⟩;have HW1:=hide (k1.mono (T:=[3,9,28]) (by simp));have HP1:=hide (Pse.wr k1 (by decide));clear b0 b1 b2 b3 b4 b5 b6 b7 k1;obtain ⟨b0,b1,b2,b3,b4,b5,b6,b7⟩:=of8' (((uh HW1).past w.heap.size (blk_lt (uh HXB)) (Or.inr hB)).trans (uh HXB)))
  clear b0 b1 b2 b3 b4 b5 b6 b7
  go_loopw [10] (fun i wr=>∃ k:Nat,k≤nk∧i=.int .i64 k∧Hid (Wr [3,9,28] B B' X wr)∧Hid (Pse X wr)) (fun i _=>nk - (intOf i).toNat)
  case atStart=>exact ⟨0,by omega,rfl,HW1,HP1⟩
  case round =>
    clear HW1 HP1
    obtain ⟨k,hk,rfl,Hw,Hp⟩:=hrel
    obtain ⟨b0,b1,b2,b3,b4,b5,b6,b7⟩:=of8' (((uh Hw).past w.heap.size (blk_lt (uh HXB)) (Or.inr hB)).trans (uh HXB))
    have hR:=(uh Hp) _ _ _ _ (uh HRT)
    by_cases hlt:k < nk
    · have k0:(0:Int)≤(k:Int):=by omega
      have k1:(k:Int) < (nk:Int):=by omega
      cases hR with
      | mk us a b c d e f =>
        obtain ⟨g,hq,hB1,hB2,hat,hcell,ff⟩:=c.at (show 0 < nk by omega)
        have hq:qk=some ⟨g,0,none⟩:=hq
        subst hq
        have he:=e g rfl k
        obtain ⟨u,hu⟩:∃ u,us k=u:=⟨_,rfl⟩
        have HU:=hide (hu ▸ f k hlt)
        rw [hu] at he
        have e0:wr.cell? ⟨g,k * 8,none⟩=some (.int .i64 u.kind):=he 0 hlt (by omega)
        have e1:wr.cell? ⟨g,k * 8 + 1,none⟩=some (.string u.attr):=he 1 hlt (by omega)
        have e2:wr.cell? ⟨g,k * 8 + 2,none⟩=some (.slice u.qi u.ni u.ci):=he 2 hlt (by omega)
        have e3:wr.cell? ⟨g,k * 8 + 3,none⟩=some (.slice u.qw u.nw u.cw):=he 3 hlt (by omega)
        have e4:wr.cell? ⟨g,k * 8 + 4,none⟩=some (.int .i64 u.lo):=he 4 hlt (by omega)
        have e5:wr.cell? ⟨g,k * 8 + 5,none⟩=some (.int .i64 u.hi):=he 5 hlt (by omega)
        have e6:wr.cell? ⟨g,k * 8 + 6,none⟩=some (.int .i64 u.op):=he 6 hlt (by omega)
        have e7:wr.cell? ⟨g,k * 8 + 7,none⟩=some (.slice u.qk u.nk u.ck):=he 7 hlt (by omega)
        clear a b c d e f he hat hcell hu
        go_wp2_with (go_at_call 12;refine (ih B B' u _ (uh HU) (Nat.le_trans hBX (uh Hw).size)).mono ?_;rintro e w1 ⟨rfl,k2,p2⟩;have HW1:=hide ((uh Hw).trans k2);have HP1:=hide ((uh Hp).trans p2);clear b0 b1 b2 b3 b4 b5 b6 b7 e0 e1 e2 e3 e4 e5 e6 e7 ff k2 p2;obtain ⟨b0,b1,b2,b3,b4,b5,b6,b7⟩:=of8' (((uh HW1).past w.heap.size (blk_lt (uh HXB)) (Or.inr hB)).trans (uh HXB));have hR1:=(uh HP1) _ _ _ _ (uh HRT);obtain ⟨_,qg,_,_,hat,hcell,ff⟩:=(show Raw 28 8 B B' w1 (some ⟨g,0,none⟩) nk ck from (by cases hR1;assumption)).at (show 0 < nk by omega);injection qg with qg;injection qg with qg;subst qg;obtain ⟨v6,f6⟩:=hcell (k * 8 + 6) (by omega);obtain ⟨v1,f1⟩:=hcell (k * 8 + 1) (by omega);have HAT:=hide hat;clear hcell hat hR1)
        exact ⟨⟨k + 1,by omega,congrArg (Value.int .i64) (by omega),hide (((uh HW1).set (uh HAT) (by simp) (Or.inl ⟨hB1,hB2⟩) _ _).set ((uh HAT).set _ _ _) (by simp) (Or.inl ⟨hB1,hB2⟩) _ _),hide ((uh HP1).trans ((Pse.setK (uh HAT) k 99).trans (Pse.setA ((uh HAT).set _ _ _) k ⟨#[111,118,101,114]⟩)))⟩,by simp [intOf];omega⟩
    · obtain rfl:k=nk:=by omega
      have m1:(k:Int) < (k:Int) + 2:=by omega
      have HRK:=hide (show Raw 28 8 B B' wr qk k ck from (by cases hR;assumption))
      clear hR
      go_wp2_with (at_builtin;refine wpList_raw rowV rfl _ _ rfl (B:=B) (B':=B') qk k ck ((uh HRK).wr (Wr.of_below [] 0 0 (Below.alloc (Below.refl _ _) (Nat.le_refl _) _))) ⟨wr.heap.size,0,none⟩ 2 2 nwV.toList rfl (World.news_of_block (heap_alloc_new wr _)) (by decide) (by decide) (k + 2) rfl rfl rfl (by unfold maxLen;omega) (by omega) ?_;intro g2 c2 w2 hw2 hc2 hg2 hm2 hel;have HW2:=hide (((uh Hw).alloc (.cells nwV 28)).trans (hw2.mono (T:=[3,9,28]) (by simp)));have HP2:=hide (((uh Hp).trans (Pse.wr (Wr.of_below [] 0 0 (Below.alloc (Below.refl _ _) (Nat.le_refl _) _)) (by simp))).trans (Pse.app hw2 hel));obtain ⟨cur2,hcur,hcs⟩:=hc2;have c0:w2.cell? ⟨g2,k * 8 + 6,none⟩=some (cur2[k * 8 + 6]'(by omega)):=(by rw [cell_of_row w2 g2 _ cur2 28 (0,0) hcur];exact Array.getElem?_eq_getElem (by omega));obtain ⟨vv,cc⟩:∃ v,w2.cell? ⟨g2,k * 8 + 6,none⟩=some v:=⟨_,c0⟩;have ff2:∀ o,w2.frozen? ⟨g2,o,none⟩=false:=(fun o=>frozen_free hcur);have HAT:=hide (show At 28 g2 w2 from ⟨cur2,hcur⟩);have HG2:=hide (show (B≤g2∧g2 < B') ∨ X.heap.size≤g2 from hg2.imp id (fun h=>Nat.le_trans ((uh Hw).alloc (.cells nwV 28)).size h));clear b0 b1 b2 b3 b4 b5 b6 b7 c0 hcur hcs hw2 hg2 hel;obtain ⟨b0,b1,b2,b3,b4,b5,b6,b7⟩:=of8' (((uh HW2).past w.heap.size (blk_lt (uh HXB)) (Or.inr hB)).trans (uh HXB)))
      exact bodyPost_end (v:=.tuple #[]) (by simp [results,Try.results12,go_sem]) rfl ⟨rfl,(uh HWX).trans ((uh HW2).set (uh HAT) (by simp) (uh HG2) _ _),(uh HPX).trans ((uh HP2).trans (Pse.setK (uh HAT) k 56))⟩
theorem over_node:∀ (n B B':Nat) (v:Nv) (w:World),RT B B' w n v→B'≤w.heap.size→Calls Try.prog 12 #[v.val] w fun e w'=>e=.returned (.tuple #[])∧Wr [3,9,28] B B' w w'∧Pse w w':=by
  intro n
  induction n with
  | zero=>intro B B' v w h;cases h
  | succ n ih =>
    intro B B' v w h hB
    obtain ⟨kind,attr,qi,ni,ci,qw,nw,cw,lo,hi,op,qk,nk,ck⟩:=v
    exact over_at n ih B B' kind attr qi ni ci qw nw cw lo hi op qk nk ck w h hB
end Go.Proofs.Ytikhopiegaoacac
