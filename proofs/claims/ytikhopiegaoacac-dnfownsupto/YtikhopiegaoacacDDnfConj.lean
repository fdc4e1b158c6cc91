/- dnf's conj of a leaf: a copy of its literal behind the list. -/
import Derived.Test.YtikhopiegaoacacDDnfSpread
import Derived.Test.YtikhopiegaoacacDGrow
import Derived.Test.YtikhopiegaoacacDPushLit
import Derived.Deep.RegionHeld3
namespace Go.Proofs.Ytikhopiegaoacac
open Go.RowKit Go.Sort

theorem Try.info51:(Try.prog.info? 51).map (fun i=>(i.zero,i.size,i.bytes))=some (some (.agg #[.int .i64 0,.string ⟨#[]⟩,.slice none 0 0,.slice none 0 0,.int .i64 0,.int .i64 0,.bool false]),7,96):=by kernel_rfl
theorem rowL:RowOf encL 37 51 7 96 where
 und:=Try.underlying37
 info:=by
  obtain ⟨i0,hi,hz0,hz1,hz2⟩:=info_parts Try.info51
  exact ⟨i0,_,hi,hz0,hz1,hz2,rfl⟩
 pos:=by decide
 one:=one_flat (fun x c hc=>by
  have hm:c=0 ∨ c=1 ∨ c=2 ∨ c=3 ∨ c=4 ∨ c=5 ∨ c=6:=by omega
  rcases hm with e | e | e | e | e | e | e <;> rw [e] <;> rfl) (by decide)
/-- A literal in memory, its lists in rows of its own, in blocks from B on. -/
def LitFrom (w:World) (B:Nat) (u:Lv) (l:Lt):Prop:=LitIn w u l∧OwnK encI 3 1 B w u.qi u.ci l.ints∧OwnK encS 9 1 B w u.qw u.cw l.words
theorem LitFrom.up {w w':World} {B:Nat} {u:Lv} {l:Lt} (h:LitFrom w B u l) (hu:SameUp B w w'):LitFrom w' B u l:=by
 obtain ⟨⟨h1,h2,h3,h4,h5,h6,h7,_,_⟩,f1,f2⟩:=h
 have g1:=f1.upF f1.from hu.2
 have g2:=f2.upF f2.from hu.2
 exact ⟨⟨h1,h2,h3,h4,h5,h6,h7,g1.ls,g2.ls⟩,g1,g2⟩
theorem LitFrom.mono {w:World} {B B':Nat} {u:Lv} {l:Lt} (h:LitFrom w B u l) (hb:B'≤B):LitFrom w B' u l:=⟨h.1,h.2.1.mono hb,h.2.2.mono hb⟩
theorem litFrom_of {w1 w2 V:World} {B:Nat} {kind lo hi:Int} {attr:ByteArray} {neg:Bool} {ints:List Int} {words:List ByteArray} {q1 q2:Option Addr} {k1 k2 B1:Nat} (o1:OwnK encI 3 1 B1 w1 q1 k1 ints) (hB:B≤B1) (o2:OwnK encS 9 1 w1.heap.size w2 q2 k2 words) (b2:Below w1.heap.size w1 w2) (hB2:B≤w1.heap.size) (u:SameUp B w2 V) :
  LitFrom V B ⟨kind,attr,q1,ints.length,k1,q2,words.length,k2,lo,hi,neg⟩ ⟨kind,attr,ints,words,lo,hi,neg⟩:=by
 have f1:∀ a,q1=some a→B≤a.block:=fun a e=>Nat.le_trans hB (o1.from a e)
 have f2:∀ a,q2=some a→B≤a.block:=fun a e=>Nat.le_trans hB2 (o2.from a e)
 have g1:=o1.upF f1 ((SameUp.of b2).trans u).2
 have g2:=o2.upF f2 u.2
 exact ⟨⟨rfl,rfl,rfl,rfl,rfl,rfl,rfl,g1.ls,g2.ls⟩,g1,g2⟩
theorem lit_src {W:World} {M:Nat} (u:Lv) (hM:W.heap.size=M):SrcK encL 7 (W.alloc (.cells #[.int .i64 u.kind,.string u.attr,.slice u.qi u.ni u.ci,.slice u.qw u.nw u.cw,.int .i64 u.lo,.int .i64 u.hi,.bool u.neg] 51)) (some ⟨M,0,none⟩) 1 [u]:=by
 subst hM
 have hb:=box_nw W (.cells #[.int .i64 u.kind,.string u.attr,.slice u.qi u.ni u.ci,.slice u.qw u.nw u.cw,.int .i64 u.lo,.int .i64 u.hi,.bool u.neg] 51)
 obtain ⟨c0,c1,c2,c3,c4,c5,c6⟩:=of7' hb
 refine LsOf.src (fun h=>by cases h) (LsOf.one (by rw [size_al];omega) fun c hc=>?_)
 have hm:c=0 ∨ c=1 ∨ c=2 ∨ c=3 ∨ c=4 ∨ c=5 ∨ c=6:=by omega
 rcases hm with e | e | e | e | e | e | e <;> subst e <;> assumption
theorem conj_end {w w9:World} {W:World} {q q9:Option Addr} {c c9 n B:Nat} {us:List Lv} {u:Lv} {l:Lt} {o:Obj} (hn:us.length=n) (ho:OwnK encL 51 7 B w q c us) (bv:Below w.heap.size w W) (s2:w.heap.size + 2≤W.heap.size) (lf:LitFrom W (w.heap.size + 2) u l)
  (ho9:OwnK encL 51 7 B w9 q9 c9 (us ++ [u])) (hb9:Below B (W.alloc o) w9) (hg9:(W.alloc o).grownBy w9 (Value.slice q n c).ownBlock) (hor9:(Value.slice q9 (n + 1) c9).ownBlock=(Value.slice q n c).ownBlock ∨ (Value.slice q9 (n + 1) c9).ownBlock=some (W.alloc o).heap.size) (hB:B≤w.heap.size) :
  ∃ q' c' v,Ending.returned (.slice q9 (n + 1) c9)=.returned (.slice q' (n + 1:Nat) c')∧OwnK encL 51 7 B w9 q' c' (us ++ [v])∧OffP B (fun x=>LitFrom x B v l) (Value.slice q' (n + 1) c').ownBlock w9∧(∀ P:World→Prop,OffP B P (Value.slice q n c).ownBlock w→OffP B P (Value.slice q' (n + 1) c').ownBlock w9)∧Below B w w9:=by
 subst hn
 have hlt:∀ b,(Value.slice q us.length c).ownBlock=some b→b < w.heap.size:=fun b e=>(World.ownsRow.lt ho b e).2
 have bA:Below w.heap.size w (W.alloc o):=bv.alloc (by omega) o
 have hL:OffP B (fun x=>LitFrom x B u l) (Value.slice q us.length c).ownBlock W:=fun x hs hc=>(lf.up ⟨hs,fun b hb hlt2=>hc b (by omega) hlt2 fun e=>by have:=hlt b e.symm;omega⟩).mono (by omega)
 exact ⟨q9,c9,u,rfl,ho9,(hL.below ((Below.refl _ _).alloc (Nat.le_refl _) o)).step hg9 hor9,fun P hP=>(hP.below bA).step hg9 hor9,(bA.mono hB).trans hb9⟩
set_option maxRecDepth 100000 in
set_option maxHeartbeats 8000000 in
theorem conj_leaf (kind:Int) (attr:ByteArray) (qi:Option Addr) (ci:Nat) (ints:List Int) (qw:Option Addr) (cw:Nat) (words:List ByteArray) (lo hi:Int) (neg:Bool) (width:Int) (qk:Option Addr) (nk ck:Nat) (place:Int) (q:Option Addr) (c n B:Nat) (us:List Lv) (w:World) (h1:SlOf encI 1 w qi ci ints) (h2:SlOf encS 1 w qw cw words) (l1:ints.length≤1000000000) (l2:words.length≤1000000000) (ho:OwnK encL 51 7 B w q c us) (hn:us.length=n) (hB:B≤w.heap.size) (ln:n≤1000000000) :
  Calls Try.prog 24 #[.agg #[.int .i64 kind,.string attr,.slice qi ints.length ci,.slice qw words.length cw,.int .i64 lo,.int .i64 hi,.bool neg,.int .i64 1,.int .i64 width,.slice qk nk ck],.int .i64 place,.slice q n c] w fun e w'=>∃ q' c' u,e=.returned (.slice q' (n + 1:Nat) c')∧OwnK encL 51 7 B w' q' c' (us ++ [u])∧OffP B (fun x=>LitFrom x B u ⟨kind,attr,ints,words,lo,hi,neg⟩) (Value.slice q' (n + 1) c').ownBlock w'∧(∀ P:World→Prop,OffP B P (Value.slice q n c).ownBlock w→OffP B P (Value.slice q' (n + 1) c').ownBlock w')∧Below B w w':=by
 obtain ⟨X,HX⟩:∃ X,(w.alloc (.cells #[.int .i64 kind,.string attr,.slice qi ints.length ci,.slice qw words.length cw,.int .i64 lo,.int .i64 hi,.bool neg,.int .i64 1,.int .i64 width,.slice qk nk ck] 62)).alloc (.cells #[.int .i64 kind,.string attr,.slice qi ints.length ci,.slice qw words.length cw,.int .i64 lo,.int .i64 hi,.bool neg] 51)=X:=⟨_,rfl⟩
 obtain ⟨hX0,hX1,hwX,hXs⟩:=twoM HX
 obtain ⟨y0,y1,y2,y3,y4,y5,y6⟩:=of7' hX1
 have yf:∀ o,X.frozen? ⟨w.heap.size + 1,o,none⟩=false:=fun o=>frozen_free hX1
 have hC1:=fun (W:World) (hW:Below X.heap.size X W)=>cloneI qi ci ints W ((h1.below hwX).below hW) (by omega)
 have hC2:=fun (W:World) (hW:Below X.heap.size X W)=>cloneS qw cw words W ((h2.below hwX).below hW) (by omega)
 have HWX:=hide hwX
 have mixed:Try.prog.follows .mixedOrders=true:=by kernel_rfl
 have HO:=hide ho
 have HN:=hide hn
 clear h1 h2 ho hn hwX hX0 hX1
 go_enter Try.func24,Try.ntmps24
 go_wp2

 refine wp_region_held_drew (S:=fun w'=>True) (by kernel_rfl) (trivial) (fun hHeld=>?_)
 refine wpAnyH_take (i:=0) (oi:=⟨some 24,.fieldAddr 51 (.tmp 7) 0,_,_,_,none⟩) (v:=?_) rfl (by kernel_rfl) (by kernel_rfl) (by kernel_rfl) (fun _ _ _ h=>h) (Or.inl ⟨by rfl, ?_⟩) (by assumption) ?_
 rotate_left
 ·intro wq hSw
  go_simp
  with_reducible rfl
 simp only [Act.put,List.setIfInBounds_toArray,List.set_cons_zero,List.set_cons_succ]
 refine wpAnyH_take (i:=1) (oi:=⟨some 25,.fieldAddr 25 (.tmp 24) 2,_,_,_,none⟩) (v:=?_) rfl (by kernel_rfl) (by kernel_rfl) (by kernel_rfl) (fun _ _ _ h=>h) (Or.inl ⟨by rfl, ?_⟩) (by assumption) ?_
 rotate_left
 ·intro wq hSw
  go_simp
  with_reducible rfl
 simp only [Act.put,List.setIfInBounds_toArray,List.set_cons_zero,List.set_cons_succ]
 refine wpAnyH_take (i:=4) (oi:=⟨some 28,.fieldAddr 51 (.tmp 7) 0,_,_,_,none⟩) (v:=?_) rfl (by kernel_rfl) (by kernel_rfl) (by kernel_rfl) (fun _ _ _ h=>h) (Or.inl ⟨by rfl, ?_⟩) (by assumption) ?_
 rotate_left
 ·intro wq hSw
  go_simp
  with_reducible rfl
 simp only [Act.put,List.setIfInBounds_toArray,List.set_cons_zero,List.set_cons_succ]
 refine wpAnyH_take (i:=5) (oi:=⟨some 29,.fieldAddr 25 (.tmp 28) 3,_,_,_,none⟩) (v:=?_) rfl (by kernel_rfl) (by kernel_rfl) (by kernel_rfl) (fun _ _ _ h=>h) (Or.inl ⟨by rfl, ?_⟩) (by assumption) ?_
 rotate_left
 ·intro wq hSw
  go_simp
  with_reducible rfl
 simp only [Act.put,List.setIfInBounds_toArray,List.set_cons_zero,List.set_cons_succ]
 refine wpAnyH_ready (rs:=[2,6]) (by kernel_rfl) (by simp) ?_
 refine AllReadyH.cons (o:=⟨some 26,.load 22 (.tmp 25),_,_,_,none⟩) rfl (fun K hK=>?_) ?_
 ·go_simp
  refine hK.out _ _ (trivial) (fun hHeld=>?_)
  clear hK K
  refine wpAnyH_ready (rs:=[3,6]) (by kernel_rfl) (by simp) ?_
  refine AllReadyH.cons (o:=⟨some 27,.call { callee:=.value (.func 30),args:=#[.tmp 26],argTypes:=#[22] },_,_,_,none⟩) rfl (fun K hK=>?_) ?_
  ·go_simp
   refine (hC1 _ ((Below.refl _ _).drew)).mono ?_
   rintro e w1 ⟨q1,k1,rfl,o1,b1⟩
   simp only
   have R1:Below X.heap.size X w1:=below_undrewM b1
   have s1:w.heap.size + 2≤w1.heap.size:=(by have:=R1.size;omega)
   have O1:=hide o1
   clear o1 b1
   have f2:=(R1.cell (p:=⟨w.heap.size + 1,2,none⟩) (by simp only;omega)).trans y2
   have f3:=(R1.cell (p:=⟨w.heap.size + 1,3,none⟩) (by simp only;omega)).trans y3
   refine hK.out _ _ (trivial) (fun hHeld=>?_)
   clear hK K
   refine wpAnyH_ready (rs:=[6]) (by kernel_rfl) (by simp) ?_
   refine AllReadyH.cons (o:=⟨some 30,.load 23 (.tmp 29),_,_,_,none⟩) rfl (fun K hK=>?_) ?_
   ·go_simp
    refine hK.out _ _ (trivial) (fun hHeld=>?_)
    clear hK K
    refine wpAnyH_take (i:=8) (oi:=⟨some 32,.fieldAddr 51 (.tmp 7) 0,_,_,_,none⟩) (v:=?_) rfl (by kernel_rfl) (by kernel_rfl) (by kernel_rfl) (fun _ _ _ h=>h) (Or.inl ⟨by rfl, ?_⟩) (by assumption) ?_
    rotate_left
    ·intro wq hSw
     go_simp
     with_reducible rfl
    simp only [Act.put,List.setIfInBounds_toArray,List.set_cons_zero,List.set_cons_succ]
    refine wpAnyH_take (i:=9) (oi:=⟨some 33,.fieldAddr 25 (.tmp 32) 2,_,_,_,none⟩) (v:=?_) rfl (by kernel_rfl) (by kernel_rfl) (by kernel_rfl) (fun _ _ _ h=>h) (Or.inl ⟨by rfl, ?_⟩) (by assumption) ?_
    rotate_left
    ·intro wq hSw
     go_simp
     with_reducible rfl
    simp only [Act.put,List.setIfInBounds_toArray,List.set_cons_zero,List.set_cons_succ]
    refine wpAnyH_ready (rs:=[7]) (by kernel_rfl) (by simp) ?_
    refine AllReadyH.cons (o:=⟨some 31,.call { callee:=.value (.func 44),args:=#[.tmp 30],argTypes:=#[23] },_,_,_,none⟩) rfl (fun K hK=>?_) ?_
    ·go_simp
     refine (hC2 _ R1).mono ?_
     rintro e w2 ⟨q2,k2,rfl,o2,b2⟩
     simp only
     have R2:Below X.heap.size X w2:=below_sub R1 b2
     have O2:=hide o2
     have B2:=hide b2
     clear o2 b2
     have v0:=(R2.cell (p:=⟨w.heap.size + 1,0,none⟩) (by simp only;omega)).trans y0
     have v1:=(R2.cell (p:=⟨w.heap.size + 1,1,none⟩) (by simp only;omega)).trans y1
     have v2:=(R2.cell (p:=⟨w.heap.size + 1,2,none⟩) (by simp only;omega)).trans y2
     have v3:=(R2.cell (p:=⟨w.heap.size + 1,3,none⟩) (by simp only;omega)).trans y3
     have v4:=(R2.cell (p:=⟨w.heap.size + 1,4,none⟩) (by simp only;omega)).trans y4
     have v5:=(R2.cell (p:=⟨w.heap.size + 1,5,none⟩) (by simp only;omega)).trans y5
     have v6:=(R2.cell (p:=⟨w.heap.size + 1,6,none⟩) (by simp only;omega)).trans y6
     have vf:∀ o,w2.frozen? ⟨w.heap.size + 1,o,none⟩=false:=fun o=>(R2.frozen (by simp only;omega)).trans (yf o)
     have z2b:w.heap.size + 1 < w2.heap.size:=(by have:=R2.size;omega)
     have s2:=(by have:=R2.size;rw [hXs] at this;exact this:w.heap.size + 2≤w2.heap.size)
     have HR2:=hide R2
     refine hK.out _ _ (trivial) (fun hHeld=>?_)
     clear hK K
     refine wpAnyH_ready (rs:=[10]) (by kernel_rfl) (by simp) ?_
     refine AllReadyH.cons (o:=⟨none,.store 22 (.tmp 33) (.tmp 27),_,_,_,none⟩) rfl (fun K hK=>?_) ?_
     ·go_simp
      refine hK.out _ _ (trivial) (fun hHeld=>?_)
      clear hK K
      refine wpAnyH_take (i:=11) (oi:=⟨some 34,.fieldAddr 51 (.tmp 7) 0,_,_,_,none⟩) (v:=?_) rfl (by kernel_rfl) (by kernel_rfl) (by kernel_rfl) (fun _ _ _ h=>h) (Or.inl ⟨by rfl, ?_⟩) (by assumption) ?_
      rotate_left
      ·intro wq hSw
       go_simp
       with_reducible rfl
      simp only [Act.put,List.setIfInBounds_toArray,List.set_cons_zero,List.set_cons_succ]
      refine wpAnyH_take (i:=12) (oi:=⟨some 35,.fieldAddr 25 (.tmp 34) 3,_,_,_,none⟩) (v:=?_) rfl (by kernel_rfl) (by kernel_rfl) (by kernel_rfl) (fun _ _ _ h=>h) (Or.inl ⟨by rfl, ?_⟩) (by assumption) ?_
      rotate_left
      ·intro wq hSw
       go_simp
       with_reducible rfl
      simp only [Act.put,List.setIfInBounds_toArray,List.set_cons_zero,List.set_cons_succ]
      refine wpAnyH_ready (rs:=[13]) (by kernel_rfl) (by simp) ?_
      refine AllReadyH.cons (o:=⟨none,.store 23 (.tmp 35) (.tmp 31),_,_,_,none⟩) rfl (fun K hK=>?_) ?_
      ·go_simp
       refine hK.out _ _ (trivial) (fun hHeld=>?_)
       clear hK K
       refine wpAnyH_done (by kernel_rfl) ?_ _
       have BV:=hide (((below_sub (uh HWX) R2).setCell (p:=⟨w.heap.size + 1,2,none⟩) (Nat.le_succ _) (.slice q1 ints.length k1)).setCell (p:=⟨w.heap.size + 1,3,none⟩) (Nat.le_succ _) (.slice q2 words.length k2))
       have UP:=hide (((SameUp.of (B:=w.heap.size + 2) (Below.refl w2.heap.size w2)).set (p:=⟨w.heap.size + 1,2,none⟩) (by simp only;omega) (.slice q1 ints.length k1)).set (p:=⟨w.heap.size + 1,3,none⟩) (by simp only;omega) (.slice q2 words.length k2))
       have LF:=hide (litFrom_of (kind:=kind) (attr:=attr) (lo:=lo) (hi:=hi) (neg:=neg) (uh O1) (by simp only [drew_heap];omega) (uh O2) (uh B2) s1 (uh UP))
       clear R1 R2
       go_wp2_with (at_builtin;refine wpList_appG rowL rfl _ _ rfl B q c us ⟨w2.heap.size,0,none⟩ 1 [⟨kind,attr,q1,ints.length,k1,q2,words.length,k2,lo,hi,neg⟩] n 1 (n + 1) (uh HN) rfl rfl rfl rfl ((uh HO).below ((uh BV).alloc (by simp only [World.size_setCell];omega) _)) (lit_src ⟨kind,attr,q1,ints.length,k1,q2,words.length,k2,lo,hi,neg⟩ (by simp only [World.size_setCell])) (by unfold maxLen;omega) (by omega) (by simp only [size_al,World.size_setCell];omega) ?_;intro q9 c9 w9 ho9 hb9 hg9 hor9;have HO9:=hide ho9;have HB9:=hide hb9;have HG9:=hide hg9;have HR9:=hide hor9;clear ho9 hb9 hg9 hor9)
       go_ret
       exact conj_end (uh HN) (uh HO) (uh BV) (by simp only [World.size_setCell];exact s2) (uh LF) (uh HO9) (uh HB9) (uh HG9) (uh HR9) hB
      exact AllReadyH.nil
     exact AllReadyH.nil
    exact AllReadyH.nil
   exact AllReadyH.nil
  refine AllReadyH.cons (o:=⟨some 30,.load 23 (.tmp 29),_,_,_,none⟩) rfl (fun K hK=>?_) ?_
  ·go_simp
   refine hK.out _ _ (trivial) (fun hHeld=>?_)
   clear hK K
   refine wpAnyH_ready (rs:=[3]) (by kernel_rfl) (by simp) ?_
   refine AllReadyH.cons (o:=⟨some 27,.call { callee:=.value (.func 30),args:=#[.tmp 26],argTypes:=#[22] },_,_,_,none⟩) rfl (fun K hK=>?_) ?_
   ·go_simp
    refine (hC1 _ ((Below.refl _ _).drew)).mono ?_
    rintro e w1 ⟨q1,k1,rfl,o1,b1⟩
    simp only
    have R1:Below X.heap.size X w1:=below_undrewM b1
    have s1:w.heap.size + 2≤w1.heap.size:=(by have:=R1.size;omega)
    have O1:=hide o1
    clear o1 b1
    have f2:=(R1.cell (p:=⟨w.heap.size + 1,2,none⟩) (by simp only;omega)).trans y2
    have f3:=(R1.cell (p:=⟨w.heap.size + 1,3,none⟩) (by simp only;omega)).trans y3
    refine hK.out _ _ (trivial) (fun hHeld=>?_)
    clear hK K
    refine wpAnyH_take (i:=8) (oi:=⟨some 32,.fieldAddr 51 (.tmp 7) 0,_,_,_,none⟩) (v:=?_) rfl (by kernel_rfl) (by kernel_rfl) (by kernel_rfl) (fun _ _ _ h=>h) (Or.inl ⟨by rfl, ?_⟩) (by assumption) ?_
    rotate_left
    ·intro wq hSw
     go_simp
     with_reducible rfl
    simp only [Act.put,List.setIfInBounds_toArray,List.set_cons_zero,List.set_cons_succ]
    refine wpAnyH_take (i:=9) (oi:=⟨some 33,.fieldAddr 25 (.tmp 32) 2,_,_,_,none⟩) (v:=?_) rfl (by kernel_rfl) (by kernel_rfl) (by kernel_rfl) (fun _ _ _ h=>h) (Or.inl ⟨by rfl, ?_⟩) (by assumption) ?_
    rotate_left
    ·intro wq hSw
     go_simp
     with_reducible rfl
    simp only [Act.put,List.setIfInBounds_toArray,List.set_cons_zero,List.set_cons_succ]
    refine wpAnyH_ready (rs:=[7]) (by kernel_rfl) (by simp) ?_
    refine AllReadyH.cons (o:=⟨some 31,.call { callee:=.value (.func 44),args:=#[.tmp 30],argTypes:=#[23] },_,_,_,none⟩) rfl (fun K hK=>?_) ?_
    ·go_simp
     refine (hC2 _ R1).mono ?_
     rintro e w2 ⟨q2,k2,rfl,o2,b2⟩
     simp only
     have R2:Below X.heap.size X w2:=below_sub R1 b2
     have O2:=hide o2
     have B2:=hide b2
     clear o2 b2
     have v0:=(R2.cell (p:=⟨w.heap.size + 1,0,none⟩) (by simp only;omega)).trans y0
     have v1:=(R2.cell (p:=⟨w.heap.size + 1,1,none⟩) (by simp only;omega)).trans y1
     have v2:=(R2.cell (p:=⟨w.heap.size + 1,2,none⟩) (by simp only;omega)).trans y2
     have v3:=(R2.cell (p:=⟨w.heap.size + 1,3,none⟩) (by simp only;omega)).trans y3
     have v4:=(R2.cell (p:=⟨w.heap.size + 1,4,none⟩) (by simp only;omega)).trans y4
     have v5:=(R2.cell (p:=⟨w.heap.size + 1,5,none⟩) (by simp only;omega)).trans y5
     have v6:=(R2.cell (p:=⟨w.heap.size + 1,6,none⟩) (by simp only;omega)).trans y6
     have vf:∀ o,w2.frozen? ⟨w.heap.size + 1,o,none⟩=false:=fun o=>(R2.frozen (by simp only;omega)).trans (yf o)
     have z2b:w.heap.size + 1 < w2.heap.size:=(by have:=R2.size;omega)
     have s2:=(by have:=R2.size;rw [hXs] at this;exact this:w.heap.size + 2≤w2.heap.size)
     have HR2:=hide R2
     refine hK.out _ _ (trivial) (fun hHeld=>?_)
     clear hK K
     refine wpAnyH_ready (rs:=[10]) (by kernel_rfl) (by simp) ?_
     refine AllReadyH.cons (o:=⟨none,.store 22 (.tmp 33) (.tmp 27),_,_,_,none⟩) rfl (fun K hK=>?_) ?_
     ·go_simp
      refine hK.out _ _ (trivial) (fun hHeld=>?_)
      clear hK K
      refine wpAnyH_take (i:=11) (oi:=⟨some 34,.fieldAddr 51 (.tmp 7) 0,_,_,_,none⟩) (v:=?_) rfl (by kernel_rfl) (by kernel_rfl) (by kernel_rfl) (fun _ _ _ h=>h) (Or.inl ⟨by rfl, ?_⟩) (by assumption) ?_
      rotate_left
      ·intro wq hSw
       go_simp
       with_reducible rfl
      simp only [Act.put,List.setIfInBounds_toArray,List.set_cons_zero,List.set_cons_succ]
      refine wpAnyH_take (i:=12) (oi:=⟨some 35,.fieldAddr 25 (.tmp 34) 3,_,_,_,none⟩) (v:=?_) rfl (by kernel_rfl) (by kernel_rfl) (by kernel_rfl) (fun _ _ _ h=>h) (Or.inl ⟨by rfl, ?_⟩) (by assumption) ?_
      rotate_left
      ·intro wq hSw
       go_simp
       with_reducible rfl
      simp only [Act.put,List.setIfInBounds_toArray,List.set_cons_zero,List.set_cons_succ]
      refine wpAnyH_ready (rs:=[13]) (by kernel_rfl) (by simp) ?_
      refine AllReadyH.cons (o:=⟨none,.store 23 (.tmp 35) (.tmp 31),_,_,_,none⟩) rfl (fun K hK=>?_) ?_
      ·go_simp
       refine hK.out _ _ (trivial) (fun hHeld=>?_)
       clear hK K
       refine wpAnyH_done (by kernel_rfl) ?_ _
       have BV:=hide (((below_sub (uh HWX) R2).setCell (p:=⟨w.heap.size + 1,2,none⟩) (Nat.le_succ _) (.slice q1 ints.length k1)).setCell (p:=⟨w.heap.size + 1,3,none⟩) (Nat.le_succ _) (.slice q2 words.length k2))
       have UP:=hide (((SameUp.of (B:=w.heap.size + 2) (Below.refl w2.heap.size w2)).set (p:=⟨w.heap.size + 1,2,none⟩) (by simp only;omega) (.slice q1 ints.length k1)).set (p:=⟨w.heap.size + 1,3,none⟩) (by simp only;omega) (.slice q2 words.length k2))
       have LF:=hide (litFrom_of (kind:=kind) (attr:=attr) (lo:=lo) (hi:=hi) (neg:=neg) (uh O1) (by simp only [drew_heap];omega) (uh O2) (uh B2) s1 (uh UP))
       clear R1 R2
       go_wp2_with (at_builtin;refine wpList_appG rowL rfl _ _ rfl B q c us ⟨w2.heap.size,0,none⟩ 1 [⟨kind,attr,q1,ints.length,k1,q2,words.length,k2,lo,hi,neg⟩] n 1 (n + 1) (uh HN) rfl rfl rfl rfl ((uh HO).below ((uh BV).alloc (by simp only [World.size_setCell];omega) _)) (lit_src ⟨kind,attr,q1,ints.length,k1,q2,words.length,k2,lo,hi,neg⟩ (by simp only [World.size_setCell])) (by unfold maxLen;omega) (by omega) (by simp only [size_al,World.size_setCell];omega) ?_;intro q9 c9 w9 ho9 hb9 hg9 hor9;have HO9:=hide ho9;have HB9:=hide hb9;have HG9:=hide hg9;have HR9:=hide hor9;clear ho9 hb9 hg9 hor9)
       go_ret
       exact conj_end (uh HN) (uh HO) (uh BV) (by simp only [World.size_setCell];exact s2) (uh LF) (uh HO9) (uh HB9) (uh HG9) (uh HR9) hB
      exact AllReadyH.nil
     exact AllReadyH.nil
    exact AllReadyH.nil
   exact AllReadyH.nil
  exact AllReadyH.nil
 refine AllReadyH.cons (o:=⟨some 30,.load 23 (.tmp 29),_,_,_,none⟩) rfl (fun K hK=>?_) ?_
 ·go_simp
  refine hK.out _ _ (trivial) (fun hHeld=>?_)
  clear hK K
  refine wpAnyH_ready (rs:=[2]) (by kernel_rfl) (by simp) ?_
  refine AllReadyH.cons (o:=⟨some 26,.load 22 (.tmp 25),_,_,_,none⟩) rfl (fun K hK=>?_) ?_
  ·go_simp
   refine hK.out _ _ (trivial) (fun hHeld=>?_)
   clear hK K
   refine wpAnyH_ready (rs:=[3]) (by kernel_rfl) (by simp) ?_
   refine AllReadyH.cons (o:=⟨some 27,.call { callee:=.value (.func 30),args:=#[.tmp 26],argTypes:=#[22] },_,_,_,none⟩) rfl (fun K hK=>?_) ?_
   ·go_simp
    refine (hC1 _ ((Below.refl _ _).drew)).mono ?_
    rintro e w1 ⟨q1,k1,rfl,o1,b1⟩
    simp only
    have R1:Below X.heap.size X w1:=below_undrewM b1
    have s1:w.heap.size + 2≤w1.heap.size:=(by have:=R1.size;omega)
    have O1:=hide o1
    clear o1 b1
    have f2:=(R1.cell (p:=⟨w.heap.size + 1,2,none⟩) (by simp only;omega)).trans y2
    have f3:=(R1.cell (p:=⟨w.heap.size + 1,3,none⟩) (by simp only;omega)).trans y3
    refine hK.out _ _ (trivial) (fun hHeld=>?_)
    clear hK K
    refine wpAnyH_take (i:=8) (oi:=⟨some 32,.fieldAddr 51 (.tmp 7) 0,_,_,_,none⟩) (v:=?_) rfl (by kernel_rfl) (by kernel_rfl) (by kernel_rfl) (fun _ _ _ h=>h) (Or.inl ⟨by rfl, ?_⟩) (by assumption) ?_
    rotate_left
    ·intro wq hSw
     go_simp
     with_reducible rfl
    simp only [Act.put,List.setIfInBounds_toArray,List.set_cons_zero,List.set_cons_succ]
    refine wpAnyH_take (i:=9) (oi:=⟨some 33,.fieldAddr 25 (.tmp 32) 2,_,_,_,none⟩) (v:=?_) rfl (by kernel_rfl) (by kernel_rfl) (by kernel_rfl) (fun _ _ _ h=>h) (Or.inl ⟨by rfl, ?_⟩) (by assumption) ?_
    rotate_left
    ·intro wq hSw
     go_simp
     with_reducible rfl
    simp only [Act.put,List.setIfInBounds_toArray,List.set_cons_zero,List.set_cons_succ]
    refine wpAnyH_ready (rs:=[7]) (by kernel_rfl) (by simp) ?_
    refine AllReadyH.cons (o:=⟨some 31,.call { callee:=.value (.func 44),args:=#[.tmp 30],argTypes:=#[23] },_,_,_,none⟩) rfl (fun K hK=>?_) ?_
    ·go_simp
     refine (hC2 _ R1).mono ?_
     rintro e w2 ⟨q2,k2,rfl,o2,b2⟩
     simp only
     have R2:Below X.heap.size X w2:=below_sub R1 b2
     have O2:=hide o2
     have B2:=hide b2
     clear o2 b2
     have v0:=(R2.cell (p:=⟨w.heap.size + 1,0,none⟩) (by simp only;omega)).trans y0
     have v1:=(R2.cell (p:=⟨w.heap.size + 1,1,none⟩) (by simp only;omega)).trans y1
     have v2:=(R2.cell (p:=⟨w.heap.size + 1,2,none⟩) (by simp only;omega)).trans y2
     have v3:=(R2.cell (p:=⟨w.heap.size + 1,3,none⟩) (by simp only;omega)).trans y3
     have v4:=(R2.cell (p:=⟨w.heap.size + 1,4,none⟩) (by simp only;omega)).trans y4
     have v5:=(R2.cell (p:=⟨w.heap.size + 1,5,none⟩) (by simp only;omega)).trans y5
     have v6:=(R2.cell (p:=⟨w.heap.size + 1,6,none⟩) (by simp only;omega)).trans y6
     have vf:∀ o,w2.frozen? ⟨w.heap.size + 1,o,none⟩=false:=fun o=>(R2.frozen (by simp only;omega)).trans (yf o)
     have z2b:w.heap.size + 1 < w2.heap.size:=(by have:=R2.size;omega)
     have s2:=(by have:=R2.size;rw [hXs] at this;exact this:w.heap.size + 2≤w2.heap.size)
     have HR2:=hide R2
     refine hK.out _ _ (trivial) (fun hHeld=>?_)
     clear hK K
     refine wpAnyH_ready (rs:=[10]) (by kernel_rfl) (by simp) ?_
     refine AllReadyH.cons (o:=⟨none,.store 22 (.tmp 33) (.tmp 27),_,_,_,none⟩) rfl (fun K hK=>?_) ?_
     ·go_simp
      refine hK.out _ _ (trivial) (fun hHeld=>?_)
      clear hK K
      refine wpAnyH_take (i:=11) (oi:=⟨some 34,.fieldAddr 51 (.tmp 7) 0,_,_,_,none⟩) (v:=?_) rfl (by kernel_rfl) (by kernel_rfl) (by kernel_rfl) (fun _ _ _ h=>h) (Or.inl ⟨by rfl, ?_⟩) (by assumption) ?_
      rotate_left
      ·intro wq hSw
       go_simp
       with_reducible rfl
      simp only [Act.put,List.setIfInBounds_toArray,List.set_cons_zero,List.set_cons_succ]
      refine wpAnyH_take (i:=12) (oi:=⟨some 35,.fieldAddr 25 (.tmp 34) 3,_,_,_,none⟩) (v:=?_) rfl (by kernel_rfl) (by kernel_rfl) (by kernel_rfl) (fun _ _ _ h=>h) (Or.inl ⟨by rfl, ?_⟩) (by assumption) ?_
      rotate_left
      ·intro wq hSw
       go_simp
       with_reducible rfl
      simp only [Act.put,List.setIfInBounds_toArray,List.set_cons_zero,List.set_cons_succ]
      refine wpAnyH_ready (rs:=[13]) (by kernel_rfl) (by simp) ?_
      refine AllReadyH.cons (o:=⟨none,.store 23 (.tmp 35) (.tmp 31),_,_,_,none⟩) rfl (fun K hK=>?_) ?_
      ·go_simp
       refine hK.out _ _ (trivial) (fun hHeld=>?_)
       clear hK K
       refine wpAnyH_done (by kernel_rfl) ?_ _
       have BV:=hide (((below_sub (uh HWX) R2).setCell (p:=⟨w.heap.size + 1,2,none⟩) (Nat.le_succ _) (.slice q1 ints.length k1)).setCell (p:=⟨w.heap.size + 1,3,none⟩) (Nat.le_succ _) (.slice q2 words.length k2))
       have UP:=hide (((SameUp.of (B:=w.heap.size + 2) (Below.refl w2.heap.size w2)).set (p:=⟨w.heap.size + 1,2,none⟩) (by simp only;omega) (.slice q1 ints.length k1)).set (p:=⟨w.heap.size + 1,3,none⟩) (by simp only;omega) (.slice q2 words.length k2))
       have LF:=hide (litFrom_of (kind:=kind) (attr:=attr) (lo:=lo) (hi:=hi) (neg:=neg) (uh O1) (by simp only [drew_heap];omega) (uh O2) (uh B2) s1 (uh UP))
       clear R1 R2
       go_wp2_with (at_builtin;refine wpList_appG rowL rfl _ _ rfl B q c us ⟨w2.heap.size,0,none⟩ 1 [⟨kind,attr,q1,ints.length,k1,q2,words.length,k2,lo,hi,neg⟩] n 1 (n + 1) (uh HN) rfl rfl rfl rfl ((uh HO).below ((uh BV).alloc (by simp only [World.size_setCell];omega) _)) (lit_src ⟨kind,attr,q1,ints.length,k1,q2,words.length,k2,lo,hi,neg⟩ (by simp only [World.size_setCell])) (by unfold maxLen;omega) (by omega) (by simp only [size_al,World.size_setCell];omega) ?_;intro q9 c9 w9 ho9 hb9 hg9 hor9;have HO9:=hide ho9;have HB9:=hide hb9;have HG9:=hide hg9;have HR9:=hide hor9;clear ho9 hb9 hg9 hor9)
       go_ret
       exact conj_end (uh HN) (uh HO) (uh BV) (by simp only [World.size_setCell];exact s2) (uh LF) (uh HO9) (uh HB9) (uh HG9) (uh HR9) hB
      exact AllReadyH.nil
     exact AllReadyH.nil
    exact AllReadyH.nil
   exact AllReadyH.nil
  exact AllReadyH.nil
 exact AllReadyH.nil
/-- A list of literals that is the call's own and grows: us in memory, ls what they are. -/
def GrowL (B:Nat) (w:World) (q:Option Addr) (c n:Nat) (ls:List Lt):Prop:=ls.length=n∧∃ us:List Lv,us.length=n∧OwnK encL 51 7 B w q c us∧OffP B (fun x=>∀ (j:Nat) (u:Lv) (l:Lt),us[j]? = some u→ls[j]? = some l→LitFrom x B u l) (Value.slice q n c).ownBlock w
theorem GrowL.nil (B:Nat) (w:World):GrowL B w none 0 0 []:=⟨rfl,[],rfl,OwnK.nil B w,fun _ _ _ j u l h=>by simp at h⟩
theorem GrowL.below {B:Nat} {w w':World} {q:Option Addr} {c n:Nat} {ls:List Lt} (h:GrowL B w q c n ls) (hb:Below w.heap.size w w'):GrowL B w' q c n ls:=by
 obtain ⟨h1,us,h2,h3,h4⟩:=h
 exact ⟨h1,us,h2,h3.below hb,h4.below hb⟩
theorem GrowL.lits {B:Nat} {w:World} {q:Option Addr} {c n:Nat} {ls:List Lt} (h:GrowL B w q c n ls):LitsOf w q c ls:=by
 obtain ⟨h1,us,h2,h3,h4⟩:=h
 exact ⟨us,h3.ls,by omega,fun j u l a b=>(h4.now j u l a b).1⟩
theorem snocL {ls:List Lt} {us:List Lv} {Q:Lv→Lt→Prop} {u:Lv} {l:Lt} (he:us.length=ls.length) (h:∀ (j:Nat) (u:Lv) (l:Lt),us[j]? = some u→ls[j]? = some l→Q u l) (hq:Q u l):∀ (j:Nat) (v:Lv) (m:Lt),(us ++ [u])[j]? = some v→(ls ++ [l])[j]? = some m→Q v m:=by
 intro j v m hv hm
 by_cases hj:j < us.length
 ·rw [List.getElem?_append_left hj] at hv
  rw [List.getElem?_append_left (by omega)] at hm
  exact h j v m hv hm
 ·have hj2:=(List.getElem?_eq_some_iff.1 hv).1
  rw [List.length_append] at hj2
  obtain rfl:j=us.length:=by simp at hj2;omega
  rw [List.getElem?_append_right (by omega),Nat.sub_self] at hv
  rw [List.getElem?_append_right (by omega),he,Nat.sub_self] at hm
  cases hv
  cases hm
  exact hq
/-- What conj answers: the list, and behind it the literals m. -/
def ConjEnd (B:Nat) (w:World) (ls m:List Lt) (e:Ending) (w':World):Prop:=∃ q' c' N,e=.returned (.slice q' N c')∧GrowL B w' q' c' N (ls ++ m)∧Below B w w'
theorem conj_one (s:Sv) (l:Lt) (place:Int) (q:Option Addr) (c n B:Nat) (ls:List Lt) (w:World) (h:LitIn w s.lit l) (h0:s.op=1) (l1:l.ints.length≤1000000000) (l2:l.words.length≤1000000000) (hg:GrowL B w q c n ls) (hB:B≤w.heap.size) (ln:n≤1000000000) :
  Calls Try.prog 24 #[s.val,.int .i64 place,.slice q n c] w (ConjEnd B w ls [l]):=by
 obtain ⟨hl,us,hu,ho,hoff⟩:=hg
 obtain ⟨a1,a2,a3,a4,a5,a6,a7,a8,a9⟩:=h
 unfold Sv.val
 rw [a1,a2,a3,a4,a5,a6,a7,h0]
 refine (conj_leaf l.kind l.attr s.lit.qi s.lit.ci l.ints s.lit.qw s.lit.cw l.words l.lo l.hi l.neg s.width s.qk s.nk s.ck place q c n B us w a8 a9 l1 l2 ho hu hB ln).mono ?_
 rintro e w' ⟨q',c',u,rfl,h1,h2,h3,h4⟩
 refine ⟨q',c',n + 1,rfl,⟨by simp [hl],us ++ [u],by simp [hu],h1, ?_⟩,h4⟩
 exact ((h3 _ hoff).and h2).imp fun x hx=>snocL (by omega) hx.1 hx.2
end Go.Proofs.Ytikhopiegaoacac
