/- What the builders of trees answer. -/
import Derived.Test.YtikhopiegaoacaaDoorTCloneTree
namespace Go.Proofs.YtikhopiegaoacaaDoor
open Go.RowKit Go.Sort

/-- A tree in new memory. -/
def NewT (B:Nat) (w':World) (t:Nd) (e:Ending):Prop:=∃ v',e=.returned v'.val∧NdFrom w' B v' t
def zeroT:Nd:=.mk 0 ⟨#[]⟩ [] [] 0 0 0 []
def joinT (op:Int) (kids:List Nd):Nd:=match kids with
 | []=>zeroT
 | [x]=>x
 | _=>.mk 0 ⟨#[]⟩ [] [] 0 0 op kids
theorem joinT_many (op:Int) {kids:List Nd} (h:2≤kids.length):joinT op kids=.mk 0 ⟨#[]⟩ [] [] 0 0 op kids:=by
 match kids,h with
 | _ :: _ :: _,_=>rfl
set_option maxHeartbeats 1000000 in
theorem leaf_any (kind:Int) (attr:ByteArray) (qi:Option Addr) (ni ci:Nat) (qw:Option Addr) (nw cw:Nat) (lo hi:Int) (w:World) :
  Calls Tryd.prog 28 #[.agg #[.int .i64 kind,.string attr,.slice qi ni ci,.slice qw nw cw,.int .i64 lo,.int .i64 hi]] w fun e w'=>e=.returned (.agg #[.int .i64 kind,.string attr,.slice qi ni ci,.slice qw nw cw,.int .i64 lo,.int .i64 hi,.int .i64 1,.slice none 0 0])∧Below w.heap.size w w':=by
 go_enter Tryd.func28,Tryd.ntmps28
 go_wp2
 refine bodyPost_ret (v:=.agg #[.int .i64 kind,.string attr,.slice qi ni ci,.slice qw nw cw,.int .i64 lo,.int .i64 hi,.int .i64 1,.slice none 0 0]) (by simp [results,Tryd.results28,go_sem]) rfl ⟨rfl, ?_⟩
 exact ((Below.refl _ _).alloc (Nat.le_refl _) _).alloc (by simp) _
theorem set8_below {B g:Nat} {a w:World} (h:Below B a w) (hg:B≤g) (a0 a1 a2 a3 a4 a5 a6 a7:Value):Below B a ((((((((w.setCell ⟨g,0,none⟩ a0).setCell ⟨g,1,none⟩ a1).setCell ⟨g,2,none⟩ a2).setCell ⟨g,3,none⟩ a3).setCell ⟨g,4,none⟩ a4).setCell ⟨g,5,none⟩ a5).setCell ⟨g,6,none⟩ a6).setCell ⟨g,7,none⟩ a7) :=
 (((((((h.setCell hg _).setCell hg _).setCell hg _).setCell hg _).setCell hg _).setCell hg _).setCell hg _).setCell hg _
theorem set8_up {B g:Nat} (w:World) (hg:g < B) (a0 a1 a2 a3 a4 a5 a6 a7:Value):SameUp B w ((((((((w.setCell ⟨g,0,none⟩ a0).setCell ⟨g,1,none⟩ a1).setCell ⟨g,2,none⟩ a2).setCell ⟨g,3,none⟩ a3).setCell ⟨g,4,none⟩ a4).setCell ⟨g,5,none⟩ a5).setCell ⟨g,6,none⟩ a6).setCell ⟨g,7,none⟩ a7) :=
 (((((((((SameUp.of (Below.refl _ _)).set hg _).set hg _).set hg _).set hg _).set hg _).set hg _).set hg _).set hg _)
/-- The cell of a result, behind calls. -/
theorem boxR {w w1:World} (hb:Below (w.alloc (.cells #[.int .i64 0,.string ⟨#[]⟩,.slice none 0 0,.slice none 0 0,.int .i64 0,.int .i64 0,.int .i64 0,.slice none 0 0] 29)).heap.size (w.alloc (.cells #[.int .i64 0,.string ⟨#[]⟩,.slice none 0 0,.slice none 0 0,.int .i64 0,.int .i64 0,.int .i64 0,.slice none 0 0] 29)) w1) :
  w.heap.size < w1.heap.size∧(w1.cell? ⟨w.heap.size,0,none⟩=some (.int .i64 0)∧w1.cell? ⟨w.heap.size,1,none⟩=some (.string ⟨#[]⟩)∧w1.cell? ⟨w.heap.size,2,none⟩=some (.slice none 0 0)∧w1.cell? ⟨w.heap.size,3,none⟩=some (.slice none 0 0)∧w1.cell? ⟨w.heap.size,4,none⟩=some (.int .i64 0)∧w1.cell? ⟨w.heap.size,5,none⟩=some (.int .i64 0)∧w1.cell? ⟨w.heap.size,6,none⟩=some (.int .i64 0)∧w1.cell? ⟨w.heap.size,7,none⟩=some (.slice none 0 0))∧∀ o,w1.frozen? ⟨w.heap.size,o,none⟩=false:=by
 have hs:=hb.size
 have hlt:w.heap.size < (w.alloc (.cells #[.int .i64 0,.string ⟨#[]⟩,.slice none 0 0,.slice none 0 0,.int .i64 0,.int .i64 0,.int .i64 0,.slice none 0 0] 29)).heap.size:=by simp
 have hh:=(hb.block _ hlt).trans (box_nw w _)
 exact ⟨by simp at hs;omega,of8' hh,fun o=>frozen_free hh⟩
set_option maxHeartbeats 2000000 in
theorem ints_any (attr:ByteArray) (q:Option Addr) (c:Nat) (l:List Int) (w:World) (h:SlOf encI 1 w q c l) (hl:l.length≤1000000000000) :
  Calls Tryd.prog 12 #[.string attr,.slice q l.length c] w fun e w'=>NewT w.heap.size w' (.mk 1 attr l [] 0 0 1 []) e∧Below w.heap.size w w':=by
 have hc:=cloneI q c l _ (h.below ((Below.refl w.heap.size w).alloc (Nat.le_refl _) (.cells #[.int .i64 0,.string ⟨#[]⟩,.slice none 0 0,.slice none 0 0,.int .i64 0,.int .i64 0,.int .i64 0,.slice none 0 0] 29))) hl
 clear h hl
 have B0:=hide ((Below.refl w.heap.size w).alloc (Nat.le_refl _) (.cells #[.int .i64 0,.string ⟨#[]⟩,.slice none 0 0,.slice none 0 0,.int .i64 0,.int .i64 0,.int .i64 0,.slice none 0 0] 29))
 go_enter Tryd.func12,Tryd.ntmps12
 go_wp2_with (first
  | (go_at_call 29;refine hc.mono ?_;rintro e w1 ⟨q1,k1,rfl,o1,b1⟩;have O1:=hide o1;have B1:=hide b1;clear o1 b1)
  | (go_at_call 28;refine (leaf_any _ _ _ _ _ _ _ _ _ _ _).mono ?_;rintro e w2 ⟨rfl,b2⟩;obtain ⟨z1,⟨r0,r1,r2,r3,r4,r5,r6,r7⟩,rf⟩:=boxR (below_sub (uh B1) b2);have B2:=hide b2;clear b2))
 refine bodyPost_ret (v:=.agg #[.int .i64 1,.string attr,.slice q1 l.length k1,.slice none 0 0,.int .i64 0,.int .i64 0,.int .i64 1,.slice none 0 0]) (by simp [results,Tryd.results12,go_sem, *]) rfl ?_
 have s1:=(uh B1).size
 simp at s1
 have f1:∀ a,q1=some a→w.heap.size + 1≤a.block:=fun a e=>by have:=(uh O1).from a e;simp at this;omega
 refine ⟨⟨⟨1,attr,q1,l.length,k1,none,0,0,0,0,1,none,0,0⟩,rfl, ?_⟩,set8_below (below_sub (below_sub (uh B0) (uh B1)) (uh B2)) (Nat.le_refl _) _ _ _ _ _ _ _ _⟩
 exact (NdFrom.make (words:=[]) (kids:=[]) (vs:=[]) ((uh O1).upF f1 ((SameUp.of (uh B2)).trans (set8_up (B:=w.heap.size + 1) (g:=w.heap.size) _ (Nat.lt_succ_self _) _ _ _ _ _ _ _ _)).2) (OwnK.nil _ _) (OwnK.nil _ _) rfl (fun j v x h=>by simp at h)).mono (Nat.le_succ _)
set_option maxHeartbeats 2000000 in
theorem words_any (attr:ByteArray) (q:Option Addr) (c:Nat) (l:List ByteArray) (w:World) (h:SlOf encS 1 w q c l) (hl:l.length≤1000000000000) :
  Calls Tryd.prog 15 #[.string attr,.slice q l.length c] w fun e w'=>NewT w.heap.size w' (.mk 2 attr [] l 0 0 1 []) e∧Below w.heap.size w w':=by
 have hc:=cloneS q c l _ (h.below ((Below.refl w.heap.size w).alloc (Nat.le_refl _) (.cells #[.int .i64 0,.string ⟨#[]⟩,.slice none 0 0,.slice none 0 0,.int .i64 0,.int .i64 0,.int .i64 0,.slice none 0 0] 29))) hl
 clear h hl
 have B0:=hide ((Below.refl w.heap.size w).alloc (Nat.le_refl _) (.cells #[.int .i64 0,.string ⟨#[]⟩,.slice none 0 0,.slice none 0 0,.int .i64 0,.int .i64 0,.int .i64 0,.slice none 0 0] 29))
 go_enter Tryd.func15,Tryd.ntmps15
 go_wp2_with (first
  | (go_at_call 30;refine hc.mono ?_;rintro e w1 ⟨q1,k1,rfl,o1,b1⟩;have O1:=hide o1;have B1:=hide b1;clear o1 b1)
  | (go_at_call 28;refine (leaf_any _ _ _ _ _ _ _ _ _ _ _).mono ?_;rintro e w2 ⟨rfl,b2⟩;obtain ⟨z1,⟨r0,r1,r2,r3,r4,r5,r6,r7⟩,rf⟩:=boxR (below_sub (uh B1) b2);have B2:=hide b2;clear b2))
 refine bodyPost_ret (v:=.agg #[.int .i64 2,.string attr,.slice none 0 0,.slice q1 l.length k1,.int .i64 0,.int .i64 0,.int .i64 1,.slice none 0 0]) (by simp [results,Tryd.results15,go_sem, *]) rfl ?_
 have s1:=(uh B1).size
 simp at s1
 have f1:∀ a,q1=some a→w.heap.size + 1≤a.block:=fun a e=>by have:=(uh O1).from a e;simp at this;omega
 refine ⟨⟨⟨2,attr,none,0,0,q1,l.length,k1,0,0,1,none,0,0⟩,rfl, ?_⟩,set8_below (below_sub (below_sub (uh B0) (uh B1)) (uh B2)) (Nat.le_refl _) _ _ _ _ _ _ _ _⟩
 exact (NdFrom.make (ints:=[]) (kids:=[]) (vs:=[]) (OwnK.nil _ _) ((uh O1).upF f1 ((SameUp.of (uh B2)).trans (set8_up (B:=w.heap.size + 1) (g:=w.heap.size) _ (Nat.lt_succ_self _) _ _ _ _ _ _ _ _)).2) (OwnK.nil _ _) rfl (fun j v x h=>by simp at h)).mono (Nat.le_succ _)
set_option maxHeartbeats 2000000 in
theorem range_any (attr:ByteArray) (lo hi:Int) (w:World) :
  Calls Tryd.prog 13 #[.string attr,.int .i64 lo,.int .i64 hi] w fun e w'=>NewT w.heap.size w' (.mk 3 attr [] [] lo hi 1 []) e∧Below w.heap.size w w':=by
 have B0:=hide ((Below.refl w.heap.size w).alloc (Nat.le_refl _) (.cells #[.int .i64 0,.string ⟨#[]⟩,.slice none 0 0,.slice none 0 0,.int .i64 0,.int .i64 0,.int .i64 0,.slice none 0 0] 29))
 go_enter Tryd.func13,Tryd.ntmps13
 go_wp2_with (first
  | (go_at_call 28;refine (leaf_any _ _ _ _ _ _ _ _ _ _ _).mono ?_;rintro e w2 ⟨rfl,b2⟩;obtain ⟨z1,⟨r0,r1,r2,r3,r4,r5,r6,r7⟩,rf⟩:=boxR (b2);have B2:=hide b2;clear b2))
 refine bodyPost_ret (v:=.agg #[.int .i64 3,.string attr,.slice none 0 0,.slice none 0 0,.int .i64 lo,.int .i64 hi,.int .i64 1,.slice none 0 0]) (by simp [results,Tryd.results13,go_sem, *]) rfl ?_
 refine ⟨⟨⟨3,attr,none,0,0,none,0,0,lo,hi,1,none,0,0⟩,rfl, ?_⟩,set8_below (below_sub (uh B0) (uh B2)) (Nat.le_refl _) _ _ _ _ _ _ _ _⟩
 exact NdFrom.make (ints:=[]) (words:=[]) (kids:=[]) (vs:=[]) (OwnK.nil _ _) (OwnK.nil _ _) (OwnK.nil _ _) rfl (fun j v x h=>by simp at h)
set_option maxHeartbeats 2000000 in
theorem prefix_any (attr:ByteArray) (s:ByteArray) (w:World) :
  Calls Tryd.prog 14 #[.string attr,.string s] w fun e w'=>NewT w.heap.size w' (.mk 4 attr [] [s] 0 0 1 []) e∧Below w.heap.size w w':=by
 have B0:=hide ((Below.refl w.heap.size w).alloc (Nat.le_refl _) (.cells #[.int .i64 0,.string ⟨#[]⟩,.slice none 0 0,.slice none 0 0,.int .i64 0,.int .i64 0,.int .i64 0,.slice none 0 0] 29))
 go_enter Tryd.func14,Tryd.ntmps14
 go_wp2_with (first
  | (go_at_call 28;refine (leaf_any _ _ _ _ _ _ _ _ _ _ _).mono ?_;rintro e w2 ⟨rfl,b2⟩;obtain ⟨z1,⟨r0,r1,r2,r3,r4,r5,r6,r7⟩,rf⟩:=boxR (below_sub ((Below.refl _ _).alloc (Nat.le_refl _) _) b2);have B2:=hide b2;clear b2))
 refine bodyPost_ret (v:=.agg #[.int .i64 4,.string attr,.slice none 0 0,.slice (some ⟨w.heap.size + 1,0,none⟩) 1 1,.int .i64 0,.int .i64 0,.int .i64 1,.slice none 0 0]) (by simp [results,Tryd.results14,go_sem, *]) rfl ?_
 have s2:=(uh B2).size
 simp at s2
 have hw1:OwnK encS 9 1 (w.heap.size + 1) ((w.alloc (.cells #[.int .i64 0,.string ⟨#[]⟩,.slice none 0 0,.slice none 0 0,.int .i64 0,.int .i64 0,.int .i64 0,.slice none 0 0] 29)).alloc (.cells #[.string s] 9)) (some ⟨w.heap.size + 1,0,none⟩) 1 [s]:=by
  have hb:=box_nw (w.alloc (.cells #[.int .i64 0,.string ⟨#[]⟩,.slice none 0 0,.slice none 0 0,.int .i64 0,.int .i64 0,.int .i64 0,.slice none 0 0] 29)) (.cells #[.string s] 9)
  have hs:(w.alloc (.cells #[.int .i64 0,.string ⟨#[]⟩,.slice none 0 0,.slice none 0 0,.int .i64 0,.int .i64 0,.int .i64 0,.slice none 0 0] 29)).heap.size=w.heap.size + 1:=by simp
  rw [hs] at hb
  unfold OwnK;exact ⟨by simp,Or.inr ⟨w.heap.size + 1,1,_,rfl,Nat.le_refl _,hb,Nat.le_refl _,by unfold maxLen;omega,rfl,by simp only [Go.Sort.flatK,Array.toList_map,Array.toList_range];simp [List.range,List.range.loop,encS]⟩⟩
 have f1:∀ a:Addr,some (⟨w.heap.size + 1,0,none⟩:Addr)=some a→w.heap.size + 1≤a.block:=fun a e=>by cases e;exact Nat.le_refl _
 refine ⟨⟨⟨4,attr,none,0,0,some ⟨w.heap.size + 1,0,none⟩,1,1,0,0,1,none,0,0⟩,rfl, ?_⟩,set8_below (below_sub ((uh B0).alloc (by simp) _) (uh B2)) (Nat.le_refl _) _ _ _ _ _ _ _ _⟩
 exact (NdFrom.make (ints:=[]) (kids:=[]) (vs:=[]) (OwnK.nil _ _) (hw1.upF f1 ((SameUp.of (uh B2)).trans (set8_up (B:=w.heap.size + 1) (g:=w.heap.size) _ (Nat.lt_succ_self _) _ _ _ _ _ _ _ _)).2) (OwnK.nil _ _) rfl (fun j v x h=>by simp at h)).mono (Nat.le_succ _)
end Go.Proofs.YtikhopiegaoacaaDoor
