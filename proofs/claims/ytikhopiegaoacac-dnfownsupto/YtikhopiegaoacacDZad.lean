/- What the builders of trees answer. -/
import Derived.Test.YtikhopiegaoacacDCloneTree
import Derived.Test.YtikhopiegaoacacDZac
namespace Go.Proofs.Ytikhopiegaoacac
open Go.RowKit Go.Sort

/-- A tree in new memory. -/
def NewT (B:Nat) (w':World) (t:Nd) (e:Ending):Prop:=∃ v',e=.returned v'.val∧NdFrom w' B v' t
def zeroT:Nd:=.mk 0 ⟨#[]⟩ [] [] 0 0 0 []
def joinT (op:Int) (kids:List Nd):Nd:=match kids with
 | []=>zeroT
 | [x]=>x
 | _=>.mk 0 ⟨#[]⟩ [] [] 0 0 op kids
theorem joinT_many (op:Int) {kids:List Nd} (h:2≤kids.length):joinT op kids=.mk 0 ⟨#[]⟩ [] [] 0 0 op kids:=by
 match kids,h with
 | _ :: _ :: _,_=>rfl
set_option maxHeartbeats 1000000 in
theorem leaf_any (kind:Int) (attr:ByteArray) (qi:Option Addr) (ni ci:Nat) (qw:Option Addr) (nw cw:Nat) (lo hi:Int) (w:World) :
  Calls Try.prog 29 #[.agg #[.int .i64 kind,.string attr,.slice qi ni ci,.slice qw nw cw,.int .i64 lo,.int .i64 hi]] w fun e w'=>e=.returned (.agg #[.int .i64 kind,.string attr,.slice qi ni ci,.slice qw nw cw,.int .i64 lo,.int .i64 hi,.int .i64 1,.slice none 0 0])∧Below w.heap.size w w':=by
 go_enter Try.func29,Try.ntmps29
 go_wp2
 refine bodyPost_ret (v:=.agg #[.int .i64 kind,.string attr,.slice qi ni ci,.slice qw nw cw,.int .i64 lo,.int .i64 hi,.int .i64 1,.slice none 0 0]) (by simp [results,Try.results29,go_sem]) rfl ⟨rfl, ?_⟩
 exact ((Below.refl _ _).alloc (Nat.le_refl _) _).alloc (by simp) _
theorem set8_below {B g:Nat} {a w:World} (h:Below B a w) (hg:B≤g) (a0 a1 a2 a3 a4 a5 a6 a7:Value):Below B a ((((((((w.setCell ⟨g,0,none⟩ a0).setCell ⟨g,1,none⟩ a1).setCell ⟨g,2,none⟩ a2).setCell ⟨g,3,none⟩ a3).setCell ⟨g,4,none⟩ a4).setCell ⟨g,5,none⟩ a5).setCell ⟨g,6,none⟩ a6).setCell ⟨g,7,none⟩ a7) :=
 (((((((h.setCell hg _).setCell hg _).setCell hg _).setCell hg _).setCell hg _).setCell hg _).setCell hg _).setCell hg _
theorem set8_up {B g:Nat} (w:World) (hg:g < B) (a0 a1 a2 a3 a4 a5 a6 a7:Value):SameUp B w ((((((((w.setCell ⟨g,0,none⟩ a0).setCell ⟨g,1,none⟩ a1).setCell ⟨g,2,none⟩ a2).setCell ⟨g,3,none⟩ a3).setCell ⟨g,4,none⟩ a4).setCell ⟨g,5,none⟩ a5).setCell ⟨g,6,none⟩ a6).setCell ⟨g,7,none⟩ a7) :=
 (((((((((SameUp.of (Below.refl _ _)).set hg _).set hg _).set hg _).set hg _).set hg _).set hg _).set hg _).set hg _)
/-- The cell of a result, behind calls. -/
theorem boxR {w w1:World} (hb:Below (w.alloc (.cells #[.int .i64 0,.string ⟨#[]⟩,.slice none 0 0,.slice none 0 0,.int .i64 0,.int .i64 0,.int .i64 0,.slice none 0 0] 28)).heap.size (w.alloc (.cells #[.int .i64 0,.string ⟨#[]⟩,.slice none 0 0,.slice none 0 0,.int .i64 0,.int .i64 0,.int .i64 0,.slice none 0 0] 28)) w1) :
  w.heap.size < w1.heap.size∧(w1.cell? ⟨w.heap.size,0,none⟩=some (.int .i64 0)∧w1.cell? ⟨w.heap.size,1,none⟩=some (.string ⟨#[]⟩)∧w1.cell? ⟨w.heap.size,2,none⟩=some (.slice none 0 0)∧w1.cell? ⟨w.heap.size,3,none⟩=some (.slice none 0 0)∧w1.cell? ⟨w.heap.size,4,none⟩=some (.int .i64 0)∧w1.cell? ⟨w.heap.size,5,none⟩=some (.int .i64 0)∧w1.cell? ⟨w.heap.size,6,none⟩=some (.int .i64 0)∧w1.cell? ⟨w.heap.size,7,none⟩=some (.slice none 0 0))∧∀ o,w1.frozen? ⟨w.heap.size,o,none⟩=false:=by
 have hs:=hb.size
 have hlt:w.heap.size < (w.alloc (.cells #[.int .i64 0,.string ⟨#[]⟩,.slice none 0 0,.slice none 0 0,.int .i64 0,.int .i64 0,.int .i64 0,.slice none 0 0] 28)).heap.size:=by simp
 have hh:=(hb.block _ hlt).trans (box_nw w _)
 exact ⟨by simp at hs;omega,of8' hh,fun o=>frozen_free hh⟩
set_option maxHeartbeats 2000000 in
theorem ints_any (attr:ByteArray) (q:Option Addr) (c:Nat) (l:List Int) (w:World) (h:SlOf encI 1 w q c l) (hl:l.length≤1000000000000) :
  Calls Try.prog 13 #[.string attr,.slice q l.length c] w fun e w'=>NewT w.heap.size w' (.mk 1 attr l [] 0 0 1 []) e∧Below w.heap.size w w':=by
 have hc:=cloneI q c l _ (h.below ((Below.refl w.heap.size w).alloc (Nat.le_refl _) (.cells #[.int .i64 0,.string ⟨#[]⟩,.slice none 0 0,.slice none 0 0,.int .i64 0,.int .i64 0,.int .i64 0,.slice none 0 0] 28))) hl
 clear h hl
 have B0:=hide ((Below.refl w.heap.size w).alloc (Nat.le_refl _) (.cells #[.int .i64 0,.string ⟨#[]⟩,.slice none 0 0,.slice none 0 0,.int .i64 0,.int .i64 0,.int .i64 0,.slice none 0 0] 28))
 go_enter Try.func13,Try.ntmps13
 go_wp2_with (first
  | (go_at_call 30;refine hc.mono ?_;rintro e w1 ⟨q1,k1,rfl,o1,b1⟩;have O1:=hide o1;have B1:=hide b1;clear o1 b1)
  | (go_at_call 29;refine (leaf_any _ _ _ _ _ _ _ _ _ _ _).mono ?_;rintro e w2 ⟨rfl,b2⟩;obtain ⟨z1,⟨r0,r1,r2,r3,r4,r5,r6,r7⟩,rf⟩:=boxR (below_sub (uh B1) b2);have B2:=hide b2;clear b2))
 refine bodyPost_ret (v:=.agg #[.int .i64 1,.string attr,.slice q1 l.length k1,.slice none 0 0,.int .i64 0,.int .i64 0,.int .i64 1,.slice none 0 0]) (by simp [results,Try.results13,go_sem, *]) rfl ?_
 have s1:=(uh B1).size
 simp at s1
 have f1:∀ a,q1=some a→w.heap.size + 1≤a.block:=fun a e=>by have:=(uh O1).from a e;simp at this;omega
 refine ⟨⟨⟨1,attr,q1,l.length,k1,none,0,0,0,0,1,none,0,0⟩,rfl, ?_⟩,set8_below (below_sub (below_sub (uh B0) (uh B1)) (uh B2)) (Nat.le_refl _) _ _ _ _ _ _ _ _⟩
 exact (NdFrom.make (words:=[]) (kids:=[]) (vs:=[]) ((uh O1).upF f1 ((SameUp.of (uh B2)).trans (set8_up (B:=w.heap.size + 1) (g:=w.heap.size) _ (Nat.lt_succ_self _) _ _ _ _ _ _ _ _)).2) (OwnK.nil _ _) (OwnK.nil _ _) rfl (fun j v x h=>by simp at h)).mono (Nat.le_succ _)
end Go.Proofs.Ytikhopiegaoacac
namespace Go.Proofs.Ytikhopiegaoacac
open Go.RowKit Go.Sort

theorem LsOf.take {α:Type} [Inhabited α] {enc:α→List Value} {k:Nat} {w:World} {q:Option Addr} {l m:List α} (hk:0 < k) (h:LsOf enc k w q (l ++ m)):LsOf enc k w q l:=fun h0=>by
 obtain ⟨b,off,hq,hb,hA⟩:=h (by simp;omega)
 refine ⟨b,off,hq,hb,fun j u hj=>hA j u ?_⟩
 rw [flat_app enc k hk,List.getElem?_append_left (List.getElem?_eq_some_iff.1 hj).1];exact hj
theorem OwnI {B:Nat} {w:World} {q:Option Addr} {cap:Nat} {l:List Int} (h:OwnK encI 3 1 B w q cap (l ++ [-77,-78])):∃ g,q=some ⟨g,0,none⟩:=by
 rcases h.2 with ⟨h0,_⟩ | ⟨g,cp,cur,hv,_⟩
 ·injection h0 with _ h1;simp at h1
 ·injection hv with h1;exact ⟨g,h1⟩
theorem makeI (n:Nat) (h:n * 8≤140737488355328):∃ cur:Array Value,cur.size=n * 1∧∀ W:World,(Instr.makeSlice 22 (.int .i64 0) (.int .i64 (n:Int))).run Try.prog W=.ok (.slice (some ⟨W.heap.size,0,none⟩) 0 n) (W.alloc (.cells cur 3)):=by
 obtain ⟨i0,hi,hz0,hz1,hz2⟩:=info_parts Try.info3
 refine ⟨madeCells (Value.cells (.int .i64 0)) (n * i0.size),by rw [size_madeCells,hz1],fun W=>?_⟩
 have:=run_make (P:=Try.prog) W 22 3 i0 _ Try.underlying22 hi hz0 .i64 .i64 0 (n:Int) (Int.le_refl _) (by omega) (by rw [hz2];omega) (by omega)
 simpa only [Int.toNat_zero,Int.toNat_natCast] using this
theorem ownI {B:Nat} {w:World} {n:Nat} {cur:Array Value} (hB:B≤w.heap.size) (hn:n≤maxLen) (hs:cur.size=n * 1):OwnK encI 3 1 B (w.alloc (.cells cur 3)) (some ⟨w.heap.size,0,none⟩) n []:=by
 have:(flatK encI 1 ([]:List Int).toArray).toList=[]:=by simp [flatK]
 unfold OwnK;rw [this];exact World.ownsRow_made w cur n hB hn hs
theorem twoI {w:World} {M:Nat} {x y:Int} (h:w.heap[M]? = some (.cells #[.int .i64 x,.int .i64 y] 3 (0,0))):SrcK encI 1 w (some ⟨M,0,none⟩) 2 [x,y]:=by
 refine ⟨(fun h=>by cases h),fun ad hq j u hj=>?_⟩
 cases hq
 rw [add_plain,Nat.zero_add]
 have hs:=(List.getElem?_eq_some_iff.1 hj).1
 simp at hs
 have hc:w.cell? ⟨M,j,none⟩=(#[.int .i64 x,.int .i64 y]:Array Value)[j]?:=(by unfold World.cell?;simp [h])
 rw [hc]
 obtain rfl | rfl:j=0 ∨ j=1:=by omega
 ·exact (flat_at (enc:=encI) (k:=1) (l:=[x,y]) (j:=0) (x:=x) rfl 0 (by omega)).symm.trans hj
 ·exact (flat_at (enc:=encI) (k:=1) (l:=[x,y]) (j:=1) (x:=y) rfl 0 (by omega)).symm.trans hj
def spI:List Int:=[-77,-78]
set_option maxHeartbeats 1000000 in
set_option maxRecDepth 100000 in
theorem memI (q:Option Addr) (c:Nat) (l:List Int) (w:World) (h:SlOf encI 1 w q c l) (hl:l.length * 8 + 64≤140737488355328) :
  Calls Try.prog 36 #[.slice q l.length c] w fun e w'=>(∃ g cp,e=.returned (.slice (some ⟨g,0,none⟩) l.length cp)∧OwnK encI 3 1 w.heap.size w' (some ⟨g,0,none⟩) cp (l ++ spI)∧l.length + 2≤cp)∧Below w.heap.size w w':=by
 have HS:=hide h
 have l0:(0:Int)≤(l.length:Int):=by omega
 obtain ⟨cur,hcs,hmk⟩:=makeI (l.length + 2) (by omega)
 have hmk':∀ W:World,(Instr.makeSlice 22 (.int .i64 0) (.int .i64 ((l.length:Int) + 2))).run Try.prog W=.ok (.slice (some ⟨W.heap.size,0,none⟩) 0 (l.length + 2)) (W.alloc (.cells cur 3)):=fun W=>by have:=hmk W;rwa [Int.natCast_add] at this
 have Hcs:=hide hcs
 clear h hmk hcs
 go_enter Try.func36,Try.ntmps36
 go_wp2_with (first
  | (at_builtin;refine wpList_app rowI rfl _ _ rfl w.heap.size q8 cp8 l (some ⟨w8.heap.size,0,none⟩) 2 spI l.length 2 (l.length + 2) rfl rfl rfl rfl rfl ((uh Hown8).below ((Below.refl _ _).alloc (Nat.le_refl _) _)) (twoI (box_nw _ _)) (by unfold maxLen;omega) (by omega) (by have:=(uh B8).size;simp;omega) ?_;intro q9 cp9 w9 hown9 hb9 hnn9 _;obtain ⟨g9,hg9⟩:=OwnI hown9;subst hg9;have hc9:=hown9.ls.2.1;have c9:(l.length:Int)≤(cp9:Int):=(by simp [spI] at hc9;omega);have Hown9:=hide hown9;have B9:=hide (((uh B8).alloc (uh B8).size _).trans hb9);clear hown9 hb9 hnn9)
  | (at_builtin;refine wpList_app rowI rfl _ _ rfl w.heap.size (some ⟨w.heap.size,0,none⟩) (l.length + 2) [] q c l 0 l.length l.length rfl rfl (by simp) rfl rfl (ownI (Nat.le_refl _) (by unfold maxLen;omega) (uh Hcs)) ((uh HS).below ((Below.refl _ _).alloc (Nat.le_refl _) _)).src (by unfold maxLen;omega) (by omega) (by simp) ?_;intro q8 cp8 w8 hown8 hb8 _ _;have Hown8:=hide hown8;have B8:=hide (((Below.refl w.heap.size w).alloc (Nat.le_refl _) (.cells cur 3)).trans hb8);clear hown8 hb8))
 go_ret
 exact ⟨⟨g9,cp9,rfl,uh Hown9,by simp [spI] at hc9;exact hc9⟩,uh B9⟩
theorem OwnS {B:Nat} {w:World} {q:Option Addr} {cap:Nat} {l:List ByteArray} (h:OwnK encS 9 1 B w q cap (l ++ [⟨#[115,112,97,114,101]⟩,⟨#[114,111,111,109]⟩])):∃ g,q=some ⟨g,0,none⟩:=by
 rcases h.2 with ⟨h0,_⟩ | ⟨g,cp,cur,hv,_⟩
 ·injection h0 with _ h1;simp at h1
 ·injection hv with h1;exact ⟨g,h1⟩
theorem makeS (n:Nat) (h:n * 16≤140737488355328):∃ cur:Array Value,cur.size=n * 1∧∀ W:World,(Instr.makeSlice 23 (.int .i64 0) (.int .i64 (n:Int))).run Try.prog W=.ok (.slice (some ⟨W.heap.size,0,none⟩) 0 n) (W.alloc (.cells cur 9)):=by
 obtain ⟨i0,hi,hz0,hz1,hz2⟩:=info_parts Try.info9
 refine ⟨madeCells (Value.cells (.string ⟨#[]⟩)) (n * i0.size),by rw [size_madeCells,hz1],fun W=>?_⟩
 have:=run_make (P:=Try.prog) W 23 9 i0 _ Try.underlying23 hi hz0 .i64 .i64 0 (n:Int) (Int.le_refl _) (by omega) (by rw [hz2];omega) (by omega)
 simpa only [Int.toNat_zero,Int.toNat_natCast] using this
theorem ownS {B:Nat} {w:World} {n:Nat} {cur:Array Value} (hB:B≤w.heap.size) (hn:n≤maxLen) (hs:cur.size=n * 1):OwnK encS 9 1 B (w.alloc (.cells cur 9)) (some ⟨w.heap.size,0,none⟩) n []:=by
 have:(flatK encS 1 ([]:List ByteArray).toArray).toList=[]:=by simp [flatK]
 unfold OwnK;rw [this];exact World.ownsRow_made w cur n hB hn hs
theorem twoS {w:World} {M:Nat} {x y:ByteArray} (h:w.heap[M]? = some (.cells #[.string x,.string y] 9 (0,0))):SrcK encS 1 w (some ⟨M,0,none⟩) 2 [x,y]:=by
 refine ⟨(fun h=>by cases h),fun ad hq j u hj=>?_⟩
 cases hq
 rw [add_plain,Nat.zero_add]
 have hs:=(List.getElem?_eq_some_iff.1 hj).1
 simp at hs
 have hc:w.cell? ⟨M,j,none⟩=(#[.string x,.string y]:Array Value)[j]?:=(by unfold World.cell?;simp [h])
 rw [hc]
 obtain rfl | rfl:j=0 ∨ j=1:=by omega
 ·exact (flat_at (enc:=encS) (k:=1) (l:=[x,y]) (j:=0) (x:=x) rfl 0 (by omega)).symm.trans hj
 ·exact (flat_at (enc:=encS) (k:=1) (l:=[x,y]) (j:=1) (x:=y) rfl 0 (by omega)).symm.trans hj
def spS:List ByteArray:=[⟨#[115,112,97,114,101]⟩,⟨#[114,111,111,109]⟩]
set_option maxHeartbeats 1000000 in
set_option maxRecDepth 100000 in
theorem memS (q:Option Addr) (c:Nat) (l:List ByteArray) (w:World) (h:SlOf encS 1 w q c l) (hl:l.length * 16 + 64≤140737488355328) :
  Calls Try.prog 37 #[.slice q l.length c] w fun e w'=>(∃ g cp,e=.returned (.slice (some ⟨g,0,none⟩) l.length cp)∧OwnK encS 9 1 w.heap.size w' (some ⟨g,0,none⟩) cp (l ++ spS)∧l.length + 2≤cp)∧Below w.heap.size w w':=by
 have HS:=hide h
 have l0:(0:Int)≤(l.length:Int):=by omega
 obtain ⟨cur,hcs,hmk⟩:=makeS (l.length + 2) (by omega)
 have hmk':∀ W:World,(Instr.makeSlice 23 (.int .i64 0) (.int .i64 ((l.length:Int) + 2))).run Try.prog W=.ok (.slice (some ⟨W.heap.size,0,none⟩) 0 (l.length + 2)) (W.alloc (.cells cur 9)):=fun W=>by have:=hmk W;rwa [Int.natCast_add] at this
 have Hcs:=hide hcs
 clear h hmk hcs
 go_enter Try.func37,Try.ntmps37
 go_wp2_with (first
  | (at_builtin;refine wpList_app rowS rfl _ _ rfl w.heap.size q8 cp8 l (some ⟨w8.heap.size,0,none⟩) 2 spS l.length 2 (l.length + 2) rfl rfl rfl rfl rfl ((uh Hown8).below ((Below.refl _ _).alloc (Nat.le_refl _) _)) (twoS (box_nw _ _)) (by unfold maxLen;omega) (by omega) (by have:=(uh B8).size;simp;omega) ?_;intro q9 cp9 w9 hown9 hb9 hnn9 _;obtain ⟨g9,hg9⟩:=OwnS hown9;subst hg9;have hc9:=hown9.ls.2.1;have c9:(l.length:Int)≤(cp9:Int):=(by simp [spS] at hc9;omega);have Hown9:=hide hown9;have B9:=hide (((uh B8).alloc (uh B8).size _).trans hb9);clear hown9 hb9 hnn9)
  | (at_builtin;refine wpList_app rowS rfl _ _ rfl w.heap.size (some ⟨w.heap.size,0,none⟩) (l.length + 2) [] q c l 0 l.length l.length rfl rfl (by simp) rfl rfl (ownS (Nat.le_refl _) (by unfold maxLen;omega) (uh Hcs)) ((uh HS).below ((Below.refl _ _).alloc (Nat.le_refl _) _)).src (by unfold maxLen;omega) (by omega) (by simp) ?_;intro q8 cp8 w8 hown8 hb8 _ _;have Hown8:=hide hown8;have B8:=hide (((Below.refl w.heap.size w).alloc (Nat.le_refl _) (.cells cur 9)).trans hb8);clear hown8 hb8))
 go_ret
 exact ⟨⟨g9,cp9,rfl,uh Hown9,by simp [spS] at hc9;exact hc9⟩,uh B9⟩
end Go.Proofs.Ytikhopiegaoacac
