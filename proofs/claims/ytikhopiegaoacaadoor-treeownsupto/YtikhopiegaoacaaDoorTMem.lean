/- What the memory helpers do with lists of numbers and words, and with predicates. -/
import Derived.Test.YtikhopiegaoacaaDoorTClone
import Derived.Test.YtikhopiegaoacaaDoorTSame
import Derived.Test.YtikhopiegaoacaaDoorTLeaves
namespace Go.Proofs.YtikhopiegaoacaaDoor
open Go.RowKit Go.Sort

theorem LsOf.take {α:Type} [Inhabited α] {enc:α→List Value} {k:Nat} {w:World} {q:Option Addr} {l m:List α} (hk:0 < k) (h:LsOf enc k w q (l ++ m)):LsOf enc k w q l:=fun h0=>by
 obtain ⟨b,off,hq,hb,hA⟩:=h (by simp;omega)
 refine ⟨b,off,hq,hb,fun j u hj=>hA j u ?_⟩
 rw [flat_app enc k hk,List.getElem?_append_left (List.getElem?_eq_some_iff.1 hj).1];exact hj
theorem OwnI {B:Nat} {w:World} {q:Option Addr} {cap:Nat} {l:List Int} (h:OwnK encI 3 1 B w q cap (l ++ [-77,-78])):∃ g,q=some ⟨g,0,none⟩:=by
 rcases h.2 with ⟨h0,_⟩ | ⟨g,cp,cur,hv,_⟩
 ·injection h0 with _ h1;simp at h1
 ·injection hv with h1;exact ⟨g,h1⟩
theorem makeI (n:Nat) (h:n * 8≤140737488355328):∃ cur:Array Value,cur.size=n * 1∧∀ W:World,(Instr.makeSlice 24 (.int .i64 0) (.int .i64 (n:Int))).run Tryd.prog W=.ok (.slice (some ⟨W.heap.size,0,none⟩) 0 n) (W.alloc (.cells cur 3)):=by
 obtain ⟨i0,hi,hz0,hz1,hz2⟩:=info_parts Tryd.info3
 refine ⟨madeCells (Value.cells (.int .i64 0)) (n * i0.size),by rw [size_madeCells,hz1],fun W=>?_⟩
 have:=run_make (P:=Tryd.prog) W 24 3 i0 _ Tryd.underlying24 hi hz0 .i64 .i64 0 (n:Int) (Int.le_refl _) (by omega) (by rw [hz2];omega) (by omega)
 simpa only [Int.toNat_zero,Int.toNat_natCast] using this
theorem ownI {B:Nat} {w:World} {n:Nat} {cur:Array Value} (hB:B≤w.heap.size) (hn:n≤maxLen) (hs:cur.size=n * 1):OwnK encI 3 1 B (w.alloc (.cells cur 3)) (some ⟨w.heap.size,0,none⟩) n []:=by
 have:(flatK encI 1 ([]:List Int).toArray).toList=[]:=by simp [flatK]
 unfold OwnK;rw [this];exact World.ownsRow_made w cur n hB hn hs
theorem twoI {w:World} {M:Nat} {x y:Int} (h:w.heap[M]? = some (.cells #[.int .i64 x,.int .i64 y] 3 (0,0))):SrcK encI 1 w (some ⟨M,0,none⟩) 2 [x,y]:=by
 refine ⟨(fun h=>by cases h),fun ad hq j u hj=>?_⟩
 cases hq
 rw [add_plain,Nat.zero_add]
 have hs:=(List.getElem?_eq_some_iff.1 hj).1
 simp at hs
 have hc:w.cell? ⟨M,j,none⟩=(#[.int .i64 x,.int .i64 y]:Array Value)[j]?:=(by unfold World.cell?;simp [h])
 rw [hc]
 obtain rfl | rfl:j=0 ∨ j=1:=by omega
 ·exact (flat_at (enc:=encI) (k:=1) (l:=[x,y]) (j:=0) (x:=x) rfl 0 (by omega)).symm.trans hj
 ·exact (flat_at (enc:=encI) (k:=1) (l:=[x,y]) (j:=1) (x:=y) rfl 0 (by omega)).symm.trans hj
def spI:List Int:=[-77,-78]
set_option maxHeartbeats 1000000 in
set_option maxRecDepth 100000 in
theorem memI (q:Option Addr) (c:Nat) (l:List Int) (w:World) (h:SlOf encI 1 w q c l) (hl:l.length * 8 + 64≤140737488355328) :
  Calls Tryd.prog 43 #[.slice q l.length c] w fun e w'=>(∃ g cp,e=.returned (.slice (some ⟨g,0,none⟩) l.length cp)∧OwnK encI 3 1 w.heap.size w' (some ⟨g,0,none⟩) cp (l ++ spI)∧l.length + 2≤cp)∧Below w.heap.size w w':=by
 have HS:=hide h
 have l0:(0:Int)≤(l.length:Int):=by omega
 obtain ⟨cur,hcs,hmk⟩:=makeI (l.length + 2) (by omega)
 have hmk':∀ W:World,(Instr.makeSlice 24 (.int .i64 0) (.int .i64 ((l.length:Int) + 2))).run Tryd.prog W=.ok (.slice (some ⟨W.heap.size,0,none⟩) 0 (l.length + 2)) (W.alloc (.cells cur 3)):=fun W=>by have:=hmk W;rwa [Int.natCast_add] at this
 have Hcs:=hide hcs
 clear h hmk hcs
 go_enter Tryd.func43,Tryd.ntmps43
 go_wp2_with (first
  | (at_builtin;refine wpList_app rowI rfl _ _ rfl w.heap.size q8 cp8 l (some ⟨w8.heap.size,0,none⟩) 2 spI l.length 2 (l.length + 2) rfl rfl rfl rfl rfl ((uh Hown8).below ((Below.refl _ _).alloc (Nat.le_refl _) _)) (twoI (box_nw _ _)) (by unfold maxLen;omega) (by omega) (by have:=(uh B8).size;simp;omega) ?_;intro q9 cp9 w9 hown9 hb9 hnn9 _;obtain ⟨g9,hg9⟩:=OwnI hown9;subst hg9;have hc9:=hown9.ls.2.1;have c9:(l.length:Int)≤(cp9:Int):=(by simp [spI] at hc9;omega);have Hown9:=hide hown9;have B9:=hide (((uh B8).alloc (uh B8).size _).trans hb9);clear hown9 hb9 hnn9)
  | (at_builtin;refine wpList_app rowI rfl _ _ rfl w.heap.size (some ⟨w.heap.size,0,none⟩) (l.length + 2) [] q c l 0 l.length l.length rfl rfl (by simp) rfl rfl (ownI (Nat.le_refl _) (by unfold maxLen;omega) (uh Hcs)) ((uh HS).below ((Below.refl _ _).alloc (Nat.le_refl _) _)).src (by unfold maxLen;omega) (by omega) (by simp) ?_;intro q8 cp8 w8 hown8 hb8 _ _;have Hown8:=hide hown8;have B8:=hide (((Below.refl w.heap.size w).alloc (Nat.le_refl _) (.cells cur 3)).trans hb8);clear hown8 hb8))
 go_ret
 exact ⟨⟨g9,cp9,rfl,uh Hown9,by simp [spI] at hc9;exact hc9⟩,uh B9⟩
theorem OwnS {B:Nat} {w:World} {q:Option Addr} {cap:Nat} {l:List ByteArray} (h:OwnK encS 9 1 B w q cap (l ++ [⟨#[115,112,97,114,101]⟩,⟨#[114,111,111,109]⟩])):∃ g,q=some ⟨g,0,none⟩:=by
 rcases h.2 with ⟨h0,_⟩ | ⟨g,cp,cur,hv,_⟩
 ·injection h0 with _ h1;simp at h1
 ·injection hv with h1;exact ⟨g,h1⟩
theorem makeS (n:Nat) (h:n * 16≤140737488355328):∃ cur:Array Value,cur.size=n * 1∧∀ W:World,(Instr.makeSlice 25 (.int .i64 0) (.int .i64 (n:Int))).run Tryd.prog W=.ok (.slice (some ⟨W.heap.size,0,none⟩) 0 n) (W.alloc (.cells cur 9)):=by
 obtain ⟨i0,hi,hz0,hz1,hz2⟩:=info_parts Tryd.info9
 refine ⟨madeCells (Value.cells (.string ⟨#[]⟩)) (n * i0.size),by rw [size_madeCells,hz1],fun W=>?_⟩
 have:=run_make (P:=Tryd.prog) W 25 9 i0 _ Tryd.underlying25 hi hz0 .i64 .i64 0 (n:Int) (Int.le_refl _) (by omega) (by rw [hz2];omega) (by omega)
 simpa only [Int.toNat_zero,Int.toNat_natCast] using this
theorem ownS {B:Nat} {w:World} {n:Nat} {cur:Array Value} (hB:B≤w.heap.size) (hn:n≤maxLen) (hs:cur.size=n * 1):OwnK encS 9 1 B (w.alloc (.cells cur 9)) (some ⟨w.heap.size,0,none⟩) n []:=by
 have:(flatK encS 1 ([]:List ByteArray).toArray).toList=[]:=by simp [flatK]
 unfold OwnK;rw [this];exact World.ownsRow_made w cur n hB hn hs
theorem twoS {w:World} {M:Nat} {x y:ByteArray} (h:w.heap[M]? = some (.cells #[.string x,.string y] 9 (0,0))):SrcK encS 1 w (some ⟨M,0,none⟩) 2 [x,y]:=by
 refine ⟨(fun h=>by cases h),fun ad hq j u hj=>?_⟩
 cases hq
 rw [add_plain,Nat.zero_add]
 have hs:=(List.getElem?_eq_some_iff.1 hj).1
 simp at hs
 have hc:w.cell? ⟨M,j,none⟩=(#[.string x,.string y]:Array Value)[j]?:=(by unfold World.cell?;simp [h])
 rw [hc]
 obtain rfl | rfl:j=0 ∨ j=1:=by omega
 ·exact (flat_at (enc:=encS) (k:=1) (l:=[x,y]) (j:=0) (x:=x) rfl 0 (by omega)).symm.trans hj
 ·exact (flat_at (enc:=encS) (k:=1) (l:=[x,y]) (j:=1) (x:=y) rfl 0 (by omega)).symm.trans hj
def spS:List ByteArray:=[⟨#[115,112,97,114,101]⟩,⟨#[114,111,111,109]⟩]
set_option maxHeartbeats 1000000 in
set_option maxRecDepth 100000 in
theorem memS (q:Option Addr) (c:Nat) (l:List ByteArray) (w:World) (h:SlOf encS 1 w q c l) (hl:l.length * 16 + 64≤140737488355328) :
  Calls Tryd.prog 44 #[.slice q l.length c] w fun e w'=>(∃ g cp,e=.returned (.slice (some ⟨g,0,none⟩) l.length cp)∧OwnK encS 9 1 w.heap.size w' (some ⟨g,0,none⟩) cp (l ++ spS)∧l.length + 2≤cp)∧Below w.heap.size w w':=by
 have HS:=hide h
 have l0:(0:Int)≤(l.length:Int):=by omega
 obtain ⟨cur,hcs,hmk⟩:=makeS (l.length + 2) (by omega)
 have hmk':∀ W:World,(Instr.makeSlice 25 (.int .i64 0) (.int .i64 ((l.length:Int) + 2))).run Tryd.prog W=.ok (.slice (some ⟨W.heap.size,0,none⟩) 0 (l.length + 2)) (W.alloc (.cells cur 9)):=fun W=>by have:=hmk W;rwa [Int.natCast_add] at this
 have Hcs:=hide hcs
 clear h hmk hcs
 go_enter Tryd.func44,Tryd.ntmps44
 go_wp2_with (first
  | (at_builtin;refine wpList_app rowS rfl _ _ rfl w.heap.size q8 cp8 l (some ⟨w8.heap.size,0,none⟩) 2 spS l.length 2 (l.length + 2) rfl rfl rfl rfl rfl ((uh Hown8).below ((Below.refl _ _).alloc (Nat.le_refl _) _)) (twoS (box_nw _ _)) (by unfold maxLen;omega) (by omega) (by have:=(uh B8).size;simp;omega) ?_;intro q9 cp9 w9 hown9 hb9 hnn9 _;obtain ⟨g9,hg9⟩:=OwnS hown9;subst hg9;have hc9:=hown9.ls.2.1;have c9:(l.length:Int)≤(cp9:Int):=(by simp [spS] at hc9;omega);have Hown9:=hide hown9;have B9:=hide (((uh B8).alloc (uh B8).size _).trans hb9);clear hown9 hb9 hnn9)
  | (at_builtin;refine wpList_app rowS rfl _ _ rfl w.heap.size (some ⟨w.heap.size,0,none⟩) (l.length + 2) [] q c l 0 l.length l.length rfl rfl (by simp) rfl rfl (ownS (Nat.le_refl _) (by unfold maxLen;omega) (uh Hcs)) ((uh HS).below ((Below.refl _ _).alloc (Nat.le_refl _) _)).src (by unfold maxLen;omega) (by omega) (by simp) ?_;intro q8 cp8 w8 hown8 hb8 _ _;have Hown8:=hide hown8;have B8:=hide (((Below.refl w.heap.size w).alloc (Nat.le_refl _) (.cells cur 9)).trans hb8);clear hown8 hb8))
 go_ret
 exact ⟨⟨g9,cp9,rfl,uh Hown9,by simp [spS] at hc9;exact hc9⟩,uh B9⟩
end Go.Proofs.YtikhopiegaoacaaDoor
