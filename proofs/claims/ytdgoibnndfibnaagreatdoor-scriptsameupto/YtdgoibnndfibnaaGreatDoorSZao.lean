/- ScriptLines: the law. -/
import Derived.Test.YtdgoibnndfibnaaGreatDoorSZan
import Derived.Test.YtdgoibnndfibnaaGreatDoorSSBase
namespace Go.Proofs.YtdgoibnndfibnaaGreatDoor
open Go.RowKit Go.Sort
end Go.Proofs.YtdgoibnndfibnaaGreatDoor
namespace Go.Proofs.YtdgoibnndfibnaaGreatDoor
open Go.RowKit Go.Sort
end Go.Proofs.YtdgoibnndfibnaaGreatDoor
namespace Go.Proofs.YtdgoibnndfibnaaGreatDoor
open Go.RowKit Go.Sort
theorem LsOf.take {α:Type} [Inhabited α] {enc:α->List Value} {k:Nat} {w:World} {q:Option Addr} {l m:List α} (hk:0 < k) (h:LsOf enc k w q (l ++ m)):LsOf enc k w q l:=fun h0=>by
 obtain ⟨b,off,hq,hb,hA⟩:=h (by simp;omega)
 refine ⟨b,off,hq,hb,fun j u hj=>hA j u ?_⟩
 rw [flat_app enc k hk,List.getElem?_append_left (List.getElem?_eq_some_iff.1 hj).1];exact hj
theorem OwnI {B:Nat} {w:World} {q:Option Addr} {cap:Nat} {l:List Int} (h:OwnK encI 3 1 B w q cap (l ++ [-77,-78])):∃ g,q=some ⟨g,0,none⟩:=by
 rcases h.2 with ⟨h0,_⟩ | ⟨g,cp,cur,hv,_⟩
 ·injection h0 with _ h1;simp at h1
 ·injection hv with h1;exact ⟨g,h1⟩
theorem makeI (n:Nat) (h:n * 8<=140737488355328):∃ cur:Array Value,cur.size=n * 1/\∀ W:World,(Instr.makeSlice 40 (.int .i64 0) (.int .i64 (n:Int))).run Tryz.prog W=.ok (.slice (some ⟨W.heap.size,0,none⟩) 0 n) (W.alloc (.cells cur 3)):=by
 obtain ⟨i0,hi,hz0,hz1,hz2⟩:=info_parts Tryz.info3
 refine ⟨madeCells (Value.cells (.int .i64 0)) (n * i0.size),by rw [size_madeCells,hz1],fun W=>?_⟩
 have:=run_make (P:=Tryz.prog) W 40 3 i0 _ Tryz.underlying40 hi hz0 .i64 .i64 0 (n:Int) (Int.le_refl _) (by omega) (by rw [hz2];omega) (by omega)
 simpa only [Int.toNat_zero,Int.toNat_natCast] using this
theorem ownI {B:Nat} {w:World} {n:Nat} {cur:Array Value} (hB:B<=w.heap.size) (hn:n<=maxLen) (hs:cur.size=n * 1):OwnK encI 3 1 B (w.alloc (.cells cur 3)) (some ⟨w.heap.size,0,none⟩) n []:=by
 have:(flatK encI 1 ([]:List Int).toArray).toList=[]:=by simp [flatK]
 unfold OwnK;rw [this];exact World.ownsRow_made w cur n hB hn hs
theorem twoI {w:World} {M:Nat} {x y:Int} (h:w.heap[M]? = some (.cells #[.int .i64 x,.int .i64 y] 3 (0,0))):SrcK encI 1 w (some ⟨M,0,none⟩) 2 [x,y]:=by
 refine ⟨(fun h=>by cases h),fun ad hq j u hj=>?_⟩
 cases hq
 rw [add_plain,Nat.zero_add]
 have hs:=(List.getElem?_eq_some_iff.1 hj).1
 simp at hs
 have hc:w.cell? ⟨M,j,none⟩=(#[.int .i64 x,.int .i64 y]:Array Value)[j]?:=(by unfold World.cell?;simp [h])
 rw [hc]
 obtain rfl | rfl:j=0 ∨ j=1:=by omega
 ·exact (flat_at (enc:=encI) (k:=1) (l:=[x,y]) (j:=0) (x:=x) rfl 0 (by omega)).symm.trans hj
 ·exact (flat_at (enc:=encI) (k:=1) (l:=[x,y]) (j:=1) (x:=y) rfl 0 (by omega)).symm.trans hj
def spI:List Int:=[-77,-78]
set_option maxHeartbeats 1000000 in
set_option maxRecDepth 100000 in
theorem memI (q:Option Addr) (c:Nat) (l:List Int) (w:World) (h:SlOf encI 1 w q c l) (hl:l.length * 8 + 64<=140737488355328) :
  Calls Tryz.prog 23 #[.slice q l.length c] w fun e w'=>(∃ g cp,e=.returned (.slice (some ⟨g,0,none⟩) l.length cp)/\OwnK encI 3 1 w.heap.size w' (some ⟨g,0,none⟩) cp (l ++ spI)/\l.length + 2<=cp)/\Below w.heap.size w w':=by
 have HS:=hide h
 have l0:(0:Int)<=(l.length:Int):=by omega
 obtain ⟨cur,hcs,hmk⟩:=makeI (l.length + 2) (by omega)
 have hmk':∀ W:World,(Instr.makeSlice 40 (.int .i64 0) (.int .i64 ((l.length:Int) + 2))).run Tryz.prog W=.ok (.slice (some ⟨W.heap.size,0,none⟩) 0 (l.length + 2)) (W.alloc (.cells cur 3)):=fun W=>by have:=hmk W;rwa [Int.natCast_add] at this
 have Hcs:=hide hcs
 clear h hmk hcs
 go_enter Tryz.func23,Tryz.ntmps23
 go_wp2_with (first
  | (at_builtin;refine wpList_app rowI rfl _ _ rfl w.heap.size q8 cp8 l (some ⟨w8.heap.size,0,none⟩) 2 spI l.length 2 (l.length + 2) rfl rfl rfl rfl rfl ((uh Hown8).below ((Below.refl _ _).alloc (Nat.le_refl _) _)) (twoI (box_new _ _)) (by unfold maxLen;omega) (by omega) (by have:=(uh B8).size;simp;omega) ?_;intro q9 cp9 w9 hown9 hb9 hnn9 _;obtain ⟨g9,hg9⟩:=OwnI hown9;subst hg9;have hc9:=hown9.ls.2.1;have c9:(l.length:Int)<=(cp9:Int):=(by simp [spI] at hc9;omega);have Hown9:=hide hown9;have B9:=hide (((uh B8).alloc (uh B8).size _).trans hb9);clear hown9 hb9 hnn9)
  | (at_builtin;refine wpList_app rowI rfl _ _ rfl w.heap.size (some ⟨w.heap.size,0,none⟩) (l.length + 2) [] q c l 0 l.length l.length rfl rfl (by simp) rfl rfl (ownI (Nat.le_refl _) (by unfold maxLen;omega) (uh Hcs)) ((uh HS).below ((Below.refl _ _).alloc (Nat.le_refl _) _)).src (by unfold maxLen;omega) (by omega) (by simp) ?_;intro q8 cp8 w8 hown8 hb8 _ _;have Hown8:=hide hown8;have B8:=hide (((Below.refl w.heap.size w).alloc (Nat.le_refl _) (.cells cur 3)).trans hb8);clear hown8 hb8))
 go_ret
 exact ⟨⟨g9,cp9,rfl,uh Hown9,by simp [spI] at hc9;exact hc9⟩,uh B9⟩
/-- The pair that marks the spare room. -/
def spP:Pq:=⟨⟨#[115,112,97,114,101]⟩,0,0,⟨#[]⟩⟩
theorem makePr (n:Nat) (h:n * 48<=140737488355328):∃ cur:Array Value,cur.size=n * 4/\∀ W:World,(Instr.makeSlice 37 (.int .i64 0) (.int .i64 (n:Int))).run Tryz.prog W=.ok (.slice (some ⟨W.heap.size,0,none⟩) 0 n) (W.alloc (.cells cur 78)):=by
 obtain ⟨i0,hi,hz0,hz1,hz2⟩:=info_parts Tryz.info78
 refine ⟨madeCells (Value.agg #[.string ⟨#[]⟩,.int .i64 0,.int .i64 0,.string ⟨#[]⟩]).cells (n * i0.size),by rw [size_madeCells,hz1],fun W=>?_⟩
 have:=run_make (P:=Tryz.prog) W 37 78 i0 _ Tryz.underlying37 hi hz0 .i64 .i64 0 (n:Int) (Int.le_refl _) (by omega) (by rw [hz2];omega) (by omega)
 simpa only [Int.toNat_zero,Int.toNat_natCast] using this
theorem ownP {B:Nat} {w:World} {n:Nat} {cur:Array Value} (hB:B<=w.heap.size) (hn:n<=maxLen) (hs:cur.size=n * 4):OwnK encQ 78 4 B (w.alloc (.cells cur 78)) (some ⟨w.heap.size,0,none⟩) n []:=by
 have:(flatK encQ 4 ([]:List Pq).toArray).toList=[]:=by simp [flatK]
 unfold OwnK;rw [this];exact World.ownsRow_made w cur n hB hn hs
theorem OwnP {B:Nat} {w:World} {q:Option Addr} {cap:Nat} {l:List Pq} (h:OwnK encQ 78 4 B w q cap (l ++ [spP])):∃ g,q=some ⟨g,0,none⟩:=by
 rcases h.2 with ⟨h0,_⟩ | ⟨g,cp,cur,hv,_⟩
 ·injection h0 with _ h1;simp at h1
 ·injection hv with h1;exact ⟨g,h1⟩
theorem pr_src {w:World} {M:Nat} {u:Pq} (h:w.heap[M]? = some (.cells #[.string u.1,.int .i64 u.2.1,.int .i64 u.2.2.1,.string u.2.2.2] 78 (0,0))):SrcK encQ 4 w (some ⟨M,0,none⟩) 1 [u] :=
 ⟨(fun h=>by cases h),fun ad hq j z hj=>by
  cases hq
  rw [add_plain,Nat.zero_add]
  have hs:=(List.getElem?_eq_some_iff.1 hj).1
  simp [flatK] at hs
  have hc:w.cell? ⟨M,j,none⟩=(#[.string u.1,.int .i64 u.2.1,.int .i64 u.2.2.1,.string u.2.2.2]:Array Value)[j]?:=(by unfold World.cell?;simp [h])
  rw [hc]
  have e:=flat_at (enc:=encQ) (k:=4) (l:=[u]) (j:=0) (x:=u) rfl j hs
  rw [Nat.zero_mul,Nat.zero_add] at e
  rw [e] at hj
  obtain rfl | rfl | rfl | rfl:j=0 ∨ j=1 ∨ j=2 ∨ j=3:=by omega
  all_goals exact hj⟩
set_option maxHeartbeats 1000000 in
set_option maxRecDepth 100000 in
theorem memP (q:Option Addr) (c:Nat) (l:List Pq) (w:World) (h:SlOf encQ 4 w q c l) (hl:l.length * 48 + 64<=140737488355328) :
  Calls Tryz.prog 24 #[.slice q l.length c] w fun e w'=>(∃ g cp,e=.returned (.slice (some ⟨g,0,none⟩) l.length cp)/\OwnK encQ 78 4 w.heap.size w' (some ⟨g,0,none⟩) cp (l ++ [spP])/\l.length + 1<=cp)/\Below w.heap.size w w':=by
 have HS:=hide h
 have l0:(0:Int)<=(l.length:Int):=by omega
 obtain ⟨cur,hcs,hmk⟩:=makePr (l.length + 1) (by omega)
 have hmk':∀ W:World,(Instr.makeSlice 37 (.int .i64 0) (.int .i64 ((l.length:Int) + 1))).run Tryz.prog W=.ok (.slice (some ⟨W.heap.size,0,none⟩) 0 (l.length + 1)) (W.alloc (.cells cur 78)):=fun W=>by have:=hmk W;rwa [Int.natCast_add] at this
 have Hcs:=hide hcs
 clear h hmk hcs
 go_enter Tryz.func24,Tryz.ntmps24
 go_wp2_with (first
  | (at_builtin;refine wpList_app rowQ rfl _ _ rfl w.heap.size q8 cp8 l (some ⟨w8.heap.size,0,none⟩) 1 [spP] l.length 1 (l.length + 1) rfl rfl rfl rfl rfl ((uh Hown8).below ((Below.refl _ _).alloc (Nat.le_refl _) _)) (pr_src (box_new _ _)) (by unfold maxLen;omega) (by omega) (by have:=(uh B8).size;simp;omega) ?_;intro q9 cp9 w9 hown9 hb9 hnn9 _;obtain ⟨g9,hg9⟩:=OwnP hown9;subst hg9;have hc9:=hown9.ls.2.1;have c9:(l.length:Int)<=(cp9:Int):=(by simp at hc9;omega);have Hown9:=hide hown9;have B9:=hide (((uh B8).alloc (uh B8).size _).trans hb9);clear hown9 hb9 hnn9)
  | (at_builtin;refine wpList_app rowQ rfl _ _ rfl w.heap.size (some ⟨w.heap.size,0,none⟩) (l.length + 1) [] q c l 0 l.length l.length rfl rfl (by simp) rfl rfl (ownP (Nat.le_refl _) (by unfold maxLen;omega) (uh Hcs)) ((uh HS).below ((Below.refl _ _).alloc (Nat.le_refl _) _)).src (by unfold maxLen;omega) (by omega) (by simp) ?_;intro q8 cp8 w8 hown8 hb8 _ _;have Hown8:=hide hown8;have B8:=hide (((Below.refl w.heap.size w).alloc (Nat.le_refl _) (.cells cur 78)).trans hb8);clear hown8 hb8))
 go_ret
 exact ⟨⟨g9,cp9,rfl,uh Hown9,by simp at hc9;exact hc9⟩,uh B9⟩
end Go.Proofs.YtdgoibnndfibnaaGreatDoor
