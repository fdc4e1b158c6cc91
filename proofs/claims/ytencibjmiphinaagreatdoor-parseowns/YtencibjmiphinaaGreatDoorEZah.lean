/- What Same returns, of any two trees. -/
import Derived.Test.YtencibjmiphinaaGreatDoorEZac
import Derived.Test.YtencibjmiphinaaGreatDoorEZaf
import Derived.Test.YtencibjmiphinaaGreatDoorEZae
namespace Go.Proofs.YtencibjmiphinaaGreatDoor
open Go.RowKit
theorem pre_snoc {α:Type} {l m:List α} {k:Nat} {x:α} (h:l.take k=m.take k) (hx:l[k]? = some x) (hy:m[k]? = some x):l.take (k + 1)=m.take (k + 1):=by
 rw [take_snoc_of hx,take_snoc_of hy,h]
theorem pre_ne {α:Type} {l m:List α} {k:Nat} {x y:α} (hx:l[k]? = some x) (hy:m[k]? = some y) (h:x ≠ y):l ≠ m:=fun e=>by subst e;rw [hx] at hy;cases hy;exact h rfl
/-- The same tree? -/
noncomputable def sameT (a b:Nd):Bool:=@decide (a=b) (Classical.propDecidable _)
theorem sameT_yes {a b:Nd} (h:a=b):sameT a b=true:=by unfold sameT;simp [h]
theorem sameT_no {a b:Nd} (h:a ≠ b):sameT a b=false:=by unfold sameT;simp [h]
theorem sameT_iff {a b:Nd}:sameT a b=true ↔ a=b:=by unfold sameT;simp
noncomputable def sameL (a b:List Nd):Bool:=@decide (a=b) (Classical.propDecidable _)
theorem sameL_yes {a b:List Nd} (h:a=b):sameL a b=true:=by unfold sameL;simp [h]
theorem sameL_no {a b:List Nd} (h:a ≠ b):sameL a b=false:=by unfold sameL;simp [h]
theorem NdsOf.cells {w wr:World} {q:Option Addr} {c:Nat} {l:List Nd} {j:Nat} {x:Nd} (h:NdsOf w q c l) (hj:l[j]? = some x) (hbel:Below w.heap.size w wr) :
  ∃ b off v,q=some ⟨b,off,none⟩/\b < wr.heap.size/\NdIn wr v x/\(wr.cell? ⟨b,off + j * 8,none⟩=some (.int .i64 v.kind)/\wr.cell? ⟨b,off + j * 8 + 1,none⟩=some (.string v.attr)/\wr.cell? ⟨b,off + j * 8 + 2,none⟩=some (.slice v.qi v.ni v.ci)/\wr.cell? ⟨b,off + j * 8 + 3,none⟩=some (.slice v.qw v.nw v.cw)/\wr.cell? ⟨b,off + j * 8 + 4,none⟩=some (.int .i64 v.lo)/\wr.cell? ⟨b,off + j * 8 + 5,none⟩=some (.int .i64 v.hi)/\wr.cell? ⟨b,off + j * 8 + 6,none⟩=some (.int .i64 v.op)/\wr.cell? ⟨b,off + j * 8 + 7,none⟩=some (.slice v.qk v.nk v.ck)):=by
 obtain ⟨b,off,v,hq,hb,hin,c⟩:=(h.below hbel).at hj
 exact ⟨b,off,v,hq,hb,hin,c⟩
end Go.Proofs.YtencibjmiphinaaGreatDoor
namespace Go.Proofs.YtencibjmiphinaaGreatDoor
open Go.RowKit Go.Sort
theorem LsOf.take {α:Type} [Inhabited α] {enc:α->List Value} {k:Nat} {w:World} {q:Option Addr} {l m:List α} (hk:0 < k) (h:LsOf enc k w q (l ++ m)):LsOf enc k w q l:=fun h0=>by
 obtain ⟨b,off,hq,hb,hA⟩:=h (by simp;omega)
 refine ⟨b,off,hq,hb,fun j u hj=>hA j u ?_⟩
 rw [flat_app enc k hk,List.getElem?_append_left (List.getElem?_eq_some_iff.1 hj).1];exact hj
theorem OwnI {B:Nat} {w:World} {q:Option Addr} {cap:Nat} {l:List Int} (h:OwnK encI 3 1 B w q cap (l ++ [-77,-78])):∃ g,q=some ⟨g,0,none⟩:=by
 rcases h.2 with ⟨h0,_⟩ | ⟨g,cp,cur,hv,_⟩
 ·injection h0 with _ h1;simp at h1
 ·injection hv with h1;exact ⟨g,h1⟩
theorem makeI (n:Nat) (h:n * 8<=140737488355328):∃ cur:Array Value,cur.size=n * 1/\∀ W:World,(Instr.makeSlice 23 (.int .i64 0) (.int .i64 (n:Int))).run Tryz.prog W=.ok (.slice (some ⟨W.heap.size,0,none⟩) 0 n) (W.alloc (.cells cur 3)):=by
 obtain ⟨i0,hi,hz0,hz1,hz2⟩:=info_parts Tryz.info3
 refine ⟨madeCells (Value.cells (.int .i64 0)) (n * i0.size),by rw [size_madeCells,hz1],fun W=>?_⟩
 have:=run_make (P:=Tryz.prog) W 23 3 i0 _ Tryz.underlying23 hi hz0 .i64 .i64 0 (n:Int) (Int.le_refl _) (by omega) (by rw [hz2];omega) (by omega)
 simpa only [Int.toNat_zero,Int.toNat_natCast] using this
theorem ownI {B:Nat} {w:World} {n:Nat} {cur:Array Value} (hB:B<=w.heap.size) (hn:n<=maxLen) (hs:cur.size=n * 1):OwnK encI 3 1 B (w.alloc (.cells cur 3)) (some ⟨w.heap.size,0,none⟩) n []:=by
 have:(flatK encI 1 ([]:List Int).toArray).toList=[]:=by simp [flatK]
 unfold OwnK;rw [this];exact World.ownsRow_made w cur n hB hn hs
theorem twoI {w:World} {M:Nat} {x y:Int} (h:w.heap[M]? = some (.cells #[.int .i64 x,.int .i64 y] 3 (0,0))):SrcK encI 1 w (some ⟨M,0,none⟩) 2 [x,y]:=by
 refine ⟨(fun h=>by cases h),fun ad hq j u hj=>?_⟩
 cases hq
 rw [add_plain,Nat.zero_add]
 have hs:=(List.getElem?_eq_some_iff.1 hj).1
 simp at hs
 have hc:w.cell? ⟨M,j,none⟩=(#[.int .i64 x,.int .i64 y]:Array Value)[j]?:=(by unfold World.cell?;simp [h])
 rw [hc]
 obtain rfl | rfl:j=0 ∨ j=1:=by omega
 ·exact (flat_at (enc:=encI) (k:=1) (l:=[x,y]) (j:=0) (x:=x) rfl 0 (by omega)).symm.trans hj
 ·exact (flat_at (enc:=encI) (k:=1) (l:=[x,y]) (j:=1) (x:=y) rfl 0 (by omega)).symm.trans hj
def spI:List Int:=[-77,-78]
set_option maxHeartbeats 1000000 in
set_option maxRecDepth 100000 in
theorem memI (q:Option Addr) (c:Nat) (l:List Int) (w:World) (h:SlOf encI 1 w q c l) (hl:l.length * 8 + 64<=140737488355328) :
  Calls Tryz.prog 66 #[.slice q l.length c] w fun e w'=>(∃ g cp,e=.returned (.slice (some ⟨g,0,none⟩) l.length cp)/\OwnK encI 3 1 w.heap.size w' (some ⟨g,0,none⟩) cp (l ++ spI)/\l.length + 2<=cp)/\Below w.heap.size w w':=by
 have HS:=hide h
 have l0:(0:Int)<=(l.length:Int):=by omega
 obtain ⟨cur,hcs,hmk⟩:=makeI (l.length + 2) (by omega)
 have hmk':∀ W:World,(Instr.makeSlice 23 (.int .i64 0) (.int .i64 ((l.length:Int) + 2))).run Tryz.prog W=.ok (.slice (some ⟨W.heap.size,0,none⟩) 0 (l.length + 2)) (W.alloc (.cells cur 3)):=fun W=>by have:=hmk W;rwa [Int.natCast_add] at this
 have Hcs:=hide hcs
 clear h hmk hcs
 go_enter Tryz.func66,Tryz.ntmps66
 go_wp2_with (first
  | (at_builtin;refine wpList_app rowI rfl _ _ rfl w.heap.size q8 cp8 l (some ⟨w8.heap.size,0,none⟩) 2 spI l.length 2 (l.length + 2) rfl rfl rfl rfl rfl ((uh Hown8).below ((Below.refl _ _).alloc (Nat.le_refl _) _)) (twoI (box_nw _ _)) (by unfold maxLen;omega) (by omega) (by have:=(uh B8).size;simp;omega) ?_;intro q9 cp9 w9 hown9 hb9 hnn9 _;obtain ⟨g9,hg9⟩:=OwnI hown9;subst hg9;have hc9:=hown9.ls.2.1;have c9:(l.length:Int)<=(cp9:Int):=(by simp [spI] at hc9;omega);have Hown9:=hide hown9;have B9:=hide (((uh B8).alloc (uh B8).size _).trans hb9);clear hown9 hb9 hnn9)
  | (at_builtin;refine wpList_app rowI rfl _ _ rfl w.heap.size (some ⟨w.heap.size,0,none⟩) (l.length + 2) [] q c l 0 l.length l.length rfl rfl (by simp) rfl rfl (ownI (Nat.le_refl _) (by unfold maxLen;omega) (uh Hcs)) ((uh HS).below ((Below.refl _ _).alloc (Nat.le_refl _) _)).src (by unfold maxLen;omega) (by omega) (by simp) ?_;intro q8 cp8 w8 hown8 hb8 _ _;have Hown8:=hide hown8;have B8:=hide (((Below.refl w.heap.size w).alloc (Nat.le_refl _) (.cells cur 3)).trans hb8);clear hown8 hb8))
 go_ret
 exact ⟨⟨g9,cp9,rfl,uh Hown9,by simp [spI] at hc9;exact hc9⟩,uh B9⟩
theorem OwnS {B:Nat} {w:World} {q:Option Addr} {cap:Nat} {l:List ByteArray} (h:OwnK encS 9 1 B w q cap (l ++ [⟨#[115,112,97,114,101]⟩,⟨#[114,111,111,109]⟩])):∃ g,q=some ⟨g,0,none⟩:=by
 rcases h.2 with ⟨h0,_⟩ | ⟨g,cp,cur,hv,_⟩
 ·injection h0 with _ h1;simp at h1
 ·injection hv with h1;exact ⟨g,h1⟩
theorem makeS (n:Nat) (h:n * 16<=140737488355328):∃ cur:Array Value,cur.size=n * 1/\∀ W:World,(Instr.makeSlice 24 (.int .i64 0) (.int .i64 (n:Int))).run Tryz.prog W=.ok (.slice (some ⟨W.heap.size,0,none⟩) 0 n) (W.alloc (.cells cur 9)):=by
 obtain ⟨i0,hi,hz0,hz1,hz2⟩:=info_parts Tryz.info9
 refine ⟨madeCells (Value.cells (.string ⟨#[]⟩)) (n * i0.size),by rw [size_madeCells,hz1],fun W=>?_⟩
 have:=run_make (P:=Tryz.prog) W 24 9 i0 _ Tryz.underlying24 hi hz0 .i64 .i64 0 (n:Int) (Int.le_refl _) (by omega) (by rw [hz2];omega) (by omega)
 simpa only [Int.toNat_zero,Int.toNat_natCast] using this
theorem ownS {B:Nat} {w:World} {n:Nat} {cur:Array Value} (hB:B<=w.heap.size) (hn:n<=maxLen) (hs:cur.size=n * 1):OwnK encS 9 1 B (w.alloc (.cells cur 9)) (some ⟨w.heap.size,0,none⟩) n []:=by
 have:(flatK encS 1 ([]:List ByteArray).toArray).toList=[]:=by simp [flatK]
 unfold OwnK;rw [this];exact World.ownsRow_made w cur n hB hn hs
theorem twoS {w:World} {M:Nat} {x y:ByteArray} (h:w.heap[M]? = some (.cells #[.string x,.string y] 9 (0,0))):SrcK encS 1 w (some ⟨M,0,none⟩) 2 [x,y]:=by
 refine ⟨(fun h=>by cases h),fun ad hq j u hj=>?_⟩
 cases hq
 rw [add_plain,Nat.zero_add]
 have hs:=(List.getElem?_eq_some_iff.1 hj).1
 simp at hs
 have hc:w.cell? ⟨M,j,none⟩=(#[.string x,.string y]:Array Value)[j]?:=(by unfold World.cell?;simp [h])
 rw [hc]
 obtain rfl | rfl:j=0 ∨ j=1:=by omega
 ·exact (flat_at (enc:=encS) (k:=1) (l:=[x,y]) (j:=0) (x:=x) rfl 0 (by omega)).symm.trans hj
 ·exact (flat_at (enc:=encS) (k:=1) (l:=[x,y]) (j:=1) (x:=y) rfl 0 (by omega)).symm.trans hj
def spS:List ByteArray:=[⟨#[115,112,97,114,101]⟩,⟨#[114,111,111,109]⟩]
set_option maxHeartbeats 1000000 in
set_option maxRecDepth 100000 in
theorem memS (q:Option Addr) (c:Nat) (l:List ByteArray) (w:World) (h:SlOf encS 1 w q c l) (hl:l.length * 16 + 64<=140737488355328) :
  Calls Tryz.prog 67 #[.slice q l.length c] w fun e w'=>(∃ g cp,e=.returned (.slice (some ⟨g,0,none⟩) l.length cp)/\OwnK encS 9 1 w.heap.size w' (some ⟨g,0,none⟩) cp (l ++ spS)/\l.length + 2<=cp)/\Below w.heap.size w w':=by
 have HS:=hide h
 have l0:(0:Int)<=(l.length:Int):=by omega
 obtain ⟨cur,hcs,hmk⟩:=makeS (l.length + 2) (by omega)
 have hmk':∀ W:World,(Instr.makeSlice 24 (.int .i64 0) (.int .i64 ((l.length:Int) + 2))).run Tryz.prog W=.ok (.slice (some ⟨W.heap.size,0,none⟩) 0 (l.length + 2)) (W.alloc (.cells cur 9)):=fun W=>by have:=hmk W;rwa [Int.natCast_add] at this
 have Hcs:=hide hcs
 clear h hmk hcs
 go_enter Tryz.func67,Tryz.ntmps67
 go_wp2_with (first
  | (at_builtin;refine wpList_app rowS rfl _ _ rfl w.heap.size q8 cp8 l (some ⟨w8.heap.size,0,none⟩) 2 spS l.length 2 (l.length + 2) rfl rfl rfl rfl rfl ((uh Hown8).below ((Below.refl _ _).alloc (Nat.le_refl _) _)) (twoS (box_nw _ _)) (by unfold maxLen;omega) (by omega) (by have:=(uh B8).size;simp;omega) ?_;intro q9 cp9 w9 hown9 hb9 hnn9 _;obtain ⟨g9,hg9⟩:=OwnS hown9;subst hg9;have hc9:=hown9.ls.2.1;have c9:(l.length:Int)<=(cp9:Int):=(by simp [spS] at hc9;omega);have Hown9:=hide hown9;have B9:=hide (((uh B8).alloc (uh B8).size _).trans hb9);clear hown9 hb9 hnn9)
  | (at_builtin;refine wpList_app rowS rfl _ _ rfl w.heap.size (some ⟨w.heap.size,0,none⟩) (l.length + 2) [] q c l 0 l.length l.length rfl rfl (by simp) rfl rfl (ownS (Nat.le_refl _) (by unfold maxLen;omega) (uh Hcs)) ((uh HS).below ((Below.refl _ _).alloc (Nat.le_refl _) _)).src (by unfold maxLen;omega) (by omega) (by simp) ?_;intro q8 cp8 w8 hown8 hb8 _ _;have Hown8:=hide hown8;have B8:=hide (((Below.refl w.heap.size w).alloc (Nat.le_refl _) (.cells cur 9)).trans hb8);clear hown8 hb8))
 go_ret
 exact ⟨⟨g9,cp9,rfl,uh Hown9,by simp [spS] at hc9;exact hc9⟩,uh B9⟩
end Go.Proofs.YtencibjmiphinaaGreatDoor
namespace Go.Proofs.YtencibjmiphinaaGreatDoor
open Go.RowKit
def numOk (n:Int):Bool:=decide (-2147483648<=n) && decide (n<=2147483647)
def wordOk (s:ByteArray):Bool:=decide (s.size<=64)
theorem chk_num (n:Int):chkV 1 n ⟨#[]⟩=if numOk n then 0 else 1:=by
 cases h:numOk n with
 | true =>
  unfold numOk at h
  simp only [Bool.and_eq_true,decide_eq_true_eq] at h
  rw [if_pos rfl];exact chk_yes1 rfl h.1 h.2 ((empty_iff _).2 rfl)
 | false =>
  unfold numOk at h
  rw [if_neg (by simp)]
  refine chk_no1 rfl fun h2=>?_
  simp only [Bool.and_eq_false_iff,decide_eq_false_iff_not] at h
  omega
theorem chk_word (s:ByteArray):chkV 2 0 s=if wordOk s then 0 else 1:=by
 cases h:wordOk s with
 | true =>
  unfold wordOk at h
  simp only [decide_eq_true_eq] at h
  rw [if_pos rfl];exact chk_yes2 rfl rfl (by omega)
 | false =>
  unfold wordOk at h
  rw [if_neg (by simp)]
  refine chk_no2 rfl fun h2=>?_
  simp only [decide_eq_false_iff_not] at h
  omega
set_option maxHeartbeats 400000 in
theorem number_any (n:Int) (w:World):Calls Tryz.prog 110 #[.int .i64 n] w fun e w'=>e=.returned (.agg #[.int .i64 1,.int .i64 n,.string ⟨#[]⟩])/\Below w.heap.size w w':=by
 go_enter Tryz.func110,Tryz.ntmps110
 go_wp2
 refine bodyPost_ret (v:=.agg #[.int .i64 1,.int .i64 n,.string ⟨#[]⟩]) (by simp [results,Tryz.results110,go_sem]) rfl ⟨rfl, ?_⟩
 exact (Below.refl _ _).alloc (Nat.le_refl _) _
set_option maxHeartbeats 400000 in
theorem word_any (s:ByteArray) (w:World):Calls Tryz.prog 112 #[.string s] w fun e w'=>e=.returned (.agg #[.int .i64 2,.int .i64 0,.string s])/\Below w.heap.size w w':=by
 go_enter Tryz.func112,Tryz.ntmps112
 go_wp2
 refine bodyPost_ret (v:=.agg #[.int .i64 2,.int .i64 0,.string s]) (by simp [results,Tryz.results112,go_sem]) rfl ⟨rfl, ?_⟩
 exact (Below.refl _ _).alloc (Nat.le_refl _) _
set_option maxHeartbeats 400000 in
theorem isNumber_any (n:Int) (w:World):Calls Tryz.prog 78 #[.int .i64 n] w fun e w'=>e=.returned (.bool (numOk n))/\Below w.heap.size w w':=by
 have hc:=fun w=>check_any 1 n ⟨#[]⟩ w
 rw [chk_num] at hc
 cases h:numOk n
 all_goals
  simp only [h,if_true,Bool.false_eq_true,if_false] at hc
  clear h
  go_enter Tryz.func78,Tryz.ntmps78
  go_wp2_with (first
   | (go_at_call 110;refine (number_any n _).mono ?_;rintro e w1 ⟨rfl,b1⟩)
   | (go_at_call 115;refine (hc _).mono ?_;rintro e w2 ⟨rfl,b2⟩))
  go_ret
  exact ⟨rfl,below_sub b1 b2⟩
set_option maxHeartbeats 400000 in
theorem isWord_any (s:ByteArray) (w:World):Calls Tryz.prog 80 #[.string s] w fun e w'=>e=.returned (.bool (wordOk s))/\Below w.heap.size w w':=by
 have hc:=fun w=>check_any 2 0 s w
 rw [chk_word] at hc
 cases h:wordOk s
 all_goals
  simp only [h,if_true,Bool.false_eq_true,if_false] at hc
  clear h
  go_enter Tryz.func80,Tryz.ntmps80
  go_wp2_with (first
   | (go_at_call 112;refine (word_any s _).mono ?_;rintro e w1 ⟨rfl,b1⟩)
   | (go_at_call 115;refine (hc _).mono ?_;rintro e w2 ⟨rfl,b2⟩))
  go_ret
  exact ⟨rfl,below_sub b1 b2⟩
/-- One member at least, no more than m, and each good. -/
def memB {α:Type} (ok:α->Bool) (l:List α) (m:Int):Bool:=l.all ok && (decide (1<=l.length) && decide ((l.length:Int)<=m))
theorem all_no {α:Type} {ok:α->Bool} {l:List α} {k:Nat} {x:α} (hx:l[k]? = some x) (h:ok x=false) (m:Int):memB ok l m=false:=by
 unfold memB
 have:l.all ok=false:=by
  rw [List.all_eq_false];exact ⟨x,List.mem_of_getElem? hx,by simp [h]⟩
 rw [this];rfl
theorem all_yes {α:Type} {ok:α->Bool} {l:List α} (h:∀ (j:Nat) (x:α),j < l.length->l[j]? = some x->ok x=true) (m:Int):memB ok l m=(decide (1<=l.length) && decide ((l.length:Int)<=m)):=by
 unfold memB
 have:l.all ok=true:=by
  rw [List.all_eq_true];intro x hx
  obtain ⟨j,hj⟩:=List.getElem?_of_mem hx
  exact h j x (List.getElem?_eq_some_iff.1 hj).1 hj
 rw [this];rfl
set_option maxHeartbeats 1000000 in
theorem membersI (q:Option Addr) (c:Nat) (l:List Int) (m:Int) (w:World) (h:SlOf encI 1 w q c l) (hl:l.length<=1000000000000000000) :
  Calls Tryz.prog 77 #[.slice q l.length c,.int .i64 m,.func (.func 78) #[] #[]] w fun e w'=>e=.returned (.bool (memB numOk l m))/\Below w.heap.size w w':=by
 have HA:=hide h
 have a0:(l.length:Int)<=1000000000000000000:=by omega
 clear h
 go_enter Tryz.func77,Tryz.ntmps77
 go_wp2
 go_loopw [11] (fun i wr=>∃ k:Nat,k<=l.length/\i=.int .i64 k/\(∀ (j:Nat) (x:Int),j < k->l[j]? = some x->numOk x=true)/\Below w.heap.size w wr) (fun i _=>l.length - (intOf i).toNat)
 case atStart=>exact ⟨0,by omega,rfl,fun j x h=>absurd h (by omega),Below.refl _ _⟩
 case round =>
  obtain ⟨k,hk,rfl,hall,hbel⟩:=hrel
  have HALL:=hide hall
  have HB:=hide hbel
  by_cases hlt:k < l.length
  ·obtain ⟨x,hx,hxd⟩:=get_at hlt
   obtain ⟨b,off,hq,hb,hc⟩:=intsAt (uh HA) hx
   subst hq
   have g:=(hbel.cell (p:=⟨b,off + k,none⟩) hb).trans hc
   have ki0:(0:Int)<=(k:Int):=by omega
   have ki1:(k:Int) < (l.length:Int):=by omega
   have hn:=fun w=>isNumber_any x w
   cases hok:numOk x with
   | true =>
    rw [hok] at hn
    have HN:=hide (show ∀ (j:Nat) (y:Int),j < k + 1->l[j]? = some y->numOk y=true from fun j y hj hy=>by
     by_cases e:j=k
     ·subst e;rw [hx] at hy;cases hy;exact hok
     ·exact hall j y (by omega) hy)
    clear hall hbel hxd hx hc hok
    go_wp2_with (go_at_call 78;refine (hn _).mono ?_;rintro e w1 ⟨rfl,b1⟩)
    exact ⟨⟨k + 1,by omega,by go_num,uh HN,below_sub (uh HB) b1⟩,by simp [intOf];omega⟩
   | false =>
    rw [hok] at hn
    have HN:=hide (all_no hx hok m)
    clear hall hbel hxd hx hc hok
    go_wp2_with (go_at_call 78;refine (hn _).mono ?_;rintro e w1 ⟨rfl,b1⟩)
    go_ret
    exact ⟨ret_bool (uh HN).symm,below_sub (uh HB) b1⟩
  ·have ki1:¬ (k:Int) < (l.length:Int):=by omega
   have HN:=hide (all_yes (ok:=numOk) (l:=l) (fun j x hj hx=>hall j x (by omega) hx) m)
   clear hall hbel
   by_cases h1:1<=l.length <;> by_cases h2:(l.length:Int)<=m
   all_goals
    have h3:decide ((1:Int)<=(l.length:Int))=decide (1<=l.length):=by simp;omega
    go_wp2
    go_ret
    exact ⟨ret_bool (by rw [uh HN];simp [h1,h2]),uh HB⟩
set_option maxHeartbeats 1000000 in
theorem membersW (q:Option Addr) (c:Nat) (l:List ByteArray) (m:Int) (w:World) (h:SlOf encS 1 w q c l) (hl:l.length<=1000000000000000000) :
  Calls Tryz.prog 79 #[.slice q l.length c,.int .i64 m,.func (.func 80) #[] #[]] w fun e w'=>e=.returned (.bool (memB wordOk l m))/\Below w.heap.size w w':=by
 have HA:=hide h
 have a0:(l.length:Int)<=1000000000000000000:=by omega
 clear h
 go_enter Tryz.func79,Tryz.ntmps79
 go_wp2
 go_loopw [11] (fun i wr=>∃ k:Nat,k<=l.length/\i=.int .i64 k/\(∀ (j:Nat) (x:ByteArray),j < k->l[j]? = some x->wordOk x=true)/\Below w.heap.size w wr) (fun i _=>l.length - (intOf i).toNat)
 case atStart=>exact ⟨0,by omega,rfl,fun j x h=>absurd h (by omega),Below.refl _ _⟩
 case round =>
  obtain ⟨k,hk,rfl,hall,hbel⟩:=hrel
  have HALL:=hide hall
  have HB:=hide hbel
  by_cases hlt:k < l.length
  ·obtain ⟨x,hx,hxd⟩:=get_at hlt
   obtain ⟨b,off,hq,hb,hc⟩:=wordsAt (uh HA) hx
   subst hq
   have g:=(hbel.cell (p:=⟨b,off + k,none⟩) hb).trans hc
   have ki0:(0:Int)<=(k:Int):=by omega
   have ki1:(k:Int) < (l.length:Int):=by omega
   have hn:=fun w=>isWord_any x w
   cases hok:wordOk x with
   | true =>
    rw [hok] at hn
    have HN:=hide (show ∀ (j:Nat) (y:ByteArray),j < k + 1->l[j]? = some y->wordOk y=true from fun j y hj hy=>by
     by_cases e:j=k
     ·subst e;rw [hx] at hy;cases hy;exact hok
     ·exact hall j y (by omega) hy)
    clear hall hbel hxd hx hc hok
    go_wp2_with (go_at_call 80;refine (hn _).mono ?_;rintro e w1 ⟨rfl,b1⟩)
    exact ⟨⟨k + 1,by omega,by go_num,uh HN,below_sub (uh HB) b1⟩,by simp [intOf];omega⟩
   | false =>
    rw [hok] at hn
    have HN:=hide (all_no hx hok m)
    clear hall hbel hxd hx hc hok
    go_wp2_with (go_at_call 80;refine (hn _).mono ?_;rintro e w1 ⟨rfl,b1⟩)
    go_ret
    exact ⟨ret_bool (uh HN).symm,below_sub (uh HB) b1⟩
  ·have ki1:¬ (k:Int) < (l.length:Int):=by omega
   have HN:=hide (all_yes (ok:=wordOk) (l:=l) (fun j x hj hx=>hall j x (by omega) hx) m)
   clear hall hbel
   by_cases h1:1<=l.length <;> by_cases h2:(l.length:Int)<=m
   all_goals
    have h3:decide ((1:Int)<=(l.length:Int))=decide (1<=l.length):=by simp;omega
    go_wp2
    go_ret
    exact ⟨ret_bool (by rw [uh HN];simp [h1,h2]),uh HB⟩
def emptyB (ni nw:Nat) (lo hi:Int):Bool:=decide (ni=0) && (decide (nw=0) && (decide (lo=0) && decide (hi=0)))
set_option maxHeartbeats 1000000 in
theorem empty_any (kind:Int) (attr:ByteArray) (qi:Option Addr) (ni ci:Nat) (qw:Option Addr) (nw cw:Nat) (lo hi:Int) (w:World) :
  Calls Tryz.prog 81 #[.agg #[.int .i64 kind,.string attr,.slice qi ni ci,.slice qw nw cw,.int .i64 lo,.int .i64 hi]] w fun e w'=>e=.returned (.bool (emptyB ni nw lo hi))/\Below w.heap.size w w':=by
 by_cases h1:ni=0 <;> by_cases h2:nw=0 <;> by_cases h3:lo=0 <;> by_cases h4:hi=0
 all_goals
  have i1:=h1;have i2:=h2;have i3:=h3;have i4:=h4
  try subst h1
  try subst h2
  try subst h3
  try subst h4
  go_enter Tryz.func81,Tryz.ntmps81
  go_wp2
  go_ret
  exact ⟨ret_bool (by simp [emptyB, *]),(Below.refl _ _).alloc (Nat.le_refl _) _⟩
end Go.Proofs.YtencibjmiphinaaGreatDoor
