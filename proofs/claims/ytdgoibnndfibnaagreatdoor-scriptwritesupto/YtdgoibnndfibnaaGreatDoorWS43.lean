/- What the memory helpers do with lists of numbers and of pairs: Ints, Pairs, SameInts, SamePairs, KeptInts, KeptPairs. -/
import Derived.Test.YtdgoibnndfibnaaGreatDoorWZar
import Derived.Test.YtdgoibnndfibnaaGreatDoorWSBase
namespace Go.Proofs.YtdgoibnndfibnaaGreatDoor
open Go.RowKit Go.Sort
theorem LsOf.take {α:Type} [Inhabited α] {enc:α->List Value} {k:Nat} {w:World} {q:Option Addr} {l m:List α} (hk:0 < k) (h:LsOf enc k w q (l ++ m)):LsOf enc k w q l:=fun h0=>by
 obtain ⟨b,off,hq,hb,hA⟩:=h (by simp;omega)
 refine ⟨b,off,hq,hb,fun j u hj=>hA j u ?_⟩
 rw [flat_app enc k hk,List.getElem?_append_left (List.getElem?_eq_some_iff.1 hj).1];exact hj
theorem OwnI {B:Nat} {w:World} {q:Option Addr} {cap:Nat} {l:List Int} (h:OwnK encI 3 1 B w q cap (l ++ [-77,-78])):∃ g,q=some ⟨g,0,none⟩:=by
 rcases h.2 with ⟨h0,_⟩ | ⟨g,cp,cur,hv,_⟩
 ·injection h0 with _ h1;simp at h1
 ·injection hv with h1;exact ⟨g,h1⟩
theorem makeI (n:Nat) (h:n * 8<=140737488355328):∃ cur:Array Value,cur.size=n * 1/\∀ W:World,(Instr.makeSlice 40 (.int .i64 0) (.int .i64 (n:Int))).run Tryz.prog W=.ok (.slice (some ⟨W.heap.size,0,none⟩) 0 n) (W.alloc (.cells cur 3)):=by
 obtain ⟨i0,hi,hz0,hz1,hz2⟩:=info_parts Tryz.info3
 refine ⟨madeCells (Value.cells (.int .i64 0)) (n * i0.size),by rw [size_madeCells,hz1],fun W=>?_⟩
 have:=run_make (P:=Tryz.prog) W 40 3 i0 _ Tryz.underlying40 hi hz0 .i64 .i64 0 (n:Int) (Int.le_refl _) (by omega) (by rw [hz2];omega) (by omega)
 simpa only [Int.toNat_zero,Int.toNat_natCast] using this
theorem ownI {B:Nat} {w:World} {n:Nat} {cur:Array Value} (hB:B<=w.heap.size) (hn:n<=maxLen) (hs:cur.size=n * 1):OwnK encI 3 1 B (w.alloc (.cells cur 3)) (some ⟨w.heap.size,0,none⟩) n []:=by
 have:(flatK encI 1 ([]:List Int).toArray).toList=[]:=by simp [flatK]
 unfold OwnK;rw [this];exact World.ownsRow_made w cur n hB hn hs
theorem twoI {w:World} {M:Nat} {x y:Int} (h:w.heap[M]? = some (.cells #[.int .i64 x,.int .i64 y] 3 (0,0))):SrcK encI 1 w (some ⟨M,0,none⟩) 2 [x,y]:=by
 refine ⟨(fun h=>by cases h),fun ad hq j u hj=>?_⟩
 cases hq
 rw [add_plain,Nat.zero_add]
 have hs:=(List.getElem?_eq_some_iff.1 hj).1
 simp at hs
 have hc:w.cell? ⟨M,j,none⟩=(#[.int .i64 x,.int .i64 y]:Array Value)[j]?:=(by unfold World.cell?;simp [h])
 rw [hc]
 obtain rfl | rfl:j=0 ∨ j=1:=by omega
 ·exact (flat_at (enc:=encI) (k:=1) (l:=[x,y]) (j:=0) (x:=x) rfl 0 (by omega)).symm.trans hj
 ·exact (flat_at (enc:=encI) (k:=1) (l:=[x,y]) (j:=1) (x:=y) rfl 0 (by omega)).symm.trans hj
def spI:List Int:=[-77,-78]
set_option maxHeartbeats 1000000 in
set_option maxRecDepth 100000 in
theorem memI (q:Option Addr) (c:Nat) (l:List Int) (w:World) (h:SlOf encI 1 w q c l) (hl:l.length * 8 + 64<=140737488355328) :
  Calls Tryz.prog 23 #[.slice q l.length c] w fun e w'=>(∃ g cp,e=.returned (.slice (some ⟨g,0,none⟩) l.length cp)/\OwnK encI 3 1 w.heap.size w' (some ⟨g,0,none⟩) cp (l ++ spI)/\l.length + 2<=cp)/\Below w.heap.size w w':=by
 have HS:=hide h
 have l0:(0:Int)<=(l.length:Int):=by omega
 obtain ⟨cur,hcs,hmk⟩:=makeI (l.length + 2) (by omega)
 have hmk':∀ W:World,(Instr.makeSlice 40 (.int .i64 0) (.int .i64 ((l.length:Int) + 2))).run Tryz.prog W=.ok (.slice (some ⟨W.heap.size,0,none⟩) 0 (l.length + 2)) (W.alloc (.cells cur 3)):=fun W=>by have:=hmk W;rwa [Int.natCast_add] at this
 have Hcs:=hide hcs
 clear h hmk hcs
 go_enter Tryz.func23,Tryz.ntmps23
 go_wp2_with (first
  | (at_builtin;refine wpList_app rowI rfl _ _ rfl w.heap.size q8 cp8 l (some ⟨w8.heap.size,0,none⟩) 2 spI l.length 2 (l.length + 2) rfl rfl rfl rfl rfl ((uh Hown8).below ((Below.refl _ _).alloc (Nat.le_refl _) _)) (twoI (box_new _ _)) (by unfold maxLen;omega) (by omega) (by have:=(uh B8).size;simp;omega) ?_;intro q9 cp9 w9 hown9 hb9 hnn9 _;obtain ⟨g9,hg9⟩:=OwnI hown9;subst hg9;have hc9:=hown9.ls.2.1;have c9:(l.length:Int)<=(cp9:Int):=(by simp [spI] at hc9;omega);have Hown9:=hide hown9;have B9:=hide (((uh B8).alloc (uh B8).size _).trans hb9);clear hown9 hb9 hnn9)
  | (at_builtin;refine wpList_app rowI rfl _ _ rfl w.heap.size (some ⟨w.heap.size,0,none⟩) (l.length + 2) [] q c l 0 l.length l.length rfl rfl (by simp) rfl rfl (ownI (Nat.le_refl _) (by unfold maxLen;omega) (uh Hcs)) ((uh HS).below ((Below.refl _ _).alloc (Nat.le_refl _) _)).src (by unfold maxLen;omega) (by omega) (by simp) ?_;intro q8 cp8 w8 hown8 hb8 _ _;have Hown8:=hide hown8;have B8:=hide (((Below.refl w.heap.size w).alloc (Nat.le_refl _) (.cells cur 3)).trans hb8);clear hown8 hb8))
 go_ret
 exact ⟨⟨g9,cp9,rfl,uh Hown9,by simp [spI] at hc9;exact hc9⟩,uh B9⟩
set_option maxRecDepth 100000 in
set_option maxHeartbeats 2000000 in
theorem memEqI (q:Option Addr) (c:Nat) (l:List Int) (q':Option Addr) (c':Nat) (m:List Int) (w:World) (h1:SlOf encI 1 w q c l) (h2:SlOf encI 1 w q' c' m) (hl:l.length<=100000000000000) :
  Calls Tryz.prog 38 #[.slice q l.length c,.slice q' m.length c'] w fun e w'=>e=.returned (.bool (decide (l=m)))/\Below w.heap.size w w':=by
 by_cases hlm:l.length=m.length
 ·rw [<- hlm]
  have H1:=hide h1
  have H2:=hide h2
  have hnn:((l.length:Int) != (l.length:Int))=false:=by simp
  have a0:(l.length:Int)<=100000000000000:=by omega
  have HLM:=hide hlm
  clear h1 h2 hlm
  go_enter Tryz.func38,Tryz.ntmps38
  go_wp2
  go_loopw [13] (fun i wr=>∃ k:Nat,k<=l.length/\i=.int .i64 k/\l.take k=m.take k/\Below w.heap.size w wr) (fun i _=>l.length - (intOf i).toNat)
  case atStart=>exact ⟨0,by omega,rfl,rfl,Below.refl _ _⟩
  case round =>
   obtain ⟨k,hk,rfl,hpre,hbel⟩:=hrel
   have HB:=hide hbel
   have HP:=hide hpre
   by_cases hlt:k < l.length
   ·obtain ⟨x,hx,_⟩:=get_at hlt
    obtain ⟨y,hy,_⟩:=get_at (l:=m) (k:=k) (by have:=uh HLM;omega)
    obtain ⟨b,off,hq,_,g1⟩:=intsAt ((uh H1).below hbel) hx
    obtain ⟨b',off',hq',_,g2⟩:=intsAt ((uh H2).below hbel) hy
    subst hq
    subst hq'
    have ki0:(0:Int)<=(k:Int):=by omega
    have ki1:(k:Int) < (l.length:Int):=by omega
    by_cases hxy:x=y
    ·subst hxy
     have HN:=hide (pre_snoc hpre hx hy)
     clear hx hy hbel hpre
     go_wp2
     go_region_held3 (fun w'=>w'.cell? ⟨b,off + k,none⟩=some (.int .i64 x)/\w'.cell? ⟨b',off' + k,none⟩=some (.int .i64 x)) (go_keep) (fail)
     all_goals
      go_wp2
      go_roundw
      case rel=>exact ⟨k + 1,by omega,by go_num,uh HN,(uh HB).drew⟩
      case measure=>simp [intOf];omega
    ·have HN:=hide (pre_ne hx hy hxy)
     have hne:(x != y)=true:=by simpa using hxy
     clear hx hy hbel hpre
     go_wp2
     go_region_held3 (fun w'=>w'.cell? ⟨b,off + k,none⟩=some (.int .i64 x)/\w'.cell? ⟨b',off' + k,none⟩=some (.int .i64 y)) (go_keep) (fail)
     all_goals
      go_wp2
      go_ret
      exact ⟨ret_bool (by simp [uh HN]),(uh HB).drew⟩
   ·have ki1:¬ (k:Int) < (l.length:Int):=by omega
    have HN:=hide (show l=m by rw [<- List.take_of_length_le (l:=l) (i:=k) (by omega),hpre,List.take_of_length_le (by have:=uh HLM;omega)])
    clear hpre
    go_wp2
    go_ret
    exact ⟨ret_bool (by simp [uh HN]),uh HB⟩
 ·have hnn:((l.length:Int) != (m.length:Int))=true:=by rw [bne_iff_ne];omega
  have HN:=hide (show l ≠ m from fun e=>hlm (by rw [e]))
  clear h1 h2
  go_enter Tryz.func38,Tryz.ntmps38
  go_wp2
  go_ret
  exact ⟨ret_bool (by simp [uh HN]),Below.refl _ _⟩
set_option maxHeartbeats 1000000 in
set_option maxRecDepth 100000 in
theorem keptI (g cp:Nat) (q':Option Addr) (c':Nat) (l:List Int) (w:World) (hl:l.length<=100000000000000) (hN:LsOf encI 1 w (some ⟨g,0,none⟩) (l ++ spI)) (hc:l.length + 2<=cp) (hcm:cp<=maxLen) (hA':SlOf encI 1 w q' c' l) :
  Calls Tryz.prog 15 #[.slice (some ⟨g,0,none⟩) l.length cp,.slice q' l.length c'] w fun e w'=>e=.returned (.bool true)/\Below w.heap.size w w':=by
 have l0:(0:Int)<=(l.length:Int):=by omega
 have l1:(0:Int)<=(l.length:Int) + 2:=by omega
 have l2:(l.length:Int) + 2<=(cp:Int):=by omega
 have l3:(l.length:Int) < (l.length:Int) + 2:=by omega
 have l4:(l.length:Int) + 1 < (l.length:Int) + 2:=by omega
 have l5:(0:Int)<=(l.length:Int) + 1:=by omega
 have l6:(l.length:Int)<=100000000000000:=by omega
 obtain ⟨b,off,hb,hlt,hAt⟩:=hN (by simp [spI])
 cases hb
 have c0:w.cell? ⟨g,l.length,none⟩=some (.int .i64 (-77)):=by
  have:=hAt _ _ (flat_at (enc:=encI) (k:=1) (l:=l ++ spI) (j:=l.length) (x:=-77) (by simp [spI]) 0 (by omega))
  simpa [encI] using this
 have c1:w.cell? ⟨g,l.length + 1,none⟩=some (.int .i64 (-78)):=by
  have:=hAt _ _ (flat_at (enc:=encI) (k:=1) (l:=l ++ spI) (j:=l.length + 1) (x:=-78) (by simp [spI]) 0 (by omega))
  simpa [encI] using this
 have hAl:SlOf encI 1 w (some ⟨g,0,none⟩) cp l:=⟨(fun h=>by cases h),by omega,hcm,hN.take (by decide)⟩
 have hsame:=memEqI (some ⟨g,0,none⟩) cp l q' c' l w hAl hA' hl
 rw [decide_eq_true rfl] at hsame
 have hnn:((l.length:Int) != (l.length:Int))=false:=by simp
 clear hN hA' hAl hAt
 go_enter Tryz.func15,Tryz.ntmps15
 go_wp2_with (go_at_call 38;refine hsame.mono ?_;rintro e w1 ⟨rfl,b1⟩)
 go_ret
 exact ⟨rfl,b1⟩
set_option maxRecDepth 100000 in
theorem eqlQ_same (x:Pq) (w:World):(binOp .eql 78 (.agg #[.string x.1,.int .i64 x.2.1,.int .i64 x.2.2.1,.string x.2.2.2]) (.agg #[.string x.1,.int .i64 x.2.1,.int .i64 x.2.2.1,.string x.2.2.2])).run Tryz.prog w=.ok (.bool true) w:=by
 have u3:=Tryz.underlying3
 have a3:=Tryz.isAgg3
 have z3:=Tryz.sizeOf3
 have u9:=Tryz.underlying9
 have a9:=Tryz.isAgg9
 have z9:=Tryz.sizeOf9
 have a45:=Tryz.isAgg76
 have z45:=Tryz.sizeOf76
 have hS:Tryz.prog.underlying 78=some (.struct (Tryz.prog.fieldsOf 78)):=by kernel_rfl
 have hp:Tryz.prog.stoodInHeld 78=false:=by kernel_rfl
 have h45:(Op.equalIn 9999 76 (.agg #[.int .i64 x.2.1,.int .i64 x.2.2.1,.string x.2.2.2]) (.agg #[.int .i64 x.2.1,.int .i64 x.2.2.1,.string x.2.2.2])).run Tryz.prog w=.ok true w:=by
  clear hS hp
  have hS45:Tryz.prog.underlying 76=some (.struct (Tryz.prog.fieldsOf 76)):=by kernel_rfl
  have hp45:Tryz.prog.stoodInHeld 76=false:=by kernel_rfl
  rw [show (9999:Nat)=9998 + 1 from rfl,run_equalIn_agg w 9998 76 _ _ hS45 hp45]
  simp only [Program.fieldsOf,Tryz.underlying76]
  go_simp
 rw [run_eql_struct,show (10000:Nat)=9999 + 1 from rfl,run_equalIn_agg w 9999 78 _ _ hS hp]
 simp only [Program.fieldsOf,Tryz.underlying78]
 go_simp
/-- The pair that marks the spare room. -/
def spP:Pq:=⟨⟨#[115,112,97,114,101]⟩,0,0,⟨#[]⟩⟩
theorem makePr (n:Nat) (h:n * 48<=140737488355328):∃ cur:Array Value,cur.size=n * 4/\∀ W:World,(Instr.makeSlice 37 (.int .i64 0) (.int .i64 (n:Int))).run Tryz.prog W=.ok (.slice (some ⟨W.heap.size,0,none⟩) 0 n) (W.alloc (.cells cur 78)):=by
 obtain ⟨i0,hi,hz0,hz1,hz2⟩:=info_parts Tryz.info78
 refine ⟨madeCells (Value.agg #[.string ⟨#[]⟩,.int .i64 0,.int .i64 0,.string ⟨#[]⟩]).cells (n * i0.size),by rw [size_madeCells,hz1],fun W=>?_⟩
 have:=run_make (P:=Tryz.prog) W 37 78 i0 _ Tryz.underlying37 hi hz0 .i64 .i64 0 (n:Int) (Int.le_refl _) (by omega) (by rw [hz2];omega) (by omega)
 simpa only [Int.toNat_zero,Int.toNat_natCast] using this
theorem ownP {B:Nat} {w:World} {n:Nat} {cur:Array Value} (hB:B<=w.heap.size) (hn:n<=maxLen) (hs:cur.size=n * 4):OwnK encQ 78 4 B (w.alloc (.cells cur 78)) (some ⟨w.heap.size,0,none⟩) n []:=by
 have:(flatK encQ 4 ([]:List Pq).toArray).toList=[]:=by simp [flatK]
 unfold OwnK;rw [this];exact World.ownsRow_made w cur n hB hn hs
theorem OwnP {B:Nat} {w:World} {q:Option Addr} {cap:Nat} {l:List Pq} (h:OwnK encQ 78 4 B w q cap (l ++ [spP])):∃ g,q=some ⟨g,0,none⟩:=by
 rcases h.2 with ⟨h0,_⟩ | ⟨g,cp,cur,hv,_⟩
 ·injection h0 with _ h1;simp at h1
 ·injection hv with h1;exact ⟨g,h1⟩
theorem pr_src {w:World} {M:Nat} {u:Pq} (h:w.heap[M]? = some (.cells #[.string u.1,.int .i64 u.2.1,.int .i64 u.2.2.1,.string u.2.2.2] 78 (0,0))):SrcK encQ 4 w (some ⟨M,0,none⟩) 1 [u] :=
 ⟨(fun h=>by cases h),fun ad hq j z hj=>by
  cases hq
  rw [add_plain,Nat.zero_add]
  have hs:=(List.getElem?_eq_some_iff.1 hj).1
  simp [flatK] at hs
  have hc:w.cell? ⟨M,j,none⟩=(#[.string u.1,.int .i64 u.2.1,.int .i64 u.2.2.1,.string u.2.2.2]:Array Value)[j]?:=(by unfold World.cell?;simp [h])
  rw [hc]
  have e:=flat_at (enc:=encQ) (k:=4) (l:=[u]) (j:=0) (x:=u) rfl j hs
  rw [Nat.zero_mul,Nat.zero_add] at e
  rw [e] at hj
  obtain rfl | rfl | rfl | rfl:j=0 ∨ j=1 ∨ j=2 ∨ j=3:=by omega
  all_goals exact hj⟩
set_option maxHeartbeats 1000000 in
set_option maxRecDepth 100000 in
theorem memP (q:Option Addr) (c:Nat) (l:List Pq) (w:World) (h:SlOf encQ 4 w q c l) (hl:l.length * 48 + 64<=140737488355328) :
  Calls Tryz.prog 24 #[.slice q l.length c] w fun e w'=>(∃ g cp,e=.returned (.slice (some ⟨g,0,none⟩) l.length cp)/\OwnK encQ 78 4 w.heap.size w' (some ⟨g,0,none⟩) cp (l ++ [spP])/\l.length + 1<=cp)/\Below w.heap.size w w':=by
 have HS:=hide h
 have l0:(0:Int)<=(l.length:Int):=by omega
 obtain ⟨cur,hcs,hmk⟩:=makePr (l.length + 1) (by omega)
 have hmk':∀ W:World,(Instr.makeSlice 37 (.int .i64 0) (.int .i64 ((l.length:Int) + 1))).run Tryz.prog W=.ok (.slice (some ⟨W.heap.size,0,none⟩) 0 (l.length + 1)) (W.alloc (.cells cur 78)):=fun W=>by have:=hmk W;rwa [Int.natCast_add] at this
 have Hcs:=hide hcs
 clear h hmk hcs
 go_enter Tryz.func24,Tryz.ntmps24
 go_wp2_with (first
  | (at_builtin;refine wpList_app rowQ rfl _ _ rfl w.heap.size q8 cp8 l (some ⟨w8.heap.size,0,none⟩) 1 [spP] l.length 1 (l.length + 1) rfl rfl rfl rfl rfl ((uh Hown8).below ((Below.refl _ _).alloc (Nat.le_refl _) _)) (pr_src (box_new _ _)) (by unfold maxLen;omega) (by omega) (by have:=(uh B8).size;simp;omega) ?_;intro q9 cp9 w9 hown9 hb9 hnn9 _;obtain ⟨g9,hg9⟩:=OwnP hown9;subst hg9;have hc9:=hown9.ls.2.1;have c9:(l.length:Int)<=(cp9:Int):=(by simp at hc9;omega);have Hown9:=hide hown9;have B9:=hide (((uh B8).alloc (uh B8).size _).trans hb9);clear hown9 hb9 hnn9)
  | (at_builtin;refine wpList_app rowQ rfl _ _ rfl w.heap.size (some ⟨w.heap.size,0,none⟩) (l.length + 1) [] q c l 0 l.length l.length rfl rfl (by simp) rfl rfl (ownP (Nat.le_refl _) (by unfold maxLen;omega) (uh Hcs)) ((uh HS).below ((Below.refl _ _).alloc (Nat.le_refl _) _)).src (by unfold maxLen;omega) (by omega) (by simp) ?_;intro q8 cp8 w8 hown8 hb8 _ _;have Hown8:=hide hown8;have B8:=hide (((Below.refl w.heap.size w).alloc (Nat.le_refl _) (.cells cur 78)).trans hb8);clear hown8 hb8))
 go_ret
 exact ⟨⟨g9,cp9,rfl,uh Hown9,by simp at hc9;exact hc9⟩,uh B9⟩
set_option maxHeartbeats 1000000 in
theorem sameP_eq (p p':Option Addr) (cap cap':Nat) (l:List Pq) (w:World) (hm:l.length<=100000000000000) (hA:SlOf encQ 4 w p cap l) (hA':SlOf encQ 4 w p' cap' l) :
  Calls Tryz.prog 39 #[.slice p l.length cap,.slice p' l.length cap'] w fun e w'=>e=.returned (.bool true)/\Below w.heap.size w w':=by
 have HA:=hide hA
 have HA':=hide hA'
 have hne:=fun (x:Pq) (W:World)=>neqQ x x W
 have hnn:((l.length:Int) != (l.length:Int))=false:=by simp
 have a0:(l.length:Int)<=100000000000000:=by omega
 clear hA hA'
 go_enter Tryz.func39,Tryz.ntmps39
 go_wp2
 go_loopw [13] (fun i wr=>∃ k:Nat,k<=l.length/\i=.int .i64 k/\Below w.heap.size w wr) (fun i _=>l.length - (intOf i).toNat)
 case atStart=>exact ⟨0,by omega,rfl,Below.refl _ _⟩
 case round =>
  obtain ⟨k,hk,rfl,hbel⟩:=hrel
  by_cases hlt:k < l.length
  ·obtain ⟨x,hx,_⟩:=get_at hlt
   obtain ⟨bb,off,rfl,hbb,g0,g1,g2,g3⟩:=pairsAt ((uh HA).below hbel) hx
   obtain ⟨cc,off',rfl,hcc,c0,c1,c2,c3⟩:=pairsAt ((uh HA').below hbel) hx
   have ki0:(0:Int)<=(k:Int):=by omega
   have ki1:(k:Int) < (l.length:Int):=by omega
   have hnx:=hne x
   clear hx hne
   go_wp2
   go_quiet (fail)
   go_wp2
   go_roundw
   case rel=>exact ⟨k + 1,by omega,by go_num,below_drewN hbel _⟩
   case measure=>simp [intOf];omega
  ·obtain rfl:k=l.length:=by omega
   go_wp2
   go_ret
   exact ⟨rfl,hbel⟩
set_option maxHeartbeats 1000000 in
set_option maxRecDepth 100000 in
theorem keptP (g cp:Nat) (p':Option Addr) (cp':Nat) (l:List Pq) (w:World) (hl:l.length<=100000000000000) (hN:LsOf encQ 4 w (some ⟨g,0,none⟩) (l ++ [spP])) (hc:l.length + 1<=cp) (hcm:cp<=maxLen) (hA':SlOf encQ 4 w p' cp' l) :
  Calls Tryz.prog 16 #[.slice (some ⟨g,0,none⟩) l.length cp,.slice p' l.length cp'] w fun e w'=>e=.returned (.bool true)/\Below w.heap.size w w':=by
 have mixed:Tryz.prog.follows .mixedOrders=true:=by kernel_rfl
 have l0:(0:Int)<=(l.length:Int):=by omega
 have l1:(0:Int)<=(l.length:Int) + 1:=by omega
 have l2:(l.length:Int) + 1<=(cp:Int):=by omega
 have hAl:SlOf encQ 4 w (some ⟨g,0,none⟩) cp l:=⟨fun h=>(by cases h),by omega,hcm,hN.take (by decide)⟩
 obtain ⟨b,off,hq,hlt,hcs⟩:=hN.at (j:=l.length) (x:=spP) (by simp)
 cases hq
 have c0:=hcs 0 (by omega)
 have c1:=hcs 1 (by omega)
 have c2:=hcs 2 (by omega)
 have c3:=hcs 3 (by omega)
 have heq:=fun (W:World)=>eqlQ_same spP W
 simp only [Nat.zero_add,Nat.add_zero,spP] at c0 c1 c2 c3 heq
 simp only [encQ,List.getElem!_cons_zero,List.getElem!_cons_succ] at c0 c1 c2 c3
 have hsame:=sameP_eq (some ⟨g,0,none⟩) p' cp cp' l w hl hAl hA'
 clear hN hA' hAl hcs
 go_enter Tryz.func16,Tryz.ntmps16
 go_wp2_with (first | (go_at_call 39;refine hsame.mono ?_;rintro e w1 ⟨rfl,b1⟩))
 go_ret
 exact ⟨rfl,b1⟩
end Go.Proofs.YtdgoibnndfibnaaGreatDoor
