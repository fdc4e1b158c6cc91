/- What Same returns, of any two trees. -/
import Derived.Test.YtikhopiegaoacaaDoorTTree
import Derived.Test.YtikhopiegaoacaaDoorTDeep
namespace Go.Proofs.YtikhopiegaoacaaDoor
open Go.RowKit

theorem pre_snoc {α:Type} {l m:List α} {k:Nat} {x:α} (h:l.take k=m.take k) (hx:l[k]? = some x) (hy:m[k]? = some x):l.take (k + 1)=m.take (k + 1):=by
 rw [take_snoc_of hx,take_snoc_of hy,h]
theorem pre_ne {α:Type} {l m:List α} {k:Nat} {x y:α} (hx:l[k]? = some x) (hy:m[k]? = some y) (h:x ≠ y):l ≠ m:=fun e=>by subst e;rw [hx] at hy;cases hy;exact h rfl
set_option maxRecDepth 100000 in
set_option maxHeartbeats 2000000 in
theorem eqI (q:Option Addr) (c:Nat) (l:List Int) (q':Option Addr) (c':Nat) (m:List Int) (w:World) (h1:SlOf encI 1 w q c l) (h2:SlOf encI 1 w q' c' m) (hl:l.length≤1000000000000) :
  Calls Tryd.prog 34 #[.slice q l.length c,.slice q' m.length c'] w fun e w'=>e=.returned (.bool (decide (l=m)))∧Below w.heap.size w w':=by
 by_cases hlm:l.length=m.length
 ·rw [← hlm]
  have H1:=hide h1
  have H2:=hide h2
  have hnn:((l.length:Int) != (l.length:Int))=false:=by simp
  have a0:(l.length:Int)≤1000000000000:=by omega
  have HLM:=hide hlm
  clear h1 h2 hlm
  go_enter Tryd.func34,Tryd.ntmps34
  go_wp2
  go_loopw [13] (fun i wr=>∃ k:Nat,k≤l.length∧i=.int .i64 k∧l.take k=m.take k∧Below w.heap.size w wr) (fun i _=>l.length - (intOf i).toNat)
  case atStart=>exact ⟨0,by omega,rfl,rfl,Below.refl _ _⟩
  case round =>
   obtain ⟨k,hk,rfl,hpre,hbel⟩:=hrel
   have HB:=hide hbel
   have HP:=hide hpre
   by_cases hlt:k < l.length
   ·obtain ⟨x,hx,_⟩:=get_at hlt
    obtain ⟨y,hy,_⟩:=get_at (l:=m) (k:=k) (by have:=uh HLM;omega)
    obtain ⟨b,off,hq,_,g1⟩:=intsAt ((uh H1).below hbel) hx
    obtain ⟨b',off',hq',_,g2⟩:=intsAt ((uh H2).below hbel) hy
    subst hq
    subst hq'
    have ki0:(0:Int)≤(k:Int):=by omega
    have ki1:(k:Int) < (l.length:Int):=by omega
    by_cases hxy:x=y
    ·subst hxy
     have HN:=hide (pre_snoc hpre hx hy)
     clear hx hy hbel hpre
     go_wp2
     go_region_held3 (fun w'=>w'.cell? ⟨b,off + k,none⟩=some (.int .i64 x)∧w'.cell? ⟨b',off' + k,none⟩=some (.int .i64 x)) (go_keep) (fail)
     all_goals
      go_wp2
      go_roundw
      case rel=>exact ⟨k + 1,by omega,by go_num,uh HN,(uh HB).drew⟩
      case measure=>simp [intOf];omega
    ·have HN:=hide (pre_ne hx hy hxy)
     have hne:(x != y)=true:=by simpa using hxy
     clear hx hy hbel hpre
     go_wp2
     go_region_held3 (fun w'=>w'.cell? ⟨b,off + k,none⟩=some (.int .i64 x)∧w'.cell? ⟨b',off' + k,none⟩=some (.int .i64 y)) (go_keep) (fail)
     all_goals
      go_wp2
      go_ret
      exact ⟨ret_bool (by simp [uh HN]),(uh HB).drew⟩
   ·have ki1:¬ (k:Int) < (l.length:Int):=by omega
    have HN:=hide (show l=m by rw [← List.take_of_length_le (l:=l) (i:=k) (by omega),hpre,List.take_of_length_le (by have:=uh HLM;omega)])
    clear hpre
    go_wp2
    go_ret
    exact ⟨ret_bool (by simp [uh HN]),uh HB⟩
 ·have hnn:((l.length:Int) != (m.length:Int))=true:=by rw [bne_iff_ne];omega
  have HN:=hide (show l ≠ m from fun e=>hlm (by rw [e]))
  clear h1 h2
  go_enter Tryd.func34,Tryd.ntmps34
  go_wp2
  go_ret
  exact ⟨ret_bool (by simp [uh HN]),Below.refl _ _⟩
set_option maxRecDepth 100000 in
set_option maxHeartbeats 2000000 in
theorem eqS (q:Option Addr) (c:Nat) (l:List ByteArray) (q':Option Addr) (c':Nat) (m:List ByteArray) (w:World) (h1:SlOf encS 1 w q c l) (h2:SlOf encS 1 w q' c' m) (hl:l.length≤1000000000000) :
  Calls Tryd.prog 35 #[.slice q l.length c,.slice q' m.length c'] w fun e w'=>e=.returned (.bool (decide (l=m)))∧Below w.heap.size w w':=by
 by_cases hlm:l.length=m.length
 ·rw [← hlm]
  have H1:=hide h1
  have H2:=hide h2
  have hnn:((l.length:Int) != (l.length:Int))=false:=by simp
  have a0:(l.length:Int)≤1000000000000:=by omega
  have HLM:=hide hlm
  clear h1 h2 hlm
  go_enter Tryd.func35,Tryd.ntmps35
  go_wp2
  go_loopw [13] (fun i wr=>∃ k:Nat,k≤l.length∧i=.int .i64 k∧l.take k=m.take k∧Below w.heap.size w wr) (fun i _=>l.length - (intOf i).toNat)
  case atStart=>exact ⟨0,by omega,rfl,rfl,Below.refl _ _⟩
  case round =>
   obtain ⟨k,hk,rfl,hpre,hbel⟩:=hrel
   have HB:=hide hbel
   have HP:=hide hpre
   by_cases hlt:k < l.length
   ·obtain ⟨x,hx,_⟩:=get_at hlt
    obtain ⟨y,hy,_⟩:=get_at (l:=m) (k:=k) (by have:=uh HLM;omega)
    obtain ⟨b,off,hq,_,g1⟩:=wordsAt ((uh H1).below hbel) hx
    obtain ⟨b',off',hq',_,g2⟩:=wordsAt ((uh H2).below hbel) hy
    subst hq
    subst hq'
    have ki0:(0:Int)≤(k:Int):=by omega
    have ki1:(k:Int) < (l.length:Int):=by omega
    by_cases hxy:x=y
    ·subst hxy
     have HN:=hide (pre_snoc hpre hx hy)
     clear hx hy hbel hpre
     go_wp2
     go_region_held3 (fun w'=>w'.cell? ⟨b,off + k,none⟩=some (.string x)∧w'.cell? ⟨b',off' + k,none⟩=some (.string x)) (go_keep) (fail)
     all_goals
      go_wp2
      go_roundw
      case rel=>exact ⟨k + 1,by omega,by go_num,uh HN,(uh HB).drew⟩
      case measure=>simp [intOf];omega
    ·have HN:=hide (pre_ne hx hy hxy)
     have hne:(x.toList == y.toList)=false:=toList_ne hxy
     clear hx hy hbel hpre
     go_wp2
     go_region_held3 (fun w'=>w'.cell? ⟨b,off + k,none⟩=some (.string x)∧w'.cell? ⟨b',off' + k,none⟩=some (.string y)) (go_keep) (fail)
     all_goals
      go_wp2
      go_ret
      exact ⟨ret_bool (by simp [uh HN]),(uh HB).drew⟩
   ·have ki1:¬ (k:Int) < (l.length:Int):=by omega
    have HN:=hide (show l=m by rw [← List.take_of_length_le (l:=l) (i:=k) (by omega),hpre,List.take_of_length_le (by have:=uh HLM;omega)])
    clear hpre
    go_wp2
    go_ret
    exact ⟨ret_bool (by simp [uh HN]),uh HB⟩
 ·have hnn:((l.length:Int) != (m.length:Int))=true:=by rw [bne_iff_ne];omega
  have HN:=hide (show l ≠ m from fun e=>hlm (by rw [e]))
  clear h1 h2
  go_enter Tryd.func35,Tryd.ntmps35
  go_wp2
  go_ret
  exact ⟨ret_bool (by simp [uh HN]),Below.refl _ _⟩
/-- The same tree? -/
noncomputable def sameT (a b:Nd):Bool:=@decide (a=b) (Classical.propDecidable _)
theorem sameT_yes {a b:Nd} (h:a=b):sameT a b=true:=by unfold sameT;simp [h]
theorem sameT_no {a b:Nd} (h:a ≠ b):sameT a b=false:=by unfold sameT;simp [h]
theorem sameT_iff {a b:Nd}:sameT a b=true ↔ a=b:=by unfold sameT;simp
noncomputable def sameL (a b:List Nd):Bool:=@decide (a=b) (Classical.propDecidable _)
theorem sameL_yes {a b:List Nd} (h:a=b):sameL a b=true:=by unfold sameL;simp [h]
theorem sameL_no {a b:List Nd} (h:a ≠ b):sameL a b=false:=by unfold sameL;simp [h]
/-- What Same has to do at a tree. -/
def SameP (a:Nd):Prop:=∀ (b:Nd) (va vb:Nv) (w:World),NdIn w va a→NdIn w vb b→wtN a≤1000000000→Calls Tryd.prog 20 #[va.val,vb.val] w fun e w'=>e=.returned (.bool (sameT a b))∧Below w.heap.size w w'
theorem NdsOf.cells {w wr:World} {q:Option Addr} {c:Nat} {l:List Nd} {j:Nat} {x:Nd} (h:NdsOf w q c l) (hj:l[j]? = some x) (hbel:Below w.heap.size w wr) :
  ∃ b off v,q=some ⟨b,off,none⟩∧b < wr.heap.size∧NdIn wr v x∧(wr.cell? ⟨b,off + j * 8,none⟩=some (.int .i64 v.kind)∧wr.cell? ⟨b,off + j * 8 + 1,none⟩=some (.string v.attr)∧wr.cell? ⟨b,off + j * 8 + 2,none⟩=some (.slice v.qi v.ni v.ci)∧wr.cell? ⟨b,off + j * 8 + 3,none⟩=some (.slice v.qw v.nw v.cw)∧wr.cell? ⟨b,off + j * 8 + 4,none⟩=some (.int .i64 v.lo)∧wr.cell? ⟨b,off + j * 8 + 5,none⟩=some (.int .i64 v.hi)∧wr.cell? ⟨b,off + j * 8 + 6,none⟩=some (.int .i64 v.op)∧wr.cell? ⟨b,off + j * 8 + 7,none⟩=some (.slice v.qk v.nk v.ck)):=by
 obtain ⟨b,off,v,hq,hb,hin,c⟩:=(h.below hbel).at hj
 exact ⟨b,off,v,hq,hb,hin,c⟩
set_option maxRecDepth 100000 in
set_option maxHeartbeats 4000000 in
theorem eqF_any (q:Option Addr) (c:Nat) (l:List Nd) (q':Option Addr) (c':Nat) (m:List Nd) (w:World) (h1:NdsOf w q c l) (h2:NdsOf w q' c' m) (ih:∀ x ∈ l,SameP x) (hwt:wtL l≤1000000000) :
  Calls Tryd.prog 36 #[.slice q l.length c,.slice q' m.length c',.func (.func 20) #[] #[]] w fun e w'=>e=.returned (.bool (sameL l m))∧Below w.heap.size w w':=by
 have hln:=len_size l
 have hln2:=sizeL_wt l
 by_cases hlm:l.length=m.length
 ·rw [← hlm]
  have H1:=hide h1
  have H2:=hide h2
  have IH:=hide ih
  have hnn:((l.length:Int) != (l.length:Int))=false:=by simp
  have a0:(l.length:Int)≤1000000000:=by omega
  have HLM:=hide hlm
  clear h1 h2 hlm ih
  go_enter Tryd.func36,Tryd.ntmps36
  go_wp2
  go_loopw [17] (fun i wr=>∃ k:Nat,k≤l.length∧i=.int .i64 k∧l.take k=m.take k∧Below w.heap.size w wr) (fun i _=>l.length - (intOf i).toNat)
  case atStart=>exact ⟨0,by omega,rfl,rfl,Below.refl _ _⟩
  case round =>
   obtain ⟨k,hk,rfl,hpre,hbel⟩:=hrel
   obtain ⟨U,rfl⟩:∃ U,U=wr:=⟨_,rfl⟩
   have HB:=hide hbel
   have HP:=hide hpre
   by_cases hlt:k < l.length
   ·obtain ⟨x,hx,_⟩:=get_at hlt
    obtain ⟨y,hy,_⟩:=get_at (l:=m) (k:=k) (by have:=uh HLM;omega)
    obtain ⟨b,off,v1,hq,hb,hin1,g0,g1,g2,g3,g4,g5,g6,g7⟩:=(uh H1).cells hx hbel
    obtain ⟨b',off',v2,hq',hb',hin2,i0,i1,i2,i3,i4,i5,i6,i7⟩:=(uh H2).cells hy hbel
    subst hq
    subst hq'
    have ki0:(0:Int)≤(k:Int):=by omega
    have ki1:(k:Int) < (l.length:Int):=by omega
    have hxm:x ∈ l:=List.mem_of_getElem? hx
    have hxs:=wtL_mem hxm
    have hne1:¬ b=U.heap.size:=by omega
    have hne2:¬ b'=U.heap.size:=by omega
    obtain ⟨Y,HY⟩:∃ Y,(U.alloc (.cells #[.int .i64 v1.kind,.string v1.attr,.slice v1.qi v1.ni v1.ci,.slice v1.qw v1.nw v1.cw,.int .i64 v1.lo,.int .i64 v1.hi,.int .i64 v1.op,.slice v1.qk v1.nk v1.ck] 29)).alloc (.cells #[.int .i64 v2.kind,.string v2.attr,.slice v2.qi v2.ni v2.ci,.slice v2.qw v2.nw v2.cw,.int .i64 v2.lo,.int .i64 v2.hi,.int .i64 v2.op,.slice v2.qk v2.nk v2.ck] 29)=Y:=⟨_,rfl⟩
    have hUY:Below U.heap.size U Y:=by rw [← HY];exact ((Below.refl _ _).alloc (Nat.le_refl _) _).alloc (by simp) _
    have hcx:=uh IH x hxm y v1 v2 Y (hin1.keep hUY) (hin2.keep hUY) (by omega)
    rw [← HY] at hcx
    simp only [Nv.val] at hcx
    have HUY:=hide hUY
    rw [← HY] at HUY
    clear HY hUY hin1 hin2
    by_cases hxy:x=y
    ·have HN:=hide (pre_snoc hpre hx (by rw [hxy];exact hy))
     rw [sameT_yes hxy] at hcx
     clear hx hy hbel hpre hxm hxy
     go_wp2_with (go_at_call 20;refine hcx.mono ?_;rintro e w1 ⟨rfl,b1⟩;have B1:=hide b1;clear b1)
     exact ⟨⟨k + 1,by omega,congrArg (Value.int .i64) (by omega),uh HN,below_sub (below_sub (uh HB) (uh HUY)) (uh B1)⟩,by simp [intOf];omega⟩
    ·have HN:=hide (pre_ne hx hy hxy)
     rw [sameT_no hxy] at hcx
     clear hx hy hbel hpre hxm hxy
     go_wp2_with (go_at_call 20;refine hcx.mono ?_;rintro e w1 ⟨rfl,b1⟩;have B1:=hide b1;clear b1)
     go_ret
     exact ⟨ret_bool (sameL_no (uh HN)).symm,below_sub (below_sub (uh HB) (uh HUY)) (uh B1)⟩
   ·have ki1:¬ (k:Int) < (l.length:Int):=by omega
    have HN:=hide (show l=m by rw [← List.take_of_length_le (l:=l) (i:=k) (by omega),hpre,List.take_of_length_le (by have:=uh HLM;omega)])
    clear hpre
    go_wp2
    go_ret
    exact ⟨ret_bool (sameL_yes (uh HN)).symm,uh HB⟩
 ·have hnn:((l.length:Int) != (m.length:Int))=true:=by rw [bne_iff_ne];omega
  have HN:=hide (show l ≠ m from fun e=>hlm (by rw [e]))
  clear h1 h2
  go_enter Tryd.func36,Tryd.ntmps36
  go_wp2
  go_ret
  exact ⟨ret_bool (sameL_no (uh HN)).symm,Below.refl _ _⟩
end Go.Proofs.YtikhopiegaoacaaDoor
