/- What Depth and Size return, for every tree. -/
import Derived.Test.YtikhopiegaoacaaDoorTTree
import Derived.Test.YtikhopiegaoacaaDoorTText
namespace Go.Proofs.YtikhopiegaoacaaDoor
open Go.RowKit

theorem depL_snoc {l:List Nd} {k:Nat} {x:Nd} (h:l[k]? = some x):depL (l.take (k + 1))=max (depL (l.take k)) (depN x):=by
 rw [take_snoc_of h,depL_app];simp [depL]
theorem sizeL_snoc {l:List Nd} {k:Nat} {x:Nd} (h:l[k]? = some x):sizeL (l.take (k + 1))=sizeL (l.take k) + sizeN x:=by
 rw [take_snoc_of h,sizeL_app];simp [sizeL]
theorem sizeL_take (l:List Nd) (k:Nat):sizeL (l.take k)≤sizeL l:=by
 conv=>rhs;rw [← List.take_append_drop k l,sizeL_app]
 omega
theorem depL_take (l:List Nd) (k:Nat):depL (l.take k)≤depL l:=by
 conv=>rhs;rw [← List.take_append_drop k l,depL_app]
 omega
theorem size_pos (t:Nd):1≤sizeN t:=by cases t;simp only [sizeN];omega
theorem len_size (l:List Nd):l.length≤sizeL l:=by
 induction l with
 | nil=>simp
 | cons x l ih=>have:=size_pos x;simp only [sizeL,List.length_cons];omega
theorem depL_size (l:List Nd):depL l≤sizeL l:=by
 induction l with
 | nil=>simp [depL]
 | cons x l ih=>have:=dep_le x;simp only [depL,sizeL];omega
set_option maxHeartbeats 2000000 in
theorem depth_any:∀ (t:Nd) (v:Nv) (w:World),NdIn w v t→sizeN t≤1000000000 →
  Calls Tryd.prog 18 #[v.val] w fun e w'=>e=.returned (.int .i64 (depN t))∧Below w.heap.size w w':=by
 intro t
 induction t using Nd.ind with
 | h kind attr ints words lo hi op kids ih =>
  intro v w hin hsz
  obtain ⟨qi,ci,qw,cw,qk,ck,rfl,hi1,hw1,hk⟩:=hin.parts
  simp only [sizeN] at hsz
  have hlen:=len_size kids
  have IH:=hide ih
  have HK:=hide hk
  have a0:(kids.length:Int)≤1000000000:=by omega
  have hd2:=depL_size kids
  clear ih hk hin hi1 hw1
  simp only [Nv.val]
  go_enter Tryd.func18,Tryd.ntmps18
  go_wp2
  go_loopw [3,9] (fun d i wr=>∃ k:Nat,k≤kids.length∧i=.int .i64 k∧d=.int .i64 (depL (kids.take k):Nat)∧Below w.heap.size w wr) (fun _ i _=>kids.length - (intOf i).toNat)
  case atStart=>exact ⟨0,by omega,rfl,rfl,(Below.refl _ _).alloc (Nat.le_refl _) _⟩
  case round =>
   obtain ⟨k,hkk,rfl,rfl,hbel⟩:=hrel
   have hd1:=depL_take kids k
   by_cases hlt:k < kids.length
   ·obtain ⟨x,hx,hxd⟩:=get_at hlt
    clear hxd
    obtain ⟨b,off,v',hq,hin,g0,g1,g2,g3,g4,g5,g6,g7⟩:=(uh HK).on hx hbel
    subst hq
    have hxm:x ∈ kids:=List.mem_of_getElem? hx
    have hxs:=sizeL_mem hxm
    have hdx:=dep_le x
    have ki0:(0:Int)≤(k:Int):=by omega
    have ki1:(k:Int) < (kids.length:Int):=by omega
    have HS:=hide (depL_snoc hx)
    have hsn:=depL_take kids (k + 1)
    rw [uh HS] at hsn
    have HIN:=hide hin
    have HC:=hide (uh IH x hxm v')
    simp only [Nv.val] at HC
    have HB:=hide hbel
    clear hin hx hbel hxm
    go_wp2_with (go_at_call 18;refine (uh HC _ (by exact (uh HIN).keep ((Below.refl _ _).alloc (Nat.le_refl _) _)) (by omega)).mono ?_;rintro e w1 ⟨rfl,hb1⟩)
    exact ⟨⟨k + 1,by omega,by go_num,congrArg (Value.int .i64) (by rw [uh HS];omega),((uh HB).alloc (uh HB).size _).trans (hb1.mono (by simp;have:=(uh HB).size;omega))⟩,by simp [intOf];omega⟩
   ·have ki1:¬ (k:Int) < (kids.length:Int):=by omega
    have HE:=hide (List.take_of_length_le (l:=kids) (i:=k) (by omega))
    go_wp2
    go_ret
    exact ⟨ret_int (by rw [uh HE];simp only [depN];omega),hbel⟩
set_option maxHeartbeats 2000000 in
theorem size_any:∀ (t:Nd) (v:Nv) (w:World),NdIn w v t→sizeN t≤1000000000 →
  Calls Tryd.prog 19 #[v.val] w fun e w'=>e=.returned (.int .i64 (sizeN t))∧Below w.heap.size w w':=by
 intro t
 induction t using Nd.ind with
 | h kind attr ints words lo hi op kids ih =>
  intro v w hin hsz
  obtain ⟨qi,ci,qw,cw,qk,ck,rfl,hi1,hw1,hk⟩:=hin.parts
  simp only [sizeN] at hsz
  have hlen:=len_size kids
  have IH:=hide ih
  have HK:=hide hk
  have a0:(kids.length:Int)≤1000000000:=by omega
  have hd2:=depL_size kids
  clear ih hk hin hi1 hw1
  simp only [Nv.val]
  go_enter Tryd.func19,Tryd.ntmps19
  go_wp2
  go_loopw [3,9] (fun d i wr=>∃ k:Nat,k≤kids.length∧i=.int .i64 k∧d=.int .i64 ((1 + sizeL (kids.take k):Nat))∧Below w.heap.size w wr) (fun _ i _=>kids.length - (intOf i).toNat)
  case atStart=>exact ⟨0,by omega,rfl,rfl,(Below.refl _ _).alloc (Nat.le_refl _) _⟩
  case round =>
   obtain ⟨k,hkk,rfl,rfl,hbel⟩:=hrel
   have hd1:=sizeL_take kids k
   by_cases hlt:k < kids.length
   ·obtain ⟨x,hx,hxd⟩:=get_at hlt
    clear hxd
    obtain ⟨b,off,v',hq,hin,g0,g1,g2,g3,g4,g5,g6,g7⟩:=(uh HK).on hx hbel
    subst hq
    have hxm:x ∈ kids:=List.mem_of_getElem? hx
    have hxs:=sizeL_mem hxm
    have hdx:=dep_le x
    have ki0:(0:Int)≤(k:Int):=by omega
    have ki1:(k:Int) < (kids.length:Int):=by omega
    have HS:=hide (sizeL_snoc hx)
    have hsn:=sizeL_take kids (k + 1)
    rw [uh HS] at hsn
    have HIN:=hide hin
    have HC:=hide (uh IH x hxm v')
    simp only [Nv.val] at HC
    have HB:=hide hbel
    clear hin hx hbel hxm
    go_wp2_with (go_at_call 19;refine (uh HC _ (by exact (uh HIN).keep ((Below.refl _ _).alloc (Nat.le_refl _) _)) (by omega)).mono ?_;rintro e w1 ⟨rfl,hb1⟩)
    exact ⟨⟨k + 1,by omega,by go_num,congrArg (Value.int .i64) (by rw [uh HS];omega),((uh HB).alloc (uh HB).size _).trans (hb1.mono (by simp;have:=(uh HB).size;omega))⟩,by simp [intOf];omega⟩
   ·have ki1:¬ (k:Int) < (kids.length:Int):=by omega
    have HE:=hide (List.take_of_length_le (l:=kids) (i:=k) (by omega))
    go_wp2
    go_ret
    exact ⟨ret_int (by rw [uh HE];simp only [sizeN];omega),hbel⟩
end Go.Proofs.YtikhopiegaoacaaDoor
