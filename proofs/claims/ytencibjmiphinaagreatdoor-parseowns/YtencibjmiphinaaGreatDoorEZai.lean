/- What the helpers that look at copies return: a copy is as the list is. -/
import Derived.Test.YtencibjmiphinaaGreatDoorEZah
import Derived.Test.YtencibjmiphinaaGreatDoorEPred
import Derived.Test.YtencibjmiphinaaGreatDoorEZae
namespace Go.Proofs.YtencibjmiphinaaGreatDoor
open Go.RowKit Go.Sort
set_option maxRecDepth 100000 in
set_option maxHeartbeats 2000000 in
theorem memEqI (q:Option Addr) (c:Nat) (l:List Int) (q':Option Addr) (c':Nat) (m:List Int) (w:World) (h1:SlOf encI 1 w q c l) (h2:SlOf encI 1 w q' c' m) (hl:l.length<=100000000000000) :
  Calls Tryz.prog 58 #[.slice q l.length c,.slice q' m.length c'] w fun e w'=>e=.returned (.bool (decide (l=m)))/\Below w.heap.size w w':=by
 by_cases hlm:l.length=m.length
 ·rw [<- hlm]
  have H1:=hide h1
  have H2:=hide h2
  have hnn:((l.length:Int) != (l.length:Int))=false:=by simp
  have a0:(l.length:Int)<=100000000000000:=by omega
  have HLM:=hide hlm
  clear h1 h2 hlm
  go_enter Tryz.func58,Tryz.ntmps58
  go_wp2
  go_loopw [13] (fun i wr=>∃ k:Nat,k<=l.length/\i=.int .i64 k/\l.take k=m.take k/\Below w.heap.size w wr) (fun i _=>l.length - (intOf i).toNat)
  case atStart=>exact ⟨0,by omega,rfl,rfl,Below.refl _ _⟩
  case round =>
   obtain ⟨k,hk,rfl,hpre,hbel⟩:=hrel
   have HB:=hide hbel
   have HP:=hide hpre
   by_cases hlt:k < l.length
   ·obtain ⟨x,hx,_⟩:=get_at hlt
    obtain ⟨y,hy,_⟩:=get_at (l:=m) (k:=k) (by have:=uh HLM;omega)
    obtain ⟨b,off,hq,_,g1⟩:=intsAt ((uh H1).below hbel) hx
    obtain ⟨b',off',hq',_,g2⟩:=intsAt ((uh H2).below hbel) hy
    subst hq
    subst hq'
    have ki0:(0:Int)<=(k:Int):=by omega
    have ki1:(k:Int) < (l.length:Int):=by omega
    by_cases hxy:x=y
    ·subst hxy
     have HN:=hide (pre_snoc hpre hx hy)
     clear hx hy hbel hpre
     go_wp2
     go_region_held3 (fun w'=>w'.cell? ⟨b,off + k,none⟩=some (.int .i64 x)/\w'.cell? ⟨b',off' + k,none⟩=some (.int .i64 x)) (go_keep) (fail)
     all_goals
      go_wp2
      go_roundw
      case rel=>exact ⟨k + 1,by omega,by go_num,uh HN,(uh HB).drew⟩
      case measure=>simp [intOf];omega
    ·have HN:=hide (pre_ne hx hy hxy)
     have hne:(x != y)=true:=by simpa using hxy
     clear hx hy hbel hpre
     go_wp2
     go_region_held3 (fun w'=>w'.cell? ⟨b,off + k,none⟩=some (.int .i64 x)/\w'.cell? ⟨b',off' + k,none⟩=some (.int .i64 y)) (go_keep) (fail)
     all_goals
      go_wp2
      go_ret
      exact ⟨ret_bool (by simp [uh HN]),(uh HB).drew⟩
   ·have ki1:¬ (k:Int) < (l.length:Int):=by omega
    have HN:=hide (show l=m by rw [<- List.take_of_length_le (l:=l) (i:=k) (by omega),hpre,List.take_of_length_le (by have:=uh HLM;omega)])
    clear hpre
    go_wp2
    go_ret
    exact ⟨ret_bool (by simp [uh HN]),uh HB⟩
 ·have hnn:((l.length:Int) != (m.length:Int))=true:=by rw [bne_iff_ne];omega
  have HN:=hide (show l ≠ m from fun e=>hlm (by rw [e]))
  clear h1 h2
  go_enter Tryz.func58,Tryz.ntmps58
  go_wp2
  go_ret
  exact ⟨ret_bool (by simp [uh HN]),Below.refl _ _⟩
set_option maxRecDepth 100000 in
set_option maxHeartbeats 2000000 in
theorem memEqS (q:Option Addr) (c:Nat) (l:List ByteArray) (q':Option Addr) (c':Nat) (m:List ByteArray) (w:World) (h1:SlOf encS 1 w q c l) (h2:SlOf encS 1 w q' c' m) (hl:l.length<=100000000000000) :
  Calls Tryz.prog 59 #[.slice q l.length c,.slice q' m.length c'] w fun e w'=>e=.returned (.bool (decide (l=m)))/\Below w.heap.size w w':=by
 by_cases hlm:l.length=m.length
 ·rw [<- hlm]
  have H1:=hide h1
  have H2:=hide h2
  have hnn:((l.length:Int) != (l.length:Int))=false:=by simp
  have a0:(l.length:Int)<=100000000000000:=by omega
  have HLM:=hide hlm
  clear h1 h2 hlm
  go_enter Tryz.func59,Tryz.ntmps59
  go_wp2
  go_loopw [13] (fun i wr=>∃ k:Nat,k<=l.length/\i=.int .i64 k/\l.take k=m.take k/\Below w.heap.size w wr) (fun i _=>l.length - (intOf i).toNat)
  case atStart=>exact ⟨0,by omega,rfl,rfl,Below.refl _ _⟩
  case round =>
   obtain ⟨k,hk,rfl,hpre,hbel⟩:=hrel
   have HB:=hide hbel
   have HP:=hide hpre
   by_cases hlt:k < l.length
   ·obtain ⟨x,hx,_⟩:=get_at hlt
    obtain ⟨y,hy,_⟩:=get_at (l:=m) (k:=k) (by have:=uh HLM;omega)
    obtain ⟨b,off,hq,_,g1⟩:=wordsAt ((uh H1).below hbel) hx
    obtain ⟨b',off',hq',_,g2⟩:=wordsAt ((uh H2).below hbel) hy
    subst hq
    subst hq'
    have ki0:(0:Int)<=(k:Int):=by omega
    have ki1:(k:Int) < (l.length:Int):=by omega
    by_cases hxy:x=y
    ·subst hxy
     have HN:=hide (pre_snoc hpre hx hy)
     clear hx hy hbel hpre
     go_wp2
     go_region_held3 (fun w'=>w'.cell? ⟨b,off + k,none⟩=some (.string x)/\w'.cell? ⟨b',off' + k,none⟩=some (.string x)) (go_keep) (fail)
     all_goals
      go_wp2
      go_roundw
      case rel=>exact ⟨k + 1,by omega,by go_num,uh HN,(uh HB).drew⟩
      case measure=>simp [intOf];omega
    ·have HN:=hide (pre_ne hx hy hxy)
     have hne:(x.toList == y.toList)=false:=toList_ne hxy
     clear hx hy hbel hpre
     go_wp2
     go_region_held3 (fun w'=>w'.cell? ⟨b,off + k,none⟩=some (.string x)/\w'.cell? ⟨b',off' + k,none⟩=some (.string y)) (go_keep) (fail)
     all_goals
      go_wp2
      go_ret
      exact ⟨ret_bool (by simp [uh HN]),(uh HB).drew⟩
   ·have ki1:¬ (k:Int) < (l.length:Int):=by omega
    have HN:=hide (show l=m by rw [<- List.take_of_length_le (l:=l) (i:=k) (by omega),hpre,List.take_of_length_le (by have:=uh HLM;omega)])
    clear hpre
    go_wp2
    go_ret
    exact ⟨ret_bool (by simp [uh HN]),uh HB⟩
 ·have hnn:((l.length:Int) != (m.length:Int))=true:=by rw [bne_iff_ne];omega
  have HN:=hide (show l ≠ m from fun e=>hlm (by rw [e]))
  clear h1 h2
  go_enter Tryz.func59,Tryz.ntmps59
  go_wp2
  go_ret
  exact ⟨ret_bool (by simp [uh HN]),Below.refl _ _⟩
theorem of6' {w:World} {N:Nat} {a0 a1 a2 a3 a4 a5:Value} {T:TypeId} (h:w.heap[N]? = some (.cells #[a0,a1,a2,a3,a4,a5] T (0,0))):w.cell? ⟨N,0,none⟩=some a0/\w.cell? ⟨N,1,none⟩=some a1/\w.cell? ⟨N,2,none⟩=some a2/\w.cell? ⟨N,3,none⟩=some a3/\w.cell? ⟨N,4,none⟩=some a4/\w.cell? ⟨N,5,none⟩=some a5:=by
 refine ⟨?_, ?_, ?_, ?_, ?_, ?_⟩ <;> (unfold World.cell?;simp [h])
set_option maxHeartbeats 4000000 in
set_option maxRecDepth 100000 in
theorem samePred_eq (kind:Int) (attr:ByteArray) (ints:List Int) (words:List ByteArray) (lo hi:Int) (qi:Option Addr) (ci:Nat) (qw:Option Addr) (cw:Nat) (qi':Option Addr) (ci':Nat) (qw':Option Addr) (cw':Nat) (w:World) (s1:SlOf encI 1 w qi ci ints) (s2:SlOf encI 1 w qi' ci' ints) (t1:SlOf encS 1 w qw cw words) (t2:SlOf encS 1 w qw' cw' words) (m1:ints.length<=100000000000000) (m2:words.length<=100000000000000) :
  Calls Tryz.prog 28 #[.agg #[.int .i64 kind,.string attr,.slice qi ints.length ci,.slice qw words.length cw,.int .i64 lo,.int .i64 hi],.agg #[.int .i64 kind,.string attr,.slice qi' ints.length ci',.slice qw' words.length cw',.int .i64 lo,.int .i64 hi]] w fun e w'=>e=.returned (.bool true)/\Below w.heap.size w w':=by
 obtain ⟨X,HX⟩:∃ X,(w.alloc (.cells #[.int .i64 kind,.string attr,.slice qi ints.length ci,.slice qw words.length cw,.int .i64 lo,.int .i64 hi] 26)).alloc (.cells #[.int .i64 kind,.string attr,.slice qi' ints.length ci',.slice qw' words.length cw',.int .i64 lo,.int .i64 hi] 26)=X:=⟨_,rfl⟩
 have hXs:X.heap.size=w.heap.size + 2:=by rw [<- HX];simp
 have hwX:Below w.heap.size w X:=by rw [<- HX];exact ((Below.refl _ _).alloc (Nat.le_refl _) _).alloc (by simp) _
 have hX0:X.heap[w.heap.size]? = some (.cells #[.int .i64 kind,.string attr,.slice qi ints.length ci,.slice qw words.length cw,.int .i64 lo,.int .i64 hi] 26 (0,0)):=by rw [<- HX,Below.heap_alloc _ _ _ (by simp)];exact box_nw _ _
 have hX1:X.heap[w.heap.size + 1]? = some (.cells #[.int .i64 kind,.string attr,.slice qi' ints.length ci',.slice qw' words.length cw',.int .i64 lo,.int .i64 hi] 26 (0,0)):=by rw [<- HX,show w.heap.size + 1=(w.alloc (.cells #[.int .i64 kind,.string attr,.slice qi ints.length ci,.slice qw words.length cw,.int .i64 lo,.int .i64 hi] 26)).heap.size by simp];exact box_nw _ _
 obtain ⟨x0,x1,x2,x3,x4,x5⟩:=of6' hX0
 obtain ⟨y0,y1,y2,y3,y4,y5⟩:=of6' hX1
 have HX0:=hide hX0
 have HX1:=hide hX1
 have HWX:=hide hwX
 have c1:=memEqI qi ci ints qi' ci' ints X (s1.below hwX) (s2.below hwX) m1
 have c2:=fun w' (hb:Below w.heap.size w w')=>memEqS qw cw words qw' cw' words w' (t1.below hb) (t2.below hb) m2
 rw [decide_eq_true rfl] at c1 c2
 clear s1 s2 t1 t2 hwX hX0 hX1
 go_enter Tryz.func28,Tryz.ntmps28
 go_wp2_with (first
  | (go_at_call 58;refine c1.mono ?_;rintro e u1 ⟨rfl,b1⟩;obtain ⟨d0,d1,d2,d3,d4,d5⟩:=of6' ((b1.block _ (by omega)).trans (uh HX0));obtain ⟨e0,e1,e2,e3,e4,e5⟩:=of6' ((b1.block _ (by omega)).trans (uh HX1));have B1:=hide b1;clear b1)
  | (go_at_call 59;refine (c2 _ (by exact below_sub (uh HWX) (uh B1))).mono ?_;rintro e u2 ⟨rfl,b2⟩;have B2:=hide (below_sub (uh B1) b2);clear b2))
 go_ret
 exact ⟨rfl,below_sub (uh HWX) (uh B2)⟩
end Go.Proofs.YtencibjmiphinaaGreatDoor
namespace Go.Proofs.YtencibjmiphinaaGreatDoor
open Go.RowKit
/-- The builder in block b, its memory from B on, holds the bytes l. -/
def Bld (B b:Nat) (l:List UInt8) (w:World):Prop:=Lib.IsBuilderF 89 5 B b (Lib.byteCells l) w
/-- What a builder's call leaves as it was. -/
def Kept (B b:Nat) (w w':World):Prop:=Below B w w'/\Lib.OthersKept 5 (some b) w w'
theorem Kept.refl (B b:Nat) (w:World):Kept B b w w:=⟨Below.refl _ _,Lib.OthersKept.refl _ _ _⟩
theorem Kept.trans {B b:Nat} {x y z:World} (h:Kept B b x y) (k:Kept B b y z):Kept B b x z:=⟨h.1.trans k.1,h.2.trans k.2⟩
theorem heap_lt {w:World} {b:Nat} {o:Obj} (h:w.heap[b]? = some o):b < w.heap.size:=(Array.getElem?_eq_some_iff.1 h).1
end Go.Proofs.YtencibjmiphinaaGreatDoor
namespace Go.Proofs.YtencibjmiphinaaGreatDoor
open Go.RowKit
theorem grown_none {w w':World} (h:Below w.heap.size w w'):w.grownBy w' none:=⟨h.os,h.tape,h.output,h.size,fun k hk _=>h.block k hk⟩
theorem Bld.below {B b:Nat} {l:List UInt8} {w w':World} (h:Bld B b l w) (hb:Below w.heap.size w w'):Bld B b l w':=by
 have aux:∀ p,Lib.BuilderAtF 89 5 B b p (Lib.byteCells l) w->Lib.BuilderAtF 89 5 B b p (Lib.byteCells l) w':=by
  rintro p ⟨hB,v,hbk,hown,hne⟩
  refine ⟨hB,v,(hb.block b (heap_lt hbk)).trans hbk,hown.kept (grown_none hb) ?_,hne⟩
  cases v.ownBlock <;> simp
 rcases h with h | h
 ·exact Or.inl (aux _ h)
 ·exact Or.inr (aux _ h)
theorem Kept.of {B b:Nat} {w w':World} (hb:Below w.heap.size w w') (hB:B<=w.heap.size):Kept B b w w' :=
 ⟨hb.mono hB,fun k _ hk _ _=>(hb.block k (heap_lt hk)).trans hk⟩
end Go.Proofs.YtencibjmiphinaaGreatDoor
