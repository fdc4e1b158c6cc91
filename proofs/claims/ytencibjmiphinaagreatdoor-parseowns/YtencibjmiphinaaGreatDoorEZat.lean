/- What schema.Name and the reference's Name return, for every text: the same. -/
import Derived.Test.YtencibjmiphinaaGreatDoorEZas
namespace Go.Proofs.YtencibjmiphinaaGreatDoor.Sc
open Go.RowKit
def isLet (c:Int):Bool:=decide (97<=c) && decide (c<=122)
def isDig (c:Int):Bool:=decide (48<=c) && decide (c<=57)
def okB (c:Int):Bool:=isLet c || isDig c || c == 95
def byteI (s:ByteArray) (i:Nat):Int:=if h:i < s.size then (s[i].toNat:Int) else 0
theorem byteI_lt {s:ByteArray} {i:Nat} (h:i < s.size):byteI s i=(s[i].toNat:Int):=by unfold byteI;rw [dif_pos h]
/-- Is it a name? -/
def nameOk (s:ByteArray):Bool:=decide (1<=s.size) && decide (s.size<=32) && isLet (byteI s 0) && (List.range s.size).all fun i=>okB (byteI s i)
theorem name_no0 {s:ByteArray} (h:s.size < 1):nameOk s=false:=by unfold nameOk;simp;omega
theorem name_no32 {s:ByteArray} (h:32 < s.size):nameOk s=false:=by unfold nameOk;simp;omega
theorem name_noL {s:ByteArray} (h:isLet (byteI s 0)=false):nameOk s=false:=by unfold nameOk;simp [h]
theorem name_noB {s:ByteArray} {i:Nat} (hi:i < s.size) (h:okB (byteI s i)=false):nameOk s=false:=by
 unfold nameOk
 rw [Bool.and_eq_false_iff]
 right
 rw [Bool.eq_false_iff]
 intro hall
 rw [List.all_eq_true] at hall
 have:=hall i (by simpa using hi)
 rw [h] at this;cases this
theorem name_yes {s:ByteArray} (h1:1<=s.size) (h2:s.size<=32) (h3:isLet (byteI s 0)=true) (h:∀ j,j < s.size->okB (byteI s j)=true):nameOk s=true:=by
 unfold nameOk
 rw [h3]
 simp only [Bool.and_eq_true,decide_eq_true_eq,List.all_eq_true,List.mem_range]
 exact ⟨⟨⟨h1,h2⟩,trivial⟩,h⟩
set_option maxHeartbeats 400000 in
theorem letter_any (c:Int) (w:World) :
  Calls Tryz.prog 102 #[.int .u8 c] w fun e w'=>e=.returned (.bool (isLet c))/\w'=w:=by
 by_cases h1:97<=c <;> by_cases h2:c<=122
 all_goals
  go_enter Tryz.func102,Tryz.ntmps102
  go_wp2
  go_ret
  exact ⟨ret_bool (by simp [isLet,h1,h2]),rfl⟩
set_option maxHeartbeats 400000 in
theorem digit_any (c:Int) (w:World) :
  Calls Tryz.prog 103 #[.int .u8 c] w fun e w'=>e=.returned (.bool (isDig c))/\w'=w:=by
 by_cases h1:48<=c <;> by_cases h2:c<=57
 all_goals
  go_enter Tryz.func103,Tryz.ntmps103
  go_wp2
  go_ret
  exact ⟨ret_bool (by simp [isDig,h1,h2]),rfl⟩
set_option maxHeartbeats 1000000 in
theorem name_any (s:ByteArray) (w:World) :
  Calls Tryz.prog 60 #[.string s] w fun e w'=>e=.returned (.bool (nameOk s))/\w'=w:=by
 by_cases h1:s.size < 1
 ·have hn:=hide (name_no0 h1)
  have i1:(s.size:Int) < 1:=by omega
  go_enter Tryz.func60,Tryz.ntmps60
  go_wp2
  go_ret
  exact ⟨ret_bool (uh hn).symm,rfl⟩
 ·by_cases h2:32 < s.size
  ·have hn:=hide (name_no32 h2)
   have i1:¬ (s.size:Int) < 1:=by omega
   have i2:(32:Int) < (s.size:Int):=by omega
   go_enter Tryz.func60,Tryz.ntmps60
   go_wp2
   go_ret
   exact ⟨ret_bool (uh hn).symm,rfl⟩
  ·have i1:¬ (s.size:Int) < 1:=by omega
   have i2:¬ (32:Int) < (s.size:Int):=by omega
   have hb0:=byteI_lt (s:=s) (i:=0) (by omega)
   have hlt:=fun (c:Int) (W:World)=>letter_any c W
   have hdg:=fun (c:Int) (W:World)=>digit_any c W
   cases hl:isLet (byteI s 0) with
   | false =>
    have hn:=hide (name_noL hl)
    rw [hb0] at hl
    clear hb0
    have i0:(0:Int) < (s.size:Int):=by omega
    go_enter Tryz.func60,Tryz.ntmps60
    go_wp2_with (first | (go_at_call 102;refine (hlt _ _).mono ?_;rintro e w' ⟨rfl,rfl⟩))
    go_ret
    exact ⟨ret_bool (uh hn).symm,rfl⟩
   | true =>
    have Hl:=hide hl
    rw [hb0] at hl
    clear hb0
    have i0:(0:Int) < (s.size:Int):=by omega
    go_enter Tryz.func60,Tryz.ntmps60
    go_wp2_with (first | (go_at_call 102;refine (hlt _ _).mono ?_;rintro e w' ⟨rfl,rfl⟩))
    go_loop [20] (fun i=>∃ k:Nat,k<=s.size/\i=.int .i64 k/\∀ j,j < k->okB (byteI s j)=true) (fun i=>s.size - (intOf i).toNat)
    case atStart=>exact ⟨0,by omega,rfl,fun j hj=>by omega⟩
    case round =>
     obtain ⟨k,hk,rfl,hz⟩:=hrel
     have Hz:=hide hz
     clear hz
     by_cases hkl:k < s.size
     ·have ki0:(0:Int)<=(k:Int):=by omega
      have ki1:(k:Int) < (s.size:Int):=by omega
      have hbk:=byteI_lt hkl
      cases hok:okB (byteI s k) with
      | true =>
       have Hok:=hide hok
       rw [hbk] at hok
       have hparts:(isLet (s[k].toNat:Int)=true) ∨ (isLet (s[k].toNat:Int)=false/\isDig (s[k].toNat:Int)=true) ∨ (isLet (s[k].toNat:Int)=false/\isDig (s[k].toNat:Int)=false/\((s[k].toNat:Int) != 95)=false):=by
        revert hok;unfold okB
        cases isLet (s[k].toNat:Int) <;> cases isDig (s[k].toNat:Int) <;> simp
       clear hok hbk
       rcases hparts with p1 | ⟨p1,p2⟩ | ⟨p1,p2,p3⟩
       all_goals
        go_wp2_with (first | (go_at_call 102;refine (hlt _ _).mono ?_;rintro e w' ⟨rfl,rfl⟩) | (go_at_call 103;refine (hdg _ _).mono ?_;rintro e w' ⟨rfl,rfl⟩))
        go_round
        case rel=>exact ⟨k + 1,by omega,by go_num,fun j hj=>by
         by_cases e:j=k
         ·rw [e];exact uh Hok
         ·exact uh Hz j (by omega)⟩
        case measure=>simp [intOf];omega
      | false =>
       have hn:=hide (name_noB hkl hok)
       rw [hbk] at hok
       have hparts:isLet (s[k].toNat:Int)=false/\isDig (s[k].toNat:Int)=false/\((s[k].toNat:Int) != 95)=true:=by
        revert hok;unfold okB
        cases isLet (s[k].toNat:Int) <;> cases isDig (s[k].toNat:Int) <;> simp
       obtain ⟨p1,p2,p3⟩:=hparts
       clear hok hbk
       go_wp2_with (first | (go_at_call 102;refine (hlt _ _).mono ?_;rintro e w' ⟨rfl,rfl⟩) | (go_at_call 103;refine (hdg _ _).mono ?_;rintro e w' ⟨rfl,rfl⟩))
       go_ret
       exact ⟨ret_bool (uh hn).symm,rfl⟩
     ·obtain rfl:k=s.size:=by omega
      go_wp2
      go_ret
      exact ⟨ret_bool (name_yes (by omega) (by omega) (uh Hl) (uh Hz)).symm,rfl⟩
end Go.Proofs.YtencibjmiphinaaGreatDoor.Sc
namespace Go.Proofs.YtencibjmiphinaaGreatDoor.Sc
open Go.RowKit
/-- The block b holds the attributes l from off on. -/
def AtsAt (w:World) (b off:Nat) (l:List (ByteArray × Int)):Prop :=
  ∀ (j:Nat) (x:ByteArray × Int),l[j]? = some x->w.cell? ⟨b,off + j * 2,none⟩=some (.string x.1)/\w.cell? ⟨b,off + j * 2 + 1,none⟩=some (.int .i64 x.2)
/-- A slice that begins at p holds the attributes l. -/
def AtsOf (w:World) (p:Option Addr) (l:List (ByteArray × Int)):Prop :=
  0 < l.length->∃ b off,p=some ⟨b,off,none⟩/\b < w.heap.size/\AtsAt w b off l
/-- The block b holds the pairs l from off on. -/
def PrsAt (w:World) (b off:Nat) (l:List (ByteArray × Int × Int × ByteArray)):Prop :=
  ∀ (j:Nat) (x:ByteArray × Int × Int × ByteArray),l[j]? = some x->w.cell? ⟨b,off + j * 4,none⟩=some (.string x.1)/\w.cell? ⟨b,off + j * 4 + 1,none⟩=some (.int .i64 x.2.1)/\w.cell? ⟨b,off + j * 4 + 2,none⟩=some (.int .i64 x.2.2.1)/\w.cell? ⟨b,off + j * 4 + 3,none⟩=some (.string x.2.2.2)
def PrsOf (w:World) (p:Option Addr) (l:List (ByteArray × Int × Int × ByteArray)):Prop :=
 0 < l.length->∃ b off,p=some ⟨b,off,none⟩/\b < w.heap.size/\PrsAt w b off l
theorem AtsAt.below {B:Nat} {w w':World} {b off:Nat} {l:List (ByteArray × Int)} (h:AtsAt w b off l) (hb:Below B w w') (hB:b < B):AtsAt w' b off l:=fun j x hj =>
 ⟨(hb.cell (by exact hB)).trans (h j x hj).1,(hb.cell (by exact hB)).trans (h j x hj).2⟩
theorem PrsAt.below {B:Nat} {w w':World} {b off:Nat} {l:List (ByteArray × Int × Int × ByteArray)} (h:PrsAt w b off l) (hb:Below B w w') (hB:b < B):PrsAt w' b off l:=fun j x hj =>
 ⟨(hb.cell (by exact hB)).trans (h j x hj).1,(hb.cell (by exact hB)).trans (h j x hj).2.1,(hb.cell (by exact hB)).trans (h j x hj).2.2.1,(hb.cell (by exact hB)).trans (h j x hj).2.2.2⟩
theorem AtsOf.below {w w':World} {p:Option Addr} {l:List (ByteArray × Int)} (h:AtsOf w p l) (hb:Below w.heap.size w w'):AtsOf w' p l:=fun h0=>by
 obtain ⟨b,off,rfl,hB,hA⟩:=h h0
 exact ⟨b,off,rfl,Nat.lt_of_lt_of_le hB hb.size,hA.below hb hB⟩
theorem PrsOf.below {w w':World} {p:Option Addr} {l:List (ByteArray × Int × Int × ByteArray)} (h:PrsOf w p l) (hb:Below w.heap.size w w'):PrsOf w' p l:=fun h0=>by
 obtain ⟨b,off,rfl,hB,hA⟩:=h h0
 exact ⟨b,off,rfl,Nat.lt_of_lt_of_le hB hb.size,hA.below hb hB⟩
theorem AtsOf.nil (w:World) (p:Option Addr):AtsOf w p []:=fun h=>absurd h (by simp)
theorem PrsOf.nil (w:World) (p:Option Addr):PrsOf w p []:=fun h=>absurd h (by simp)
theorem get_at {α:Type} {l:List α} {k:Nat} (h:k < l.length):∃ x,l[k]? = some x/\l.drop k=x :: l.drop (k + 1):=⟨l[k],List.getElem?_eq_getElem h,List.drop_eq_getElem_cons h⟩
/-- The kind of the first attribute of the name; 0: none. -/
def kindOf:List (ByteArray × Int)->ByteArray->Int
  | [],_=>0
  | x :: r,s=>if x.1.toList == s.toList then x.2 else kindOf r s
theorem kind_yes {l:List (ByteArray × Int)} {s:ByteArray} {k:Nat} {x:ByteArray × Int} (hk:kindOf l s=kindOf (l.drop k) s) (hd:l.drop k=x :: l.drop (k + 1)) (h:(x.1.toList == s.toList)=true):kindOf l s=x.2:=by
 rw [hk,hd];unfold kindOf;rw [if_pos h]
theorem kind_no {l:List (ByteArray × Int)} {s:ByteArray} {k:Nat} {x:ByteArray × Int} (hk:kindOf l s=kindOf (l.drop k) s) (hd:l.drop k=x :: l.drop (k + 1)) (h:(x.1.toList == s.toList)=false):kindOf l s=kindOf (l.drop (k + 1)) s:=by
 rw [hk,hd];conv=>lhs;unfold kindOf;rw [if_neg (by simp [h])]
theorem kind_end {l:List (ByteArray × Int)} {s:ByteArray} {k:Nat} (hk:kindOf l s=kindOf (l.drop k) s) (h:¬ k < l.length):kindOf l s=0:=by
 rw [hk,List.drop_of_length_le (by omega)];rfl
/-- The schema at b holds the attributes l. -/
def SchAt (w:World) (b:Nat) (l:List (ByteArray × Int)):Prop :=
  b < w.heap.size/\∃ p cap,w.cell? ⟨b,0,none⟩=some (.slice p l.length cap)/\AtsOf w p l/\(p=none->l.length=0/\cap=0)
theorem SchAt.below {w w':World} {b:Nat} {l:List (ByteArray × Int)} (h:SchAt w b l) (hb:Below w.heap.size w w'):SchAt w' b l:=by
 obtain ⟨h0,p,cap,hc,hA,hp⟩:=h
 exact ⟨Nat.lt_of_lt_of_le h0 hb.size,p,cap,(hb.cell (by exact h0)).trans hc,hA.below hb,hp⟩
set_option maxHeartbeats 1000000 in
theorem kind_any (b:Nat) (l:List (ByteArray × Int)) (s:ByteArray) (w:World) (hm:l.length<=140737488355328) (hS:SchAt w b l) :
  Calls Tryz.prog 68 #[.pointer (some ⟨b,0,none⟩),.string s] w fun e w'=>e=.returned (.int .i64 (kindOf l s))/\Below w.heap.size w w':=by
 obtain ⟨h0,p,cap,hc,hA,_⟩:=hS
 have HA:=hide hA
 clear hA
 go_enter Tryz.func68,Tryz.ntmps68
 go_wp2
 go_loopw [12] (fun i wr=>∃ k:Nat,k<=l.length/\i=.int .i64 k/\Below w.heap.size w wr/\kindOf l s=kindOf (l.drop k) s) (fun i _=>l.length - (intOf i).toNat)
 case atStart=>exact ⟨0,by omega,rfl,Below.refl _ _,by simp⟩
 case round =>
  obtain ⟨k,hk,rfl,hbel,heq⟩:=hrel
  have Heq:=hide heq
  clear heq
  by_cases hlt:k < l.length
  ·obtain ⟨bb,off,rfl,hbb,hAt⟩:=uh HA (by omega)
   obtain ⟨x,hx,hd⟩:=get_at hlt
   have Hd:=hide hd
   clear hd
   have ki0:(0:Int)<=(k:Int):=by omega
   have ki1:(k:Int) < (l.length:Int):=by omega
   obtain ⟨g0,g1⟩:=hAt.below hbel hbb k x hx
   have Hx:=hide hx
   clear hx
   cases hq:(x.1.toList == s.toList) with
   | true =>
    have Hy:=hide (kind_yes (uh Heq) (uh Hd) hq)
    go_wp2
    go_ret
    exact ⟨ret_int (uh Hy).symm,hbel.alloc hbel.size _⟩
   | false =>
    have Hy:=hide (kind_no (uh Heq) (uh Hd) hq)
    go_wp2
    go_roundw
    case rel=>exact ⟨k + 1,by omega,by go_num,hbel.alloc hbel.size _,uh Hy⟩
    case measure=>simp [intOf];omega
  ·obtain rfl:k=l.length:=by omega
   have Hy:=hide (kind_end (uh Heq) hlt)
   go_wp2
   go_ret
   exact ⟨ret_int (uh Hy).symm,hbel⟩
end Go.Proofs.YtencibjmiphinaaGreatDoor.Sc
