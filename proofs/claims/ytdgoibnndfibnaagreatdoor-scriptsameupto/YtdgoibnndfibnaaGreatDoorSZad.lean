/- What the leaf functions of packages value and schema and of their references return, for every input. -/
import Derived.Test.YtdgoibnndfibnaaGreatDoorRows
import Derived.WalkKit
import Derived.WalkSpells
import Derived.WalkLawsBesides
import Derived.Deep.RegionHeld3
import Derived.Deep.QuietTactic
import Derived.BigQuiet
namespace Go.Proofs.YtdgoibnndfibnaaGreatDoor.Sc
open Go.RowKit
theorem ret_int {k:IntKind} {a b:Int} (h:a=b):Ending.returned (.int k a)=.returned (.int k b):=by rw [h]
theorem ret_bool {a b:Bool} (h:a=b):Ending.returned (.bool a)=.returned (.bool b):=by rw [h]
theorem hide {p:Prop} (h:p):Hid p:=h
theorem uh {p:Prop} (h:Hid p):p:=h.out
def cmpS (a b:List UInt8):Int:=if Op.bytesLess a b then -1 else if a == b then 0 else 1
theorem cmpS_lt {a b:List UInt8} (h:Op.bytesLess a b=true):cmpS a b=-1:=by unfold cmpS;rw [if_pos h]
theorem cmpS_gt {a b:List UInt8} (h:Op.bytesLess a b=false) (h2:(!a == b)=true):cmpS a b=1:=by
 unfold cmpS;rw [if_neg (by simp [h]),if_neg (by simpa using h2)]
theorem cmpS_eq {a b:List UInt8} (h:Op.bytesLess a b=false) (h2:(!a == b)=false):cmpS a b=0:=by
 unfold cmpS;rw [if_neg (by simp [h]),if_pos (by simpa using h2)]
set_option maxHeartbeats 400000 in
theorem cmpStr_any (a b:ByteArray) (w:World) :
  Calls Tryz.prog 83 #[.string a,.string b] w fun e w'=>e=.returned (.int .i64 (cmpS a.toList b.toList))/\w'=w:=by
 go_enter Tryz.func83,Tryz.ntmps83
 go_wp2
 all_goals go_ret
 ·exact ⟨ret_int (cmpS_lt (by assumption)).symm,rfl⟩
 ·exact ⟨ret_int (cmpS_gt (by assumption) (by assumption)).symm,rfl⟩
 ·exact ⟨ret_int (cmpS_eq (by assumption) (by assumption)).symm,rfl⟩
/-- In form? 0: yes, 1: no. -/
def chkV (k n:Int) (s:ByteArray):Int :=
  if (k=1/\-2147483648<=n/\n<=2147483647/\s.size=0) ∨ (k=2/\n=0/\s.size<=64) then 0 else 1
theorem size_toList (s:ByteArray):s.toList.length=s.size:=by rw [ByteArray.toList_eq];simp
theorem empty_iff (s:ByteArray):s.toList.isEmpty=true ↔ s.size=0:=by
 rw [List.isEmpty_iff,<- List.length_eq_zero_iff,size_toList]
theorem chk_yes1 {k n:Int} {s:ByteArray} (h0:(k == 1)=true) (h1:-2147483648<=n) (h2:n<=2147483647) (h3:s.toList.isEmpty=true):chkV k n s=0:=by
 unfold chkV;rw [if_pos (Or.inl ⟨by simpa using h0,h1,h2,(empty_iff s).1 h3⟩)]
theorem chk_yes2 {k n:Int} {s:ByteArray} (h0:(k == 2)=true) (h1:n=0) (h2:(s.size:Int)<=64):chkV k n s=0:=by
 unfold chkV;rw [if_pos (Or.inr ⟨by simpa using h0,h1,by omega⟩)]
theorem chk_no1 {k n:Int} {s:ByteArray} (h0:(k == 1)=true) (h:¬ (-2147483648<=n/\n<=2147483647/\s.size=0)):chkV k n s=1:=by
 have:k=1:=by simpa using h0
 unfold chkV;rw [if_neg];rintro (⟨_,h'⟩ | ⟨h',_⟩);exact h h';omega
theorem chk_no2 {k n:Int} {s:ByteArray} (h0:(k == 1)=false) (h:¬ (k=2/\n=0/\s.size<=64)):chkV k n s=1:=by
 have:k ≠ 1:=by simpa using h0
 unfold chkV;rw [if_neg];rintro (⟨h',_⟩ | h');omega;exact h h'
set_option maxHeartbeats 400000 in
theorem check_any (k n:Int) (s:ByteArray) (w:World) :
  Calls Tryz.prog 115 #[.agg #[.int .i64 k,.int .i64 n,.string s]] w fun e w'=>e=.returned (.int .i64 (chkV k n s))/\Below w.heap.size w w':=by
 go_enter Tryz.func115,Tryz.ntmps115
 go_wp2
 all_goals (go_ret;refine ⟨ret_int ?_,(Below.refl _ _).alloc (Nat.le_refl _) _⟩)
 ·exact (chk_yes1 (by assumption) (by assumption) (by assumption) (by assumption)).symm
 ·exact (chk_no1 (by assumption) (by rw [<- empty_iff];simp [*])).symm
 ·exact (chk_no1 (by assumption) (by omega)).symm
 ·exact (chk_no1 (by assumption) (by omega)).symm
 ·exact (chk_yes2 (by assumption) (by assumption) (by assumption)).symm
 ·exact (chk_no2 (by assumption) (by omega)).symm
 ·exact (chk_no2 (by assumption) (by omega)).symm
 ·rename_i h
  have:k ≠ 2:=by simpa using h
  exact (chk_no2 (by assumption) (by omega)).symm
theorem less_irrefl:∀ l:List UInt8,Op.bytesLess l l=false
  | []=>rfl
  | c :: l=>by simp [Op.bytesLess,less_irrefl l]
theorem less_asymm:∀ l m:List UInt8,Op.bytesLess l m=true->Op.bytesLess m l=false
  | _,[]=>by simp [Op.bytesLess]
  | [],_ :: _=>by simp [Op.bytesLess]
  | a :: x,b :: y=>by
    have ih:=less_asymm x y
    simp only [Op.bytesLess,Bool.or_eq_true,Bool.and_eq_true,decide_eq_true_eq,beq_iff_eq,Bool.or_eq_false_iff,decide_eq_false_iff_not,Bool.and_eq_false_iff,beq_eq_false_iff_ne]
    rintro (h | ⟨rfl,h⟩)
    · refine ⟨fun h2=>?_,Or.inl fun h2=>?_⟩
      · exact absurd (UInt8.lt_trans h h2) (UInt8.lt_irrefl _)
      · subst h2;exact absurd h (UInt8.lt_irrefl _)
    · exact ⟨UInt8.lt_irrefl _,Or.inr (ih h)⟩
theorem less_total:∀ l m:List UInt8,Op.bytesLess l m=false->l ≠ m->Op.bytesLess m l=true
  | [],[]=>by simp
  | _ :: _,[]=>by simp [Op.bytesLess]
  | [],_ :: _=>by simp [Op.bytesLess]
  | a :: x,b :: y=>by
    have ih:=less_total x y
    simp only [Op.bytesLess,Bool.or_eq_true,Bool.and_eq_true,decide_eq_true_eq,beq_iff_eq,Bool.or_eq_false_iff,decide_eq_false_iff_not,Bool.and_eq_false_iff,beq_eq_false_iff_ne]
    rintro ⟨h1,h2⟩ h3
    by_cases e:a=b
    · subst e
      refine Or.inr ⟨rfl,ih ?_ fun h=>h3 (by rw [h])⟩
      rcases h2 with h2 | h2
      · exact absurd rfl h2
      · exact h2
    · left
      rw [UInt8.lt_iff_toNat_lt] at h1 ⊢
      have:a.toNat ≠ b.toNat:=fun h=>e (UInt8.toNat_inj.1 h)
      omega
theorem less_trans:∀ l m n:List UInt8,Op.bytesLess l m=true->Op.bytesLess m n=true->Op.bytesLess l n=true
  | _,_,[]=>by simp [Op.bytesLess]
  | _,[],_ :: _=>by intro h;simp [Op.bytesLess] at h
  | [],_ :: _,_ :: _=>by simp [Op.bytesLess]
  | a :: x,b :: y,c :: z=>by
    have ih:=less_trans x y z
    simp only [Op.bytesLess,Bool.or_eq_true,Bool.and_eq_true,decide_eq_true_eq,beq_iff_eq]
    rintro (h1 | ⟨rfl,h1⟩) (h2 | ⟨rfl,h2⟩)
    · exact Or.inl (UInt8.lt_trans h1 h2)
    · exact Or.inl h1
    · exact Or.inl h2
    · exact Or.inr ⟨rfl,ih h1 h2⟩
theorem cmpS_cases (a b:List UInt8):(Op.bytesLess a b=true/\cmpS a b=-1) ∨ (a=b/\cmpS a b=0) ∨ (Op.bytesLess b a=true/\cmpS a b=1):=by
 cases h:Op.bytesLess a b
 ·by_cases e:a=b
  ·subst e;exact Or.inr (Or.inl ⟨rfl,by unfold cmpS;rw [if_neg (by simp [h]),if_pos (by simp)]⟩)
  ·exact Or.inr (Or.inr ⟨less_total a b h e,by unfold cmpS;rw [if_neg (by simp [h]),if_neg (by simpa using e)]⟩)
 ·exact Or.inl ⟨rfl,cmpS_lt h⟩
theorem drop_at (s:ByteArray) (k:Nat) (h:k < s.size):s.data.toList.drop k=s[k] :: s.data.toList.drop (k + 1):=by
 rw [List.drop_eq_getElem_cons (by simpa using h)];rfl
end Go.Proofs.YtdgoibnndfibnaaGreatDoor.Sc
namespace Go.Proofs.YtdgoibnndfibnaaGreatDoor.Sc
open Go.RowKit
def isLet (c:Int):Bool:=decide (97<=c) && decide (c<=122)
def isDig (c:Int):Bool:=decide (48<=c) && decide (c<=57)
def okB (c:Int):Bool:=isLet c || isDig c || c == 95
def byteI (s:ByteArray) (i:Nat):Int:=if h:i < s.size then (s[i].toNat:Int) else 0
theorem byteI_lt {s:ByteArray} {i:Nat} (h:i < s.size):byteI s i=(s[i].toNat:Int):=by unfold byteI;rw [dif_pos h]
/-- Is it a name? -/
def nameOk (s:ByteArray):Bool:=decide (1<=s.size) && decide (s.size<=32) && isLet (byteI s 0) && (List.range s.size).all fun i=>okB (byteI s i)
theorem name_no0 {s:ByteArray} (h:s.size < 1):nameOk s=false:=by unfold nameOk;simp;omega
theorem name_no32 {s:ByteArray} (h:32 < s.size):nameOk s=false:=by unfold nameOk;simp;omega
theorem name_noL {s:ByteArray} (h:isLet (byteI s 0)=false):nameOk s=false:=by unfold nameOk;simp [h]
theorem name_noB {s:ByteArray} {i:Nat} (hi:i < s.size) (h:okB (byteI s i)=false):nameOk s=false:=by
 unfold nameOk
 rw [Bool.and_eq_false_iff]
 right
 rw [Bool.eq_false_iff]
 intro hall
 rw [List.all_eq_true] at hall
 have:=hall i (by simpa using hi)
 rw [h] at this;cases this
theorem name_yes {s:ByteArray} (h1:1<=s.size) (h2:s.size<=32) (h3:isLet (byteI s 0)=true) (h:∀ j,j < s.size->okB (byteI s j)=true):nameOk s=true:=by
 unfold nameOk
 rw [h3]
 simp only [Bool.and_eq_true,decide_eq_true_eq,List.all_eq_true,List.mem_range]
 exact ⟨⟨⟨h1,h2⟩,trivial⟩,h⟩
set_option maxHeartbeats 400000 in
theorem letter_any (c:Int) (w:World) :
  Calls Tryz.prog 107 #[.int .u8 c] w fun e w'=>e=.returned (.bool (isLet c))/\w'=w:=by
 by_cases h1:97<=c <;> by_cases h2:c<=122
 all_goals
  go_enter Tryz.func107,Tryz.ntmps107
  go_wp2
  go_ret
  exact ⟨ret_bool (by simp [isLet,h1,h2]),rfl⟩
set_option maxHeartbeats 400000 in
theorem digit_any (c:Int) (w:World) :
  Calls Tryz.prog 108 #[.int .u8 c] w fun e w'=>e=.returned (.bool (isDig c))/\w'=w:=by
 by_cases h1:48<=c <;> by_cases h2:c<=57
 all_goals
  go_enter Tryz.func108,Tryz.ntmps108
  go_wp2
  go_ret
  exact ⟨ret_bool (by simp [isDig,h1,h2]),rfl⟩
set_option maxHeartbeats 1000000 in
theorem name_any (s:ByteArray) (w:World) :
  Calls Tryz.prog 79 #[.string s] w fun e w'=>e=.returned (.bool (nameOk s))/\w'=w:=by
 by_cases h1:s.size < 1
 ·have hn:=hide (name_no0 h1)
  have i1:(s.size:Int) < 1:=by omega
  go_enter Tryz.func79,Tryz.ntmps79
  go_wp2
  go_ret
  exact ⟨ret_bool (uh hn).symm,rfl⟩
 ·by_cases h2:32 < s.size
  ·have hn:=hide (name_no32 h2)
   have i1:¬ (s.size:Int) < 1:=by omega
   have i2:(32:Int) < (s.size:Int):=by omega
   go_enter Tryz.func79,Tryz.ntmps79
   go_wp2
   go_ret
   exact ⟨ret_bool (uh hn).symm,rfl⟩
  ·have i1:¬ (s.size:Int) < 1:=by omega
   have i2:¬ (32:Int) < (s.size:Int):=by omega
   have hb0:=byteI_lt (s:=s) (i:=0) (by omega)
   have hlt:=fun (c:Int) (W:World)=>letter_any c W
   have hdg:=fun (c:Int) (W:World)=>digit_any c W
   cases hl:isLet (byteI s 0) with
   | false =>
    have hn:=hide (name_noL hl)
    rw [hb0] at hl
    clear hb0
    have i0:(0:Int) < (s.size:Int):=by omega
    go_enter Tryz.func79,Tryz.ntmps79
    go_wp2_with (first | (go_at_call 107;refine (hlt _ _).mono ?_;rintro e w' ⟨rfl,rfl⟩))
    go_ret
    exact ⟨ret_bool (uh hn).symm,rfl⟩
   | true =>
    have Hl:=hide hl
    rw [hb0] at hl
    clear hb0
    have i0:(0:Int) < (s.size:Int):=by omega
    go_enter Tryz.func79,Tryz.ntmps79
    go_wp2_with (first | (go_at_call 107;refine (hlt _ _).mono ?_;rintro e w' ⟨rfl,rfl⟩))
    go_loop [20] (fun i=>∃ k:Nat,k<=s.size/\i=.int .i64 k/\∀ j,j < k->okB (byteI s j)=true) (fun i=>s.size - (intOf i).toNat)
    case atStart=>exact ⟨0,by omega,rfl,fun j hj=>by omega⟩
    case round =>
     obtain ⟨k,hk,rfl,hz⟩:=hrel
     have Hz:=hide hz
     clear hz
     by_cases hkl:k < s.size
     ·have ki0:(0:Int)<=(k:Int):=by omega
      have ki1:(k:Int) < (s.size:Int):=by omega
      have hbk:=byteI_lt hkl
      cases hok:okB (byteI s k) with
      | true =>
       have Hok:=hide hok
       rw [hbk] at hok
       have hparts:(isLet (s[k].toNat:Int)=true) ∨ (isLet (s[k].toNat:Int)=false/\isDig (s[k].toNat:Int)=true) ∨ (isLet (s[k].toNat:Int)=false/\isDig (s[k].toNat:Int)=false/\((s[k].toNat:Int) != 95)=false):=by
        revert hok;unfold okB
        cases isLet (s[k].toNat:Int) <;> cases isDig (s[k].toNat:Int) <;> simp
       clear hok hbk
       rcases hparts with p1 | ⟨p1,p2⟩ | ⟨p1,p2,p3⟩
       all_goals
        go_wp2_with (first | (go_at_call 107;refine (hlt _ _).mono ?_;rintro e w' ⟨rfl,rfl⟩) | (go_at_call 108;refine (hdg _ _).mono ?_;rintro e w' ⟨rfl,rfl⟩))
        go_round
        case rel=>exact ⟨k + 1,by omega,by go_num,fun j hj=>by
         by_cases e:j=k
         ·rw [e];exact uh Hok
         ·exact uh Hz j (by omega)⟩
        case measure=>simp [intOf];omega
      | false =>
       have hn:=hide (name_noB hkl hok)
       rw [hbk] at hok
       have hparts:isLet (s[k].toNat:Int)=false/\isDig (s[k].toNat:Int)=false/\((s[k].toNat:Int) != 95)=true:=by
        revert hok;unfold okB
        cases isLet (s[k].toNat:Int) <;> cases isDig (s[k].toNat:Int) <;> simp
       obtain ⟨p1,p2,p3⟩:=hparts
       clear hok hbk
       go_wp2_with (first | (go_at_call 107;refine (hlt _ _).mono ?_;rintro e w' ⟨rfl,rfl⟩) | (go_at_call 108;refine (hdg _ _).mono ?_;rintro e w' ⟨rfl,rfl⟩))
       go_ret
       exact ⟨ret_bool (uh hn).symm,rfl⟩
     ·obtain rfl:k=s.size:=by omega
      go_wp2
      go_ret
      exact ⟨ret_bool (name_yes (by omega) (by omega) (uh Hl) (uh Hz)).symm,rfl⟩
end Go.Proofs.YtdgoibnndfibnaaGreatDoor.Sc
