/- What the leaf functions of packages value and schema and of their references return, for every input. -/
import Derived.Test.YtencibjmiphinaaGreatDoorRows
import Derived.WalkKit
import Derived.WalkSpells
import Derived.WalkLawsBesides
import Derived.Deep.RegionHeld3
import Derived.Deep.QuietTactic
import Derived.BigQuiet
namespace Go.Proofs.YtencibjmiphinaaGreatDoor.Sc
open Go.RowKit

theorem ret_int {k:IntKind} {a b:Int} (h:a=b):Ending.returned (.int k a)=.returned (.int k b):=by rw [h]
theorem ret_bool {a b:Bool} (h:a=b):Ending.returned (.bool a)=.returned (.bool b):=by rw [h]
theorem hide {p:Prop} (h:p):Hid p:=h
theorem uh {p:Prop} (h:Hid p):p:=h.out
def cmpI (a b:Int):Int:=if a < b then -1 else if b < a then 1 else 0
theorem cmpI_lt {a b:Int} (h:a < b):cmpI a b=-1:=by unfold cmpI;rw [if_pos h]
theorem cmpI_gt {a b:Int} (h:b < a):cmpI a b=1:=by unfold cmpI;rw [if_neg (by omega),if_pos h]
theorem cmpI_eq {a b:Int} (h:a=b):cmpI a b=0:=by unfold cmpI;rw [if_neg (by omega),if_neg (by omega)]

def cmpS (a b:List UInt8):Int:=if Op.bytesLess a b then -1 else if a == b then 0 else 1

set_option maxHeartbeats 400000 in
theorem ints_any (a b:Int) (w:World) :
    Calls Tryz.prog 65 #[.int .i64 a,.int .i64 b] w fun e w'=>e=.returned (.int .i64 (cmpI a b))∧w'=w:=by
  by_cases h1:a < b
  · go_enter Tryz.func65,Tryz.ntmps65
    go_wp2
    go_ret
    exact ⟨ret_int (cmpI_lt h1).symm,rfl⟩
  · by_cases h2:b < a
    · go_enter Tryz.func65,Tryz.ntmps65
      go_wp2
      go_ret
      exact ⟨ret_int (cmpI_gt h2).symm,rfl⟩
    · go_enter Tryz.func65,Tryz.ntmps65
      go_wp2
      go_ret
      exact ⟨ret_int (cmpI_eq (by omega)).symm,rfl⟩

theorem cmpS_lt {a b:List UInt8} (h:Op.bytesLess a b=true):cmpS a b=-1:=by unfold cmpS;rw [if_pos h]
theorem cmpS_gt {a b:List UInt8} (h:Op.bytesLess a b=false) (h2:(!a == b)=true):cmpS a b=1:=by
  unfold cmpS;rw [if_neg (by simp [h]),if_neg (by simpa using h2)]
theorem cmpS_eq {a b:List UInt8} (h:Op.bytesLess a b=false) (h2:(!a == b)=false):cmpS a b=0:=by
  unfold cmpS;rw [if_neg (by simp [h]),if_pos (by simpa using h2)]

set_option maxHeartbeats 400000 in
theorem cmpStr_any (a b:ByteArray) (w:World) :
    Calls Tryz.prog 64 #[.string a,.string b] w fun e w'=>e=.returned (.int .i64 (cmpS a.toList b.toList))∧w'=w:=by
  go_enter Tryz.func64,Tryz.ntmps64
  go_wp2
  all_goals go_ret
  · exact ⟨ret_int (cmpS_lt (by assumption)).symm,rfl⟩
  · exact ⟨ret_int (cmpS_gt (by assumption) (by assumption)).symm,rfl⟩
  · exact ⟨ret_int (cmpS_eq (by assumption) (by assumption)).symm,rfl⟩

/-- In form? 0: yes, 1: no. -/
def chkV (k n:Int) (s:ByteArray):Int :=
  if (k=1∧-2147483648≤n∧n≤2147483647∧s.size=0) ∨ (k=2∧n=0∧s.size≤64) then 0 else 1
theorem size_toList (s:ByteArray):s.toList.length=s.size:=by rw [ByteArray.toList_eq];simp
theorem empty_iff (s:ByteArray):s.toList.isEmpty=true ↔ s.size=0:=by
  rw [List.isEmpty_iff,← List.length_eq_zero_iff,size_toList]
theorem chk_yes1 {k n:Int} {s:ByteArray} (h0:(k == 1)=true) (h1:-2147483648≤n) (h2:n≤2147483647) (h3:s.toList.isEmpty=true):chkV k n s=0:=by
  unfold chkV;rw [if_pos (Or.inl ⟨by simpa using h0,h1,h2,(empty_iff s).1 h3⟩)]
theorem chk_yes2 {k n:Int} {s:ByteArray} (h0:(k == 2)=true) (h1:n=0) (h2:(s.size:Int)≤64):chkV k n s=0:=by
  unfold chkV;rw [if_pos (Or.inr ⟨by simpa using h0,h1,by omega⟩)]
theorem chk_no1 {k n:Int} {s:ByteArray} (h0:(k == 1)=true) (h:¬ (-2147483648≤n∧n≤2147483647∧s.size=0)):chkV k n s=1:=by
  have:k=1:=by simpa using h0
  unfold chkV;rw [if_neg];rintro (⟨_,h'⟩ | ⟨h',_⟩);exact h h';omega
theorem chk_no2 {k n:Int} {s:ByteArray} (h0:(k == 1)=false) (h:¬ (k=2∧n=0∧s.size≤64)):chkV k n s=1:=by
  have:k ≠ 1:=by simpa using h0
  unfold chkV;rw [if_neg];rintro (⟨h',_⟩ | h');omega;exact h h'

set_option maxHeartbeats 400000 in
theorem check_any (k n:Int) (s:ByteArray) (w:World) :
    Calls Tryz.prog 115 #[.agg #[.int .i64 k,.int .i64 n,.string s]] w fun e w'=>e=.returned (.int .i64 (chkV k n s))∧Below w.heap.size w w':=by
  go_enter Tryz.func115,Tryz.ntmps115
  go_wp2
  all_goals (go_ret;refine ⟨ret_int ?_,(Below.refl _ _).alloc (Nat.le_refl _) _⟩)
  · exact (chk_yes1 (by assumption) (by assumption) (by assumption) (by assumption)).symm
  · exact (chk_no1 (by assumption) (by rw [← empty_iff];simp [*])).symm
  · exact (chk_no1 (by assumption) (by omega)).symm
  · exact (chk_no1 (by assumption) (by omega)).symm
  · exact (chk_yes2 (by assumption) (by assumption) (by assumption)).symm
  · exact (chk_no2 (by assumption) (by omega)).symm
  · exact (chk_no2 (by assumption) (by omega)).symm
  · rename_i h
    have:k ≠ 2:=by simpa using h
    exact (chk_no2 (by assumption) (by omega)).symm

theorem less_irrefl:∀ l:List UInt8,Op.bytesLess l l=false
  | []=>rfl
  | c :: l=>by simp [Op.bytesLess,less_irrefl l]
theorem less_asymm:∀ l m:List UInt8,Op.bytesLess l m=true→Op.bytesLess m l=false
  | _,[]=>by simp [Op.bytesLess]
  | [],_ :: _=>by simp [Op.bytesLess]
  | a :: x,b :: y=>by
    have ih:=less_asymm x y
    simp only [Op.bytesLess,Bool.or_eq_true,Bool.and_eq_true,decide_eq_true_eq,beq_iff_eq,Bool.or_eq_false_iff,decide_eq_false_iff_not,Bool.and_eq_false_iff,beq_eq_false_iff_ne]
    rintro (h | ⟨rfl,h⟩)
    · refine ⟨fun h2=>?_,Or.inl fun h2=>?_⟩
      · exact absurd (UInt8.lt_trans h h2) (UInt8.lt_irrefl _)
      · subst h2;exact absurd h (UInt8.lt_irrefl _)
    · exact ⟨UInt8.lt_irrefl _,Or.inr (ih h)⟩
theorem less_total:∀ l m:List UInt8,Op.bytesLess l m=false→l ≠ m→Op.bytesLess m l=true
  | [],[]=>by simp
  | _ :: _,[]=>by simp [Op.bytesLess]
  | [],_ :: _=>by simp [Op.bytesLess]
  | a :: x,b :: y=>by
    have ih:=less_total x y
    simp only [Op.bytesLess,Bool.or_eq_true,Bool.and_eq_true,decide_eq_true_eq,beq_iff_eq,Bool.or_eq_false_iff,decide_eq_false_iff_not,Bool.and_eq_false_iff,beq_eq_false_iff_ne]
    rintro ⟨h1,h2⟩ h3
    by_cases e:a=b
    · subst e
      refine Or.inr ⟨rfl,ih ?_ fun h=>h3 (by rw [h])⟩
      rcases h2 with h2 | h2
      · exact absurd rfl h2
      · exact h2
    · left
      rw [UInt8.lt_iff_toNat_lt] at h1 ⊢
      have:a.toNat ≠ b.toNat:=fun h=>e (UInt8.toNat_inj.1 h)
      omega
theorem less_trans:∀ l m n:List UInt8,Op.bytesLess l m=true→Op.bytesLess m n=true→Op.bytesLess l n=true
  | _,_,[]=>by simp [Op.bytesLess]
  | _,[],_ :: _=>by intro h;simp [Op.bytesLess] at h
  | [],_ :: _,_ :: _=>by simp [Op.bytesLess]
  | a :: x,b :: y,c :: z=>by
    have ih:=less_trans x y z
    simp only [Op.bytesLess,Bool.or_eq_true,Bool.and_eq_true,decide_eq_true_eq,beq_iff_eq]
    rintro (h1 | ⟨rfl,h1⟩) (h2 | ⟨rfl,h2⟩)
    · exact Or.inl (UInt8.lt_trans h1 h2)
    · exact Or.inl h1
    · exact Or.inl h2
    · exact Or.inr ⟨rfl,ih h1 h2⟩

theorem cmpS_cases (a b:List UInt8):(Op.bytesLess a b=true∧cmpS a b=-1) ∨ (a=b∧cmpS a b=0) ∨ (Op.bytesLess b a=true∧cmpS a b=1):=by
  cases h:Op.bytesLess a b
  · by_cases e:a=b
    · subst e;exact Or.inr (Or.inl ⟨rfl,by unfold cmpS;rw [if_neg (by simp [h]),if_pos (by simp)]⟩)
    · exact Or.inr (Or.inr ⟨less_total a b h e,by unfold cmpS;rw [if_neg (by simp [h]),if_neg (by simpa using e)]⟩)
  · exact Or.inl ⟨rfl,cmpS_lt h⟩
/-- First by the one, then by the other. -/
theorem cmpS_cons (a b:UInt8) (x y:List UInt8):cmpS (a :: x) (b :: y)=if a=b then cmpS x y else cmpI (a.toNat:Int) (b.toNat:Int):=by
  by_cases h:a=b
  · subst h
    rw [if_pos rfl]
    unfold cmpS
    simp [Op.bytesLess]
  · rw [if_neg h]
    have hn:a.toNat ≠ b.toNat:=fun e=>h (UInt8.toNat_inj.1 e)
    by_cases hl:a < b
    · rw [cmpS_lt (by simp [Op.bytesLess,hl])]
      rw [UInt8.lt_iff_toNat_lt] at hl
      rw [cmpI_lt (by omega)]
    · rw [cmpS_gt (by simp [Op.bytesLess,hl,h]) (by simp [h])]
      rw [UInt8.lt_iff_toNat_lt] at hl
      rw [cmpI_gt (by omega)]
theorem cmpS_nil_l (m:List UInt8):cmpS [] m=cmpI 0 m.length:=by
  cases m with
  | nil=>rfl
  | cons b y=>rw [cmpS_lt (by simp [Op.bytesLess]),cmpI_lt (by simp)]
theorem cmpS_nil_r (m:List UInt8):cmpS m []=cmpI m.length 0:=by
  cases m with
  | nil=>rfl
  | cons b y=>rw [cmpS_gt (by simp [Op.bytesLess]) (by simp),cmpI_gt (by simp)]
theorem drop_at (s:ByteArray) (k:Nat) (h:k < s.size):s.data.toList.drop k=s[k] :: s.data.toList.drop (k + 1):=by
  rw [List.drop_eq_getElem_cons (by simpa using h)];rfl
theorem cmpI_shift (a b k:Int):cmpI (a - k) (b - k)=cmpI a b:=by
  unfold cmpI
  by_cases h1:a < b
  · rw [if_pos h1,if_pos (by omega)]
  · rw [if_neg h1,if_neg (by omega)]
    by_cases h2:b < a
    · rw [if_pos h2,if_pos (by omega)]
    · rw [if_neg h2,if_neg (by omega)]
theorem texts_end (a b:ByteArray) (k:Nat) (h1:k≤a.size) (h2:k≤b.size) (h:¬ (k < a.size∧k < b.size)):cmpS (a.data.toList.drop k) (b.data.toList.drop k)=cmpI a.size b.size:=by
  by_cases h3:k < a.size
  · have h4:k=b.size:=by omega
    rw [List.drop_of_length_le (l:=b.data.toList) (by simp;omega),cmpS_nil_r]
    rw [← cmpI_shift a.size b.size k]
    simp only [List.length_drop,Array.length_toList]
    congr 1
    · show ((a.size - k:Nat):Int)=_;omega
    · omega
  · have h4:k=a.size:=by omega
    rw [List.drop_of_length_le (l:=a.data.toList) (by simp;omega),cmpS_nil_l]
    rw [← cmpI_shift a.size b.size k]
    simp only [List.length_drop,Array.length_toList]
    congr 1
    · omega
    · show ((b.size - k:Nat):Int)=_;omega
theorem texts_ne (a b:ByteArray) (k:Nat) (h1:k < a.size) (h2:k < b.size) (h:(a[k].toNat:Int) ≠ b[k].toNat):cmpS (a.data.toList.drop k) (b.data.toList.drop k)=cmpI a[k].toNat b[k].toNat:=by
  rw [drop_at a k h1,drop_at b k h2,cmpS_cons,if_neg]
  intro e;rw [e] at h;exact h rfl
theorem texts_eq (a b:ByteArray) (k:Nat) (h1:k < a.size) (h2:k < b.size) (h:(a[k].toNat:Int)=b[k].toNat):cmpS (a.data.toList.drop k) (b.data.toList.drop k)=cmpS (a.data.toList.drop (k + 1)) (b.data.toList.drop (k + 1)):=by
  rw [drop_at a k h1,drop_at b k h2,cmpS_cons,if_pos]
  exact UInt8.toNat_inj.1 (by omega)

theorem wrap_byte (c:UInt8):IntKind.i64.wrap (c.toNat:Int)=(c.toNat:Int):=by
  have:=c.toNat_lt
  have e:(2:Int) ^ IntKind.i64.bits=18446744073709551616:=by decide
  have e2:(2:Int) ^ (IntKind.i64.bits - 1)=9223372036854775808:=by decide
  simp [IntKind.wrap,e,e2]
  omega

set_option maxHeartbeats 1000000 in
theorem texts_any (a b:ByteArray) (w:World) (ha:a.size≤maxLen) :
    Calls Tryz.prog 35 #[.string a,.string b] w fun e w'=>e=.returned (.int .i64 (cmpS a.toList b.toList))∧Below w.heap.size w w':=by
  unfold maxLen at ha
  rw [ByteArray.toList_eq,ByteArray.toList_eq]
  go_enter Tryz.func35,Tryz.ntmps35
  go_wp2
  go_loopw [5] (fun i wr=>∃ k:Nat,k≤a.size∧k≤b.size∧i=.int .i64 k∧Below w.heap.size w wr∧cmpS a.data.toList b.data.toList=cmpS (a.data.toList.drop k) (b.data.toList.drop k)) (fun i _=>a.size - (intOf i).toNat)
  case atStart=>exact ⟨0,Nat.zero_le _,Nat.zero_le _,rfl,Below.refl _ _,by simp⟩
  case round =>
    obtain ⟨k,hka,hkb,rfl,hbel,heq⟩:=hrel
    have Heq:=hide heq
    clear heq
    by_cases hlt:k < a.size∧k < b.size
    · obtain ⟨h1,h2⟩:=hlt
      have i0:(0:Int)≤(k:Int):=by omega
      have i1:(k:Int) < (a.size:Int):=by omega
      have i2:(k:Int) < (b.size:Int):=by omega
      by_cases hc:(a[k].toNat:Int)=b[k].toNat
      · have Hc:=hide (texts_eq a b k h1 h2 hc)
        have hd:(((a[k].toNat:Int)) != (b[k].toNat:Int))=false:=by simp [hc]
        clear hc
        go_wp2
        go_quiet (fail)
        go_wp2
        go_roundw
        case rel=>exact ⟨k + 1,by omega,by omega,by go_num,below_drewN hbel _,by rw [uh Heq,uh Hc]⟩
        case measure=>simp [intOf];omega
      · have Hc:=hide (texts_ne a b k h1 h2 hc)
        have hd:(((a[k].toNat:Int)) != (b[k].toNat:Int))=true:=by simp [hc]
        clear hc
        go_wp2
        go_quiet (fail)
        go_wp2
        go_region_held3 (fun _=>True) (go_keep) ((go_at_call 65;refine (ints_any _ _ _).mono ?_;rintro e w' ⟨rfl,rfl⟩))
        all_goals
          go_wp2
          go_ret
          refine ⟨ret_int ?_,(below_drewN hbel _).drew⟩
          rw [uh Heq,uh Hc,wrap_byte,wrap_byte]

    · have Hend:=hide (texts_end a b k hka hkb hlt)
      by_cases h1:k < a.size
      · have h2:¬ k < b.size:=fun h=>hlt ⟨h1,h⟩
        clear hlt
        go_wp2_with (go_at_call 65;refine (ints_any _ _ _).mono ?_;rintro e w' ⟨rfl,rfl⟩)
        go_ret
        exact ⟨ret_int (by rw [uh Heq,uh Hend]),hbel⟩
      · clear hlt
        go_wp2_with (go_at_call 65;refine (ints_any _ _ _).mono ?_;rintro e w' ⟨rfl,rfl⟩)
        go_ret
        exact ⟨ret_int (by rw [uh Heq,uh Hend]),hbel⟩

end Go.Proofs.YtencibjmiphinaaGreatDoor.Sc
namespace Go.Proofs.YtencibjmiphinaaGreatDoor.Sc
open Go.RowKit

def isLet (c:Int):Bool:=decide (97≤c) && decide (c≤122)
def isDig (c:Int):Bool:=decide (48≤c) && decide (c≤57)
def okB (c:Int):Bool:=isLet c || isDig c || c == 95
def byteI (s:ByteArray) (i:Nat):Int:=if h:i < s.size then (s[i].toNat:Int) else 0
theorem byteI_lt {s:ByteArray} {i:Nat} (h:i < s.size):byteI s i=(s[i].toNat:Int):=by unfold byteI;rw [dif_pos h]
/-- Is it a name? -/
def nameOk (s:ByteArray):Bool:=decide (1≤s.size) && decide (s.size≤32) && isLet (byteI s 0) && (List.range s.size).all fun i=>okB (byteI s i)
theorem name_no0 {s:ByteArray} (h:s.size < 1):nameOk s=false:=by unfold nameOk;simp;omega
theorem name_no32 {s:ByteArray} (h:32 < s.size):nameOk s=false:=by unfold nameOk;simp;omega
theorem name_noL {s:ByteArray} (h:isLet (byteI s 0)=false):nameOk s=false:=by unfold nameOk;simp [h]
theorem name_noB {s:ByteArray} {i:Nat} (hi:i < s.size) (h:okB (byteI s i)=false):nameOk s=false:=by
  unfold nameOk
  rw [Bool.and_eq_false_iff]
  right
  rw [Bool.eq_false_iff]
  intro hall
  rw [List.all_eq_true] at hall
  have:=hall i (by simpa using hi)
  rw [h] at this;cases this
theorem name_yes {s:ByteArray} (h1:1≤s.size) (h2:s.size≤32) (h3:isLet (byteI s 0)=true) (h:∀ j,j < s.size→okB (byteI s j)=true):nameOk s=true:=by
  unfold nameOk
  rw [h3]
  simp only [Bool.and_eq_true,decide_eq_true_eq,List.all_eq_true,List.mem_range]
  exact ⟨⟨⟨h1,h2⟩,trivial⟩,h⟩

set_option maxHeartbeats 400000 in
theorem letter_any (c:Int) (w:World) :
    Calls Tryz.prog 102 #[.int .u8 c] w fun e w'=>e=.returned (.bool (isLet c))∧w'=w:=by
  by_cases h1:97≤c <;> by_cases h2:c≤122
  all_goals
    go_enter Tryz.func102,Tryz.ntmps102
    go_wp2
    go_ret
    exact ⟨ret_bool (by simp [isLet,h1,h2]),rfl⟩
set_option maxHeartbeats 400000 in
theorem digit_any (c:Int) (w:World) :
    Calls Tryz.prog 103 #[.int .u8 c] w fun e w'=>e=.returned (.bool (isDig c))∧w'=w:=by
  by_cases h1:48≤c <;> by_cases h2:c≤57
  all_goals
    go_enter Tryz.func103,Tryz.ntmps103
    go_wp2
    go_ret
    exact ⟨ret_bool (by simp [isDig,h1,h2]),rfl⟩

set_option maxHeartbeats 1000000 in
theorem name_any (s:ByteArray) (w:World) :
    Calls Tryz.prog 60 #[.string s] w fun e w'=>e=.returned (.bool (nameOk s))∧w'=w:=by
  by_cases h1:s.size < 1
  · have hn:=hide (name_no0 h1)
    have i1:(s.size:Int) < 1:=by omega
    go_enter Tryz.func60,Tryz.ntmps60
    go_wp2
    go_ret
    exact ⟨ret_bool (uh hn).symm,rfl⟩
  · by_cases h2:32 < s.size
    · have hn:=hide (name_no32 h2)
      have i1:¬ (s.size:Int) < 1:=by omega
      have i2:(32:Int) < (s.size:Int):=by omega
      go_enter Tryz.func60,Tryz.ntmps60
      go_wp2
      go_ret
      exact ⟨ret_bool (uh hn).symm,rfl⟩
    · have i1:¬ (s.size:Int) < 1:=by omega
      have i2:¬ (32:Int) < (s.size:Int):=by omega
      have hb0:=byteI_lt (s:=s) (i:=0) (by omega)
      have hlt:=fun (c:Int) (W:World)=>letter_any c W
      have hdg:=fun (c:Int) (W:World)=>digit_any c W
      cases hl:isLet (byteI s 0) with
      | false =>
        have hn:=hide (name_noL hl)
        rw [hb0] at hl
        clear hb0
        have i0:(0:Int) < (s.size:Int):=by omega
        go_enter Tryz.func60,Tryz.ntmps60
        go_wp2_with (first | (go_at_call 102;refine (hlt _ _).mono ?_;rintro e w' ⟨rfl,rfl⟩))
        go_ret
        exact ⟨ret_bool (uh hn).symm,rfl⟩
      | true =>
        have Hl:=hide hl
        rw [hb0] at hl
        clear hb0
        have i0:(0:Int) < (s.size:Int):=by omega
        go_enter Tryz.func60,Tryz.ntmps60
        go_wp2_with (first | (go_at_call 102;refine (hlt _ _).mono ?_;rintro e w' ⟨rfl,rfl⟩))
        go_loop [20] (fun i=>∃ k:Nat,k≤s.size∧i=.int .i64 k∧∀ j,j < k→okB (byteI s j)=true) (fun i=>s.size - (intOf i).toNat)
        case atStart=>exact ⟨0,by omega,rfl,fun j hj=>by omega⟩
        case round =>
          obtain ⟨k,hk,rfl,hz⟩:=hrel
          have Hz:=hide hz
          clear hz
          by_cases hkl:k < s.size
          · have ki0:(0:Int)≤(k:Int):=by omega
            have ki1:(k:Int) < (s.size:Int):=by omega
            have hbk:=byteI_lt hkl
            cases hok:okB (byteI s k) with
            | true =>
              have Hok:=hide hok
              rw [hbk] at hok
              have hparts:(isLet (s[k].toNat:Int)=true) ∨ (isLet (s[k].toNat:Int)=false∧isDig (s[k].toNat:Int)=true) ∨ (isLet (s[k].toNat:Int)=false∧isDig (s[k].toNat:Int)=false∧((s[k].toNat:Int) != 95)=false):=by
                revert hok;unfold okB
                cases isLet (s[k].toNat:Int) <;> cases isDig (s[k].toNat:Int) <;> simp
              clear hok hbk
              rcases hparts with p1 | ⟨p1,p2⟩ | ⟨p1,p2,p3⟩
              all_goals
                go_wp2_with (first | (go_at_call 102;refine (hlt _ _).mono ?_;rintro e w' ⟨rfl,rfl⟩) | (go_at_call 103;refine (hdg _ _).mono ?_;rintro e w' ⟨rfl,rfl⟩))
                go_round
                case rel=>exact ⟨k + 1,by omega,by go_num,fun j hj=>by
                  by_cases e:j=k
                  · rw [e];exact uh Hok
                  · exact uh Hz j (by omega)⟩
                case measure=>simp [intOf];omega
            | false =>
              have hn:=hide (name_noB hkl hok)
              rw [hbk] at hok
              have hparts:isLet (s[k].toNat:Int)=false∧isDig (s[k].toNat:Int)=false∧((s[k].toNat:Int) != 95)=true:=by
                revert hok;unfold okB
                cases isLet (s[k].toNat:Int) <;> cases isDig (s[k].toNat:Int) <;> simp
              obtain ⟨p1,p2,p3⟩:=hparts
              clear hok hbk
              go_wp2_with (first | (go_at_call 102;refine (hlt _ _).mono ?_;rintro e w' ⟨rfl,rfl⟩) | (go_at_call 103;refine (hdg _ _).mono ?_;rintro e w' ⟨rfl,rfl⟩))
              go_ret
              exact ⟨ret_bool (uh hn).symm,rfl⟩
          · obtain rfl:k=s.size:=by omega
            go_wp2
            go_ret
            exact ⟨ret_bool (name_yes (by omega) (by omega) (uh Hl) (uh Hz)).symm,rfl⟩

set_option maxHeartbeats 1000000 in
theorem refName_any (s:ByteArray) (w:World) :
    Calls Tryz.prog 33 #[.string s] w fun e w'=>e=.returned (.bool (nameOk s))∧w'=w:=by
  by_cases h1:s.size < 1
  · have hn:=hide (name_no0 h1)
    have he:s.toList.isEmpty=true:=(empty_iff s).2 (by omega)
    go_enter Tryz.func33,Tryz.ntmps33
    go_wp2
    go_ret
    exact ⟨ret_bool (uh hn).symm,rfl⟩
  · have he:s.toList.isEmpty=false:=by
      cases h:s.toList.isEmpty with
      | false=>rfl
      | true=>have:=(empty_iff s).1 h;omega
    by_cases h2:32 < s.size
    · have hn:=hide (name_no32 h2)
      have i2:(32:Int) < (s.size:Int):=by omega
      go_enter Tryz.func33,Tryz.ntmps33
      go_wp2
      go_ret
      exact ⟨ret_bool (uh hn).symm,rfl⟩
    · have i2:¬ (32:Int) < (s.size:Int):=by omega
      go_enter Tryz.func33,Tryz.ntmps33
      go_wp2
      go_loop [3] (fun i=>∃ k:Nat,k≤s.size∧i=.int .i64 k∧(0 < k→isLet (byteI s 0)=true)∧∀ j,j < k→okB (byteI s j)=true) (fun i=>s.size - (intOf i).toNat)
      case atStart=>exact ⟨0,by omega,rfl,fun h=>by omega,fun j hj=>by omega⟩
      case round =>
        obtain ⟨k,hk,rfl,hl,hz⟩:=hrel
        have Hz:=hide hz
        have Hl:=hide hl
        clear hz hl
        by_cases hkl:k < s.size
        · have ki0:(0:Int)≤(k:Int):=by omega
          have ki1:(k:Int) < (s.size:Int):=by omega
          have hbk:=hide (byteI_lt hkl)
          by_cases k0:k=0
          · subst k0
            by_cases a:(97:Int)≤(s[0].toNat:Int)∧(s[0].toNat:Int)≤122
            · obtain ⟨a1,a2⟩:=a
              have hL:isLet (byteI s 0)=true:=by rw [uh hbk];simp [isLet,a1,a2]
              have HL:=hide hL
              clear hL
              go_wp2
              go_round
              case rel=>exact ⟨0 + 1,by omega,by go_num,fun _=>uh HL,fun j hj=>by
                  obtain rfl:j=0:=by omega
                  simp [okB,uh HL]⟩
              case measure=>simp [intOf];omega
            · have hN:=hide (name_noL (s:=s) (by rw [uh hbk];simp [isLet];omega))
              by_cases a1:(97:Int)≤(s[0].toNat:Int)
              · have a2:¬ (s[0].toNat:Int)≤122:=fun h=>a ⟨a1,h⟩
                clear a
                go_wp2
                go_ret
                exact ⟨ret_bool (uh hN).symm,rfl⟩
              · clear a
                go_wp2
                go_ret
                exact ⟨ret_bool (uh hN).symm,rfl⟩
          · have kd:((k:Int) == 0)=false:=by simp;omega
            cases hok:okB (byteI s k) with
            | true =>
              have Hok:=hide hok
              rw [uh hbk] at hok
              have hparts:((97:Int)≤(s[k].toNat:Int)∧(s[k].toNat:Int)≤122) ∨ (¬ (97:Int)≤(s[k].toNat:Int)∧¬ (s[k].toNat:Int) < 48∧¬ (57:Int) < (s[k].toNat:Int)) ∨ (¬ (97:Int)≤(s[k].toNat:Int)∧¬ (s[k].toNat:Int) < 48∧(57:Int) < (s[k].toNat:Int)∧((s[k].toNat:Int) != 95)=false):=by
                revert hok;unfold okB isLet isDig;simp;omega
              clear hok
              rcases hparts with ⟨p1,p2⟩ | ⟨p1,p2,p3⟩ | ⟨p1,p2,p3,p4⟩
              all_goals
                go_wp2
                go_round
                case rel=>exact ⟨k + 1,by omega,by go_num,fun _=>uh Hl (by omega),fun j hj=>by
                  by_cases e:j=k
                  · rw [e];exact uh Hok
                  · exact uh Hz j (by omega)⟩
                case measure=>simp [intOf];omega
            | false =>
              have hn:=hide (name_noB hkl hok)
              rw [uh hbk] at hok
              have hparts:(¬ (97:Int)≤(s[k].toNat:Int)∧(s[k].toNat:Int) < 48∧((s[k].toNat:Int) != 95)=true) ∨ (¬ (97:Int)≤(s[k].toNat:Int)∧¬ (s[k].toNat:Int) < 48∧(57:Int) < (s[k].toNat:Int)∧((s[k].toNat:Int) != 95)=true) ∨ ((97:Int)≤(s[k].toNat:Int)∧¬ (s[k].toNat:Int)≤122∧¬ (s[k].toNat:Int) < 48∧(57:Int) < (s[k].toNat:Int)∧((s[k].toNat:Int) != 95)=true):=by
                revert hok;unfold okB isLet isDig;simp;omega
              clear hok
              rcases hparts with ⟨p1,p2,p3⟩ | ⟨p1,p2,p3,p4⟩ | ⟨p1,p2,p3,p4,p5⟩
              all_goals
                go_wp2
                go_ret
                exact ⟨ret_bool (uh hn).symm,rfl⟩
        · obtain rfl:k=s.size:=by omega
          go_wp2
          go_ret
          exact ⟨ret_bool (name_yes (by omega) (by omega) (uh Hl (by omega)) (uh Hz)).symm,rfl⟩

end Go.Proofs.YtencibjmiphinaaGreatDoor.Sc
namespace Go.Proofs.YtencibjmiphinaaGreatDoor.Sc
open Go.RowKit

/-- The block b holds the attributes l from off on. -/
def AtsAt (w:World) (b off:Nat) (l:List (ByteArray × Int)):Prop :=
  ∀ (j:Nat) (x:ByteArray × Int),l[j]? = some x→w.cell? ⟨b,off + j * 2,none⟩=some (.string x.1)∧w.cell? ⟨b,off + j * 2 + 1,none⟩=some (.int .i64 x.2)
/-- A slice that begins at p holds the attributes l. -/
def AtsOf (w:World) (p:Option Addr) (l:List (ByteArray × Int)):Prop :=
  0 < l.length→∃ b off,p=some ⟨b,off,none⟩∧b < w.heap.size∧AtsAt w b off l
/-- The block b holds the pairs l from off on. -/
def PrsAt (w:World) (b off:Nat) (l:List (ByteArray × Int × Int × ByteArray)):Prop :=
  ∀ (j:Nat) (x:ByteArray × Int × Int × ByteArray),l[j]? = some x→w.cell? ⟨b,off + j * 4,none⟩=some (.string x.1)∧w.cell? ⟨b,off + j * 4 + 1,none⟩=some (.int .i64 x.2.1)∧w.cell? ⟨b,off + j * 4 + 2,none⟩=some (.int .i64 x.2.2.1)∧w.cell? ⟨b,off + j * 4 + 3,none⟩=some (.string x.2.2.2)
def PrsOf (w:World) (p:Option Addr) (l:List (ByteArray × Int × Int × ByteArray)):Prop :=
  0 < l.length→∃ b off,p=some ⟨b,off,none⟩∧b < w.heap.size∧PrsAt w b off l
theorem AtsAt.below {B:Nat} {w w':World} {b off:Nat} {l:List (ByteArray × Int)} (h:AtsAt w b off l) (hb:Below B w w') (hB:b < B):AtsAt w' b off l:=fun j x hj =>
  ⟨(hb.cell (by exact hB)).trans (h j x hj).1,(hb.cell (by exact hB)).trans (h j x hj).2⟩
theorem PrsAt.below {B:Nat} {w w':World} {b off:Nat} {l:List (ByteArray × Int × Int × ByteArray)} (h:PrsAt w b off l) (hb:Below B w w') (hB:b < B):PrsAt w' b off l:=fun j x hj =>
  ⟨(hb.cell (by exact hB)).trans (h j x hj).1,(hb.cell (by exact hB)).trans (h j x hj).2.1,(hb.cell (by exact hB)).trans (h j x hj).2.2.1,(hb.cell (by exact hB)).trans (h j x hj).2.2.2⟩
theorem AtsOf.below {w w':World} {p:Option Addr} {l:List (ByteArray × Int)} (h:AtsOf w p l) (hb:Below w.heap.size w w'):AtsOf w' p l:=fun h0=>by
  obtain ⟨b,off,rfl,hB,hA⟩:=h h0
  exact ⟨b,off,rfl,Nat.lt_of_lt_of_le hB hb.size,hA.below hb hB⟩
theorem PrsOf.below {w w':World} {p:Option Addr} {l:List (ByteArray × Int × Int × ByteArray)} (h:PrsOf w p l) (hb:Below w.heap.size w w'):PrsOf w' p l:=fun h0=>by
  obtain ⟨b,off,rfl,hB,hA⟩:=h h0
  exact ⟨b,off,rfl,Nat.lt_of_lt_of_le hB hb.size,hA.below hb hB⟩
theorem AtsOf.nil (w:World) (p:Option Addr):AtsOf w p []:=fun h=>absurd h (by simp)
theorem PrsOf.nil (w:World) (p:Option Addr):PrsOf w p []:=fun h=>absurd h (by simp)
theorem get_at {α:Type} {l:List α} {k:Nat} (h:k < l.length):∃ x,l[k]? = some x∧l.drop k=x :: l.drop (k + 1):=⟨l[k],List.getElem?_eq_getElem h,List.drop_eq_getElem_cons h⟩

/-- The kind of the first attribute of the name; 0: none. -/
def kindOf:List (ByteArray × Int)→ByteArray→Int
  | [],_=>0
  | x :: r,s=>if x.1.toList == s.toList then x.2 else kindOf r s
theorem kind_yes {l:List (ByteArray × Int)} {s:ByteArray} {k:Nat} {x:ByteArray × Int} (hk:kindOf l s=kindOf (l.drop k) s) (hd:l.drop k=x :: l.drop (k + 1)) (h:(x.1.toList == s.toList)=true):kindOf l s=x.2:=by
  rw [hk,hd];unfold kindOf;rw [if_pos h]
theorem kind_no {l:List (ByteArray × Int)} {s:ByteArray} {k:Nat} {x:ByteArray × Int} (hk:kindOf l s=kindOf (l.drop k) s) (hd:l.drop k=x :: l.drop (k + 1)) (h:(x.1.toList == s.toList)=false):kindOf l s=kindOf (l.drop (k + 1)) s:=by
  rw [hk,hd];conv=>lhs;unfold kindOf;rw [if_neg (by simp [h])]
theorem kind_end {l:List (ByteArray × Int)} {s:ByteArray} {k:Nat} (hk:kindOf l s=kindOf (l.drop k) s) (h:¬ k < l.length):kindOf l s=0:=by
  rw [hk,List.drop_of_length_le (by omega)];rfl
/-- The schema at b holds the attributes l. -/
def SchAt (w:World) (b:Nat) (l:List (ByteArray × Int)):Prop :=
  b < w.heap.size∧∃ p cap,w.cell? ⟨b,0,none⟩=some (.slice p l.length cap)∧AtsOf w p l∧(p=none→l.length=0∧cap=0)
theorem SchAt.below {w w':World} {b:Nat} {l:List (ByteArray × Int)} (h:SchAt w b l) (hb:Below w.heap.size w w'):SchAt w' b l:=by
  obtain ⟨h0,p,cap,hc,hA,hp⟩:=h
  exact ⟨Nat.lt_of_lt_of_le h0 hb.size,p,cap,(hb.cell (by exact h0)).trans hc,hA.below hb,hp⟩

set_option maxHeartbeats 1000000 in
theorem kind_any (b:Nat) (l:List (ByteArray × Int)) (s:ByteArray) (w:World) (hm:l.length≤140737488355328) (hS:SchAt w b l) :
    Calls Tryz.prog 68 #[.pointer (some ⟨b,0,none⟩),.string s] w fun e w'=>e=.returned (.int .i64 (kindOf l s))∧Below w.heap.size w w':=by
  obtain ⟨h0,p,cap,hc,hA,_⟩:=hS
  have HA:=hide hA
  clear hA
  go_enter Tryz.func68,Tryz.ntmps68
  go_wp2
  go_loopw [12] (fun i wr=>∃ k:Nat,k≤l.length∧i=.int .i64 k∧Below w.heap.size w wr∧kindOf l s=kindOf (l.drop k) s) (fun i _=>l.length - (intOf i).toNat)
  case atStart=>exact ⟨0,by omega,rfl,Below.refl _ _,by simp⟩
  case round =>
    obtain ⟨k,hk,rfl,hbel,heq⟩:=hrel
    have Heq:=hide heq
    clear heq
    by_cases hlt:k < l.length
    · obtain ⟨bb,off,rfl,hbb,hAt⟩:=uh HA (by omega)
      obtain ⟨x,hx,hd⟩:=get_at hlt
      have Hd:=hide hd
      clear hd
      have ki0:(0:Int)≤(k:Int):=by omega
      have ki1:(k:Int) < (l.length:Int):=by omega
      obtain ⟨g0,g1⟩:=hAt.below hbel hbb k x hx
      have Hx:=hide hx
      clear hx
      cases hq:(x.1.toList == s.toList) with
      | true =>
        have Hy:=hide (kind_yes (uh Heq) (uh Hd) hq)
        go_wp2
        go_ret
        exact ⟨ret_int (uh Hy).symm,hbel.alloc hbel.size _⟩
      | false =>
        have Hy:=hide (kind_no (uh Heq) (uh Hd) hq)
        go_wp2
        go_roundw
        case rel=>exact ⟨k + 1,by omega,by go_num,hbel.alloc hbel.size _,uh Hy⟩
        case measure=>simp [intOf];omega
    · obtain rfl:k=l.length:=by omega
      have Hy:=hide (kind_end (uh Heq) hlt)
      go_wp2
      go_ret
      exact ⟨ret_int (uh Hy).symm,hbel⟩

set_option maxHeartbeats 1000000 in
theorem refKind_any (p:Option Addr) (cap:Nat) (l:List (ByteArray × Int)) (s:ByteArray) (w:World) (hm:l.length≤140737488355328) (hA:AtsOf w p l) :
    Calls Tryz.prog 34 #[.slice p l.length cap,.string s] w fun e w'=>e=.returned (.int .i64 (kindOf l s))∧Below w.heap.size w w':=by
  have HA:=hide hA
  clear hA
  go_enter Tryz.func34,Tryz.ntmps34
  go_wp2
  go_loopw [5] (fun i wr=>∃ k:Nat,k≤l.length∧i=.int .i64 k∧Below w.heap.size w wr∧kindOf l s=kindOf (l.drop k) s) (fun i _=>l.length - (intOf i).toNat)
  case atStart=>exact ⟨0,by omega,rfl,Below.refl _ _,by simp⟩
  case round =>
    obtain ⟨k,hk,rfl,hbel,heq⟩:=hrel
    have Heq:=hide heq
    clear heq
    by_cases hlt:k < l.length
    · obtain ⟨bb,off,rfl,hbb,hAt⟩:=uh HA (by omega)
      obtain ⟨x,hx,hd⟩:=get_at hlt
      have Hd:=hide hd
      clear hd
      have ki0:(0:Int)≤(k:Int):=by omega
      have ki1:(k:Int) < (l.length:Int):=by omega
      obtain ⟨g0,g1⟩:=hAt.below hbel hbb k x hx
      have Hx:=hide hx
      clear hx
      cases hq:(x.1.toList == s.toList) with
      | true =>
        have Hy:=hide (kind_yes (uh Heq) (uh Hd) hq)
        go_wp2
        go_ret
        exact ⟨ret_int (uh Hy).symm,hbel⟩
      | false =>
        have Hy:=hide (kind_no (uh Heq) (uh Hd) hq)
        go_wp2
        go_roundw
        case rel=>exact ⟨k + 1,by omega,by go_num,hbel,uh Hy⟩
        case measure=>simp [intOf];omega
    · obtain rfl:k=l.length:=by omega
      have Hy:=hide (kind_end (uh Heq) hlt)
      go_wp2
      go_ret
      exact ⟨ret_int (uh Hy).symm,hbel⟩

end Go.Proofs.YtencibjmiphinaaGreatDoor.Sc
