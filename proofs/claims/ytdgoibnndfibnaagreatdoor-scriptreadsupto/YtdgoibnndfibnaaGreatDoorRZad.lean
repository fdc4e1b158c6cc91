/- Lines of a script: their words. Plain. -/
import Derived.Test.YtdgoibnndfibnaaGreatDoorRZac
import Derived.Test.YtdgoibnndfibnaaGreatDoorRUnq
import Derived.Test.YtdgoibnndfibnaaGreatDoorRows
import Derived.WalkKit
import Derived.WalkSpells
import Derived.WalkLawsBesides
import Derived.Deep.RegionHeld3
import Derived.Deep.QuietTactic
import Derived.BigQuiet
namespace Go.Proofs.YtdgoibnndfibnaaGreatDoor
abbrev Bs:=List UInt8
/-- Where the first word of a line ends; q: within quotation marks. -/
def wEnd:Bool->Bs->Nat
  | _,[]=>0
  | q,[c]=>if c=32/\q=false then 0 else 1
  | q,c :: d :: r=>if c=92 then 2 + wEnd q r else if c=34 then 1 + wEnd (!q) (d :: r) else if c=32/\q=false then 0 else 1 + wEnd q (d :: r)
theorem wEnd_cons {q:Bool} {c:UInt8} (h:c ≠ 92) (r:Bs):wEnd q (c :: r)=if c=34 then 1 + wEnd (!q) r else if c=32/\q=false then 0 else 1 + wEnd q r:=by
 cases r with
 | nil =>
  unfold wEnd
  by_cases h1:c=34
  ·subst h1;simp
  ·rw [if_neg h1]
 | cons d r=>rw [wEnd,if_neg h]
theorem wEnd_esc (q:Bool) (d:UInt8) (r:Bs):wEnd q (92 :: d :: r)=2 + wEnd q r:=by rw [wEnd,if_pos rfl]
theorem wEnd_le:∀ (q:Bool) (l:Bs),wEnd q l<=l.length
 | _,[]=>by simp [wEnd]
 | q,[c]=>by unfold wEnd;split <;> simp
 | q,c :: d :: r=>by
  have h1:=wEnd_le q r
  have h2:=wEnd_le (!q) (d :: r)
  have h3:=wEnd_le q (d :: r)
  unfold wEnd
  simp only [List.length_cons] at *
  split
  ·omega
  ·split
   ·omega
   ·split <;> omega
/-- From the state q a piece leads to the state q', and no word ends in it. -/
def Pass (q:Bool) (l:Bs) (q':Bool):Prop:=∀ r,wEnd q (l ++ r)=l.length + wEnd q' r
theorem Pass.nil (q:Bool):Pass q [] q:=fun r=>by simp
theorem Pass.app {q q1 q2:Bool} {a b:Bs} (h:Pass q a q1) (h2:Pass q1 b q2):Pass q (a ++ b) q2:=fun r=>by
 rw [List.append_assoc,h,h2,List.length_append];omega
theorem Pass.one {q:Bool} {c:UInt8} (h1:c ≠ 92) (h2:c ≠ 34) (h3:c ≠ 32 ∨ q=true):Pass q [c] q:=fun r=>by
 have:¬ (c=32/\q=false):=by rintro ⟨rfl,rfl⟩;rcases h3 with h3 | h3 <;> simp at h3
 rw [List.singleton_append,wEnd_cons h1,if_neg h2,if_neg this];rfl
theorem Pass.mark (q:Bool):Pass q [34] (!q):=fun r=>by rw [List.singleton_append,wEnd_cons (by decide),if_pos rfl];rfl
theorem Pass.pair (q:Bool) (d:UInt8):Pass q [92,d] q:=fun r=>by
 show wEnd q (92 :: d :: r)=_
 rw [wEnd_esc];rfl
theorem Pass.cons {q q1 q2:Bool} {c:UInt8} {l:Bs} (h:Pass q [c] q1) (h2:Pass q1 l q2):Pass q (c :: l) q2:=h.app h2
/-- No blank, no quotation mark, no backslash. -/
def Bare (l:Bs):Prop:=∀ c ∈ l,c ≠ 92/\c ≠ 34/\c ≠ 32
theorem Bare.pass {l:Bs} (h:Bare l) (q:Bool):Pass q l q:=by
 induction l with
 | nil=>exact Pass.nil q
 | cons c l ih =>
  obtain ⟨h1,h2,h3⟩:=h c (by simp)
  exact (Pass.one h1 h2 (Or.inl h3)).cons (ih fun d hd=>h d (by simp [hd]))
theorem hexd_bare (n:Nat) (h:n < 16):hexd n ≠ 92/\hexd n ≠ 34/\hexd n ≠ 32:=by
 have:∀ k:Fin 16,hexd k.val ≠ 92/\hexd k.val ≠ 34/\hexd k.val ≠ 32:=by decide
 exact this ⟨n,h⟩
theorem esc_pass (c:UInt8):Pass true (esc c) true:=by
 unfold esc
 split
 ·exact Pass.pair true c
 ·next h =>
  split
  ·have h1:c ≠ 92:=fun e=>h (by subst e;decide)
   have h2:c ≠ 34:=fun e=>h (by subst e;decide)
   exact Pass.one h1 h2 (Or.inr rfl)
  ·have hl:=c.toNat_lt
   obtain ⟨a1,a2,a3⟩:=hexd_bare (c.toNat / 16) (by omega)
   obtain ⟨b1,b2,b3⟩:=hexd_bare (c.toNat % 16) (by omega)
   exact (Pass.pair true 120).app ((Pass.one a1 a2 (Or.inl a3)).app (Pass.one b1 b2 (Or.inl b3)))
theorem escs_pass (l:Bs):Pass true (escs l) true:=by
 induction l with
 | nil=>exact Pass.nil true
 | cons c l ih=>rw [escs_cons];exact (esc_pass c).app ih
theorem quote_pass (l:Bs):Pass false (quoteL l) false:=(Pass.mark false).app ((escs_pass l).app (Pass.mark true))
theorem itoa_char (n:Int):∀ c ∈ Go.Lib.itoa n,c=45 ∨ (48<=c.toNat/\c.toNat<=57):=fun c hc=>by
 unfold Go.Lib.itoa at hc
 split at hc
 ·rcases List.mem_cons.1 hc with h | h
  ·exact Or.inl h
  ·exact Or.inr (dec_digit _ c h)
 ·exact Or.inr (dec_digit _ c hc)
theorem itoa_bare (n:Int):Bare (Go.Lib.itoa n):=fun c hc=>by
 rcases itoa_char n c hc with rfl | ⟨h1,h2⟩
 ·decide
 ·refine ⟨?_, ?_, ?_⟩ <;> (rintro rfl;revert h1 h2;decide)
theorem itoa_ne (n:Int):Go.Lib.itoa n ≠ []:=by
 unfold Go.Lib.itoa
 split
 ·simp
 ·exact dec_ne _
/-- One blank is taken off ahead. -/
def trimP:Bs->Bs
  | []=>[]
  | c :: r=>if c=32 then r else c :: r
/-- The first word, and what is left behind it. -/
def nextW (l:Bs):Bs × Bs:=(l.take (wEnd false l),trimP (l.drop (wEnd false l)))
/-- Words with a blank ahead of each. -/
def tailW (ws:List Bs):Bs:=ws.flatMap fun w=>32 :: w
/-- Words with a blank between. -/
def wordsW:List Bs->Bs
  | []=>[]
  | w :: ws=>w ++ tailW ws
theorem tailW_cons (w:Bs) (ws:List Bs):tailW (w :: ws)=32 :: w ++ tailW ws:=by simp [tailW]
theorem nextW_words {w:Bs} (h:Pass false w false) (ws:List Bs):nextW (w ++ tailW ws)=(w,wordsW ws):=by
 have h0:wEnd false (tailW ws)=0:=by
  cases ws with
  | nil=>simp [tailW,wEnd]
  | cons v ws=>rw [tailW_cons,List.cons_append,wEnd_cons (by decide),if_neg (by decide),if_pos ⟨rfl,rfl⟩]
 have e:wEnd false (w ++ tailW ws)=w.length:=by rw [h,h0];rfl
 unfold nextW
 rw [e,List.take_left,List.drop_left]
 cases ws with
 | nil=>simp [tailW,trimP,wordsW]
 | cons v ws=>rw [tailW_cons];simp [trimP,wordsW]
theorem trimP_le (l:Bs):(trimP l).length<=l.length:=by cases l with
 | nil=>simp [trimP]
 | cons c l=>show (if c=32 then l else c :: l).length<=_;split <;> simp
theorem nextW_lt {l:Bs} (h:l ≠ []):(nextW l).2.length < l.length:=by
 have hl:=wEnd_le false l
 have ht:=trimP_le (l.drop (wEnd false l))
 simp only [List.length_drop] at ht
 show (trimP (l.drop (wEnd false l))).length < l.length
 by_cases h0:wEnd false l=0
 ·cases l with
  | nil=>exact absurd rfl h
  | cons c r =>
   rw [h0,List.drop_zero]
   have hc:c=32:=by
    by_cases h9:c=92
    ·subst h9
     cases r with
     | nil=>simp [wEnd] at h0
     | cons d r=>rw [wEnd_esc] at h0;omega
    ·rw [wEnd_cons h9] at h0
     split at h0
     ·omega
     ·split at h0
      ·next h=>exact h.1
      ·omega
   subst hc
   simp [trimP]
 ·have:0 < l.length:=List.length_pos_iff.2 h
  omega
theorem nextW_le (l:Bs):(nextW l).2.length<=l.length:=by
 by_cases h:l=[]
 ·subst h;simp [nextW,wEnd,trimP]
 ·exact Nat.le_of_lt (nextW_lt h)
theorem nextW_le1 (l:Bs):(nextW l).1.length<=l.length:=by simp [nextW];omega
/-- strconv.Atoi's number, with an error too. -/
def atoiN (l:Bs):Int:=match Go.Lib.atoiAll l with
  | .ok v=>v
  | .syntax=>0
  | .range=>Go.Lib.atoiSat l
theorem atoiN_itoa (n:Int) (h0:-9223372036854775808<=n) (h1:n<=9223372036854775807):atoiN (Go.Lib.itoa n)=n:=by unfold atoiN;rw [atoi_itoa n h0 h1]
/-- An int. -/
def I64 (n:Int):Prop:=-9223372036854775808<=n/\n<=9223372036854775807
/-- All that is left, read word by word. -/
def readW {α:Type} (f:Bs->α):Nat->Bs->List α
  | 0,_=>[]
  | k + 1,l=>if l=[] then [] else f (nextW l).1 :: readW f k (nextW l).2
theorem readW_fuel {α:Type} (f:Bs->α):∀ (k:Nat) (l:Bs),l.length<=k->readW f k l=readW f l.length l:=by
 intro k
 induction k using Nat.strongRecOn with
 | _ k ih =>
  intro l hl
  cases l with
  | nil=>cases k <;> simp [readW]
  | cons c r =>
   cases k with
   | zero=>simp at hl
   | succ k =>
    have hlt:=nextW_lt (l:=c :: r) (by simp)
    simp only [List.length_cons] at hl hlt
    show readW f (k + 1) (c :: r)=readW f (r.length + 1) (c :: r)
    rw [readW,readW,if_neg (by simp),if_neg (by simp)]
    rw [ih k (by omega) _ (by omega)]
    by_cases hk:r.length < k + 1
    ·rw [ih r.length hk _ (by omega)]
    ·have:r.length=k:=by omega
     rw [this,ih k (by omega) _ (by omega)]
def readA {α:Type} (f:Bs->α) (l:Bs):List α:=readW f l.length l
theorem readA_nil {α:Type} (f:Bs->α):readA f []=[]:=rfl
theorem readA_step {α:Type} (f:Bs->α) {l:Bs} (h:l ≠ []):readA f l=f (nextW l).1 :: readA f (nextW l).2:=by
 have hlt:=nextW_lt h
 unfold readA
 cases l with
 | nil=>exact absurd rfl h
 | cons c r =>
  simp only [List.length_cons] at hlt
  show readW f (r.length + 1) (c :: r)=_
  rw [readW,if_neg h,readW_fuel f r.length _ (by omega)]
theorem readA_len {α:Type} (f:Bs->α):∀ (k:Nat) (l:Bs),l.length<=k->(readA f l).length<=l.length:=by
 intro k
 induction k with
 | zero=>intro l hl;cases l with
  | nil=>simp [readA_nil]
  | cons c r=>simp at hl
 | succ k ih =>
  intro l hl
  by_cases h:l=[]
  ·subst h;simp [readA_nil]
  ·have hlt:=nextW_lt h
   rw [readA_step f h,List.length_cons]
   have:=ih (nextW l).2 (by omega)
   omega
theorem readA_words {α:Type} (f:Bs->α):∀ (ws:List Bs),(∀ w ∈ ws,Pass false w false/\w ≠ [])->readA f (wordsW ws)=ws.map f
 | [],_=>rfl
 | w :: ws,h=>by
  obtain ⟨h1,h2⟩:=h w (by simp)
  have hne:wordsW (w :: ws) ≠ []:=by
   intro e
   have:(wordsW (w :: ws)).length=0:=by rw [e];rfl
   simp only [wordsW,List.length_append] at this
   have:0 < w.length:=List.length_pos_iff.2 h2
   omega
  rw [readA_step f hne]
  show f (nextW (w ++ tailW ws)).1 :: readA f (nextW (w ++ tailW ws)).2=_
  rw [nextW_words h1 ws,readA_words f ws fun v hv=>h v (by simp [hv])]
  rfl
end Go.Proofs.YtdgoibnndfibnaaGreatDoor
namespace Go.Proofs.YtdgoibnndfibnaaGreatDoor.Sc
open Go.RowKit
theorem ret_int {k:IntKind} {a b:Int} (h:a=b):Ending.returned (.int k a)=.returned (.int k b):=by rw [h]
theorem ret_bool {a b:Bool} (h:a=b):Ending.returned (.bool a)=.returned (.bool b):=by rw [h]
theorem hide {p:Prop} (h:p):Hid p:=h
theorem uh {p:Prop} (h:Hid p):p:=h.out
def cmpI (a b:Int):Int:=if a < b then -1 else if b < a then 1 else 0
theorem cmpI_lt {a b:Int} (h:a < b):cmpI a b=-1:=by unfold cmpI;rw [if_pos h]
theorem cmpI_gt {a b:Int} (h:b < a):cmpI a b=1:=by unfold cmpI;rw [if_neg (by omega),if_pos h]
theorem cmpI_eq {a b:Int} (h:a=b):cmpI a b=0:=by unfold cmpI;rw [if_neg (by omega),if_neg (by omega)]
def cmpS (a b:List UInt8):Int:=if Op.bytesLess a b then -1 else if a == b then 0 else 1
set_option maxHeartbeats 400000 in
theorem ints_any (a b:Int) (w:World) :
  Calls Tryz.prog 87 #[.int .i64 a,.int .i64 b] w fun e w'=>e=.returned (.int .i64 (cmpI a b))/\w'=w:=by
 by_cases h1:a < b
 ·go_enter Tryz.func87,Tryz.ntmps87
  go_wp2
  go_ret
  exact ⟨ret_int (cmpI_lt h1).symm,rfl⟩
 ·by_cases h2:b < a
  ·go_enter Tryz.func87,Tryz.ntmps87
   go_wp2
   go_ret
   exact ⟨ret_int (cmpI_gt h2).symm,rfl⟩
  ·go_enter Tryz.func87,Tryz.ntmps87
   go_wp2
   go_ret
   exact ⟨ret_int (cmpI_eq (by omega)).symm,rfl⟩
theorem cmpS_lt {a b:List UInt8} (h:Op.bytesLess a b=true):cmpS a b=-1:=by unfold cmpS;rw [if_pos h]
theorem cmpS_gt {a b:List UInt8} (h:Op.bytesLess a b=false) (h2:(!a == b)=true):cmpS a b=1:=by
 unfold cmpS;rw [if_neg (by simp [h]),if_neg (by simpa using h2)]
theorem cmpS_eq {a b:List UInt8} (h:Op.bytesLess a b=false) (h2:(!a == b)=false):cmpS a b=0:=by
 unfold cmpS;rw [if_neg (by simp [h]),if_pos (by simpa using h2)]
set_option maxHeartbeats 400000 in
theorem cmpStr_any (a b:ByteArray) (w:World) :
  Calls Tryz.prog 83 #[.string a,.string b] w fun e w'=>e=.returned (.int .i64 (cmpS a.toList b.toList))/\w'=w:=by
 go_enter Tryz.func83,Tryz.ntmps83
 go_wp2
 all_goals go_ret
 ·exact ⟨ret_int (cmpS_lt (by assumption)).symm,rfl⟩
 ·exact ⟨ret_int (cmpS_gt (by assumption) (by assumption)).symm,rfl⟩
 ·exact ⟨ret_int (cmpS_eq (by assumption) (by assumption)).symm,rfl⟩
/-- In form? 0: yes, 1: no. -/
def chkV (k n:Int) (s:ByteArray):Int :=
  if (k=1/\-2147483648<=n/\n<=2147483647/\s.size=0) ∨ (k=2/\n=0/\s.size<=64) then 0 else 1
theorem size_toList (s:ByteArray):s.toList.length=s.size:=by rw [ByteArray.toList_eq];simp
theorem empty_iff (s:ByteArray):s.toList.isEmpty=true ↔ s.size=0:=by
 rw [List.isEmpty_iff,<- List.length_eq_zero_iff,size_toList]
theorem chk_yes1 {k n:Int} {s:ByteArray} (h0:(k == 1)=true) (h1:-2147483648<=n) (h2:n<=2147483647) (h3:s.toList.isEmpty=true):chkV k n s=0:=by
 unfold chkV;rw [if_pos (Or.inl ⟨by simpa using h0,h1,h2,(empty_iff s).1 h3⟩)]
theorem chk_yes2 {k n:Int} {s:ByteArray} (h0:(k == 2)=true) (h1:n=0) (h2:(s.size:Int)<=64):chkV k n s=0:=by
 unfold chkV;rw [if_pos (Or.inr ⟨by simpa using h0,h1,by omega⟩)]
theorem chk_no1 {k n:Int} {s:ByteArray} (h0:(k == 1)=true) (h:¬ (-2147483648<=n/\n<=2147483647/\s.size=0)):chkV k n s=1:=by
 have:k=1:=by simpa using h0
 unfold chkV;rw [if_neg];rintro (⟨_,h'⟩ | ⟨h',_⟩);exact h h';omega
theorem chk_no2 {k n:Int} {s:ByteArray} (h0:(k == 1)=false) (h:¬ (k=2/\n=0/\s.size<=64)):chkV k n s=1:=by
 have:k ≠ 1:=by simpa using h0
 unfold chkV;rw [if_neg];rintro (⟨h',_⟩ | h');omega;exact h h'
set_option maxHeartbeats 400000 in
theorem check_any (k n:Int) (s:ByteArray) (w:World) :
  Calls Tryz.prog 115 #[.agg #[.int .i64 k,.int .i64 n,.string s]] w fun e w'=>e=.returned (.int .i64 (chkV k n s))/\Below w.heap.size w w':=by
 go_enter Tryz.func115,Tryz.ntmps115
 go_wp2
 all_goals (go_ret;refine ⟨ret_int ?_,(Below.refl _ _).alloc (Nat.le_refl _) _⟩)
 ·exact (chk_yes1 (by assumption) (by assumption) (by assumption) (by assumption)).symm
 ·exact (chk_no1 (by assumption) (by rw [<- empty_iff];simp [*])).symm
 ·exact (chk_no1 (by assumption) (by omega)).symm
 ·exact (chk_no1 (by assumption) (by omega)).symm
 ·exact (chk_yes2 (by assumption) (by assumption) (by assumption)).symm
 ·exact (chk_no2 (by assumption) (by omega)).symm
 ·exact (chk_no2 (by assumption) (by omega)).symm
 ·rename_i h
  have:k ≠ 2:=by simpa using h
  exact (chk_no2 (by assumption) (by omega)).symm
theorem less_irrefl:∀ l:List UInt8,Op.bytesLess l l=false
  | []=>rfl
  | c :: l=>by simp [Op.bytesLess,less_irrefl l]
theorem less_asymm:∀ l m:List UInt8,Op.bytesLess l m=true->Op.bytesLess m l=false
  | _,[]=>by simp [Op.bytesLess]
  | [],_ :: _=>by simp [Op.bytesLess]
  | a :: x,b :: y=>by
    have ih:=less_asymm x y
    simp only [Op.bytesLess,Bool.or_eq_true,Bool.and_eq_true,decide_eq_true_eq,beq_iff_eq,Bool.or_eq_false_iff,decide_eq_false_iff_not,Bool.and_eq_false_iff,beq_eq_false_iff_ne]
    rintro (h | ⟨rfl,h⟩)
    · refine ⟨fun h2=>?_,Or.inl fun h2=>?_⟩
      · exact absurd (UInt8.lt_trans h h2) (UInt8.lt_irrefl _)
      · subst h2;exact absurd h (UInt8.lt_irrefl _)
    · exact ⟨UInt8.lt_irrefl _,Or.inr (ih h)⟩
theorem less_total:∀ l m:List UInt8,Op.bytesLess l m=false->l ≠ m->Op.bytesLess m l=true
  | [],[]=>by simp
  | _ :: _,[]=>by simp [Op.bytesLess]
  | [],_ :: _=>by simp [Op.bytesLess]
  | a :: x,b :: y=>by
    have ih:=less_total x y
    simp only [Op.bytesLess,Bool.or_eq_true,Bool.and_eq_true,decide_eq_true_eq,beq_iff_eq,Bool.or_eq_false_iff,decide_eq_false_iff_not,Bool.and_eq_false_iff,beq_eq_false_iff_ne]
    rintro ⟨h1,h2⟩ h3
    by_cases e:a=b
    · subst e
      refine Or.inr ⟨rfl,ih ?_ fun h=>h3 (by rw [h])⟩
      rcases h2 with h2 | h2
      · exact absurd rfl h2
      · exact h2
    · left
      rw [UInt8.lt_iff_toNat_lt] at h1 ⊢
      have:a.toNat ≠ b.toNat:=fun h=>e (UInt8.toNat_inj.1 h)
      omega
theorem less_trans:∀ l m n:List UInt8,Op.bytesLess l m=true->Op.bytesLess m n=true->Op.bytesLess l n=true
  | _,_,[]=>by simp [Op.bytesLess]
  | _,[],_ :: _=>by intro h;simp [Op.bytesLess] at h
  | [],_ :: _,_ :: _=>by simp [Op.bytesLess]
  | a :: x,b :: y,c :: z=>by
    have ih:=less_trans x y z
    simp only [Op.bytesLess,Bool.or_eq_true,Bool.and_eq_true,decide_eq_true_eq,beq_iff_eq]
    rintro (h1 | ⟨rfl,h1⟩) (h2 | ⟨rfl,h2⟩)
    · exact Or.inl (UInt8.lt_trans h1 h2)
    · exact Or.inl h1
    · exact Or.inl h2
    · exact Or.inr ⟨rfl,ih h1 h2⟩
theorem cmpS_cases (a b:List UInt8):(Op.bytesLess a b=true/\cmpS a b=-1) ∨ (a=b/\cmpS a b=0) ∨ (Op.bytesLess b a=true/\cmpS a b=1):=by
 cases h:Op.bytesLess a b
 ·by_cases e:a=b
  ·subst e;exact Or.inr (Or.inl ⟨rfl,by unfold cmpS;rw [if_neg (by simp [h]),if_pos (by simp)]⟩)
  ·exact Or.inr (Or.inr ⟨less_total a b h e,by unfold cmpS;rw [if_neg (by simp [h]),if_neg (by simpa using e)]⟩)
 ·exact Or.inl ⟨rfl,cmpS_lt h⟩
/-- First by the one, then by the other. -/
theorem cmpS_cons (a b:UInt8) (x y:List UInt8):cmpS (a :: x) (b :: y)=if a=b then cmpS x y else cmpI (a.toNat:Int) (b.toNat:Int):=by
  by_cases h:a=b
  · subst h
    rw [if_pos rfl]
    unfold cmpS
    simp [Op.bytesLess]
  · rw [if_neg h]
    have hn:a.toNat ≠ b.toNat:=fun e=>h (UInt8.toNat_inj.1 e)
    by_cases hl:a < b
    · rw [cmpS_lt (by simp [Op.bytesLess,hl])]
      rw [UInt8.lt_iff_toNat_lt] at hl
      rw [cmpI_lt (by omega)]
    · rw [cmpS_gt (by simp [Op.bytesLess,hl,h]) (by simp [h])]
      rw [UInt8.lt_iff_toNat_lt] at hl
      rw [cmpI_gt (by omega)]
theorem cmpS_nil_l (m:List UInt8):cmpS [] m=cmpI 0 m.length:=by
 cases m with
 | nil=>rfl
 | cons b y=>rw [cmpS_lt (by simp [Op.bytesLess]),cmpI_lt (by simp)]
theorem cmpS_nil_r (m:List UInt8):cmpS m []=cmpI m.length 0:=by
 cases m with
 | nil=>rfl
 | cons b y=>rw [cmpS_gt (by simp [Op.bytesLess]) (by simp),cmpI_gt (by simp)]
theorem drop_at (s:ByteArray) (k:Nat) (h:k < s.size):s.data.toList.drop k=s[k] :: s.data.toList.drop (k + 1):=by
 rw [List.drop_eq_getElem_cons (by simpa using h)];rfl
theorem cmpI_shift (a b k:Int):cmpI (a - k) (b - k)=cmpI a b:=by
 unfold cmpI
 by_cases h1:a < b
 ·rw [if_pos h1,if_pos (by omega)]
 ·rw [if_neg h1,if_neg (by omega)]
  by_cases h2:b < a
  ·rw [if_pos h2,if_pos (by omega)]
  ·rw [if_neg h2,if_neg (by omega)]
theorem texts_end (a b:ByteArray) (k:Nat) (h1:k<=a.size) (h2:k<=b.size) (h:¬ (k < a.size/\k < b.size)):cmpS (a.data.toList.drop k) (b.data.toList.drop k)=cmpI a.size b.size:=by
 by_cases h3:k < a.size
 ·have h4:k=b.size:=by omega
  rw [List.drop_of_length_le (l:=b.data.toList) (by simp;omega),cmpS_nil_r]
  rw [<- cmpI_shift a.size b.size k]
  simp only [List.length_drop,Array.length_toList]
  congr 1
  ·show ((a.size - k:Nat):Int)=_;omega
  ·omega
 ·have h4:k=a.size:=by omega
  rw [List.drop_of_length_le (l:=a.data.toList) (by simp;omega),cmpS_nil_l]
  rw [<- cmpI_shift a.size b.size k]
  simp only [List.length_drop,Array.length_toList]
  congr 1
  ·omega
  ·show ((b.size - k:Nat):Int)=_;omega
theorem texts_ne (a b:ByteArray) (k:Nat) (h1:k < a.size) (h2:k < b.size) (h:(a[k].toNat:Int) ≠ b[k].toNat):cmpS (a.data.toList.drop k) (b.data.toList.drop k)=cmpI a[k].toNat b[k].toNat:=by
 rw [drop_at a k h1,drop_at b k h2,cmpS_cons,if_neg]
 intro e;rw [e] at h;exact h rfl
theorem texts_eq (a b:ByteArray) (k:Nat) (h1:k < a.size) (h2:k < b.size) (h:(a[k].toNat:Int)=b[k].toNat):cmpS (a.data.toList.drop k) (b.data.toList.drop k)=cmpS (a.data.toList.drop (k + 1)) (b.data.toList.drop (k + 1)):=by
 rw [drop_at a k h1,drop_at b k h2,cmpS_cons,if_pos]
 exact UInt8.toNat_inj.1 (by omega)
theorem wrap_byte (c:UInt8):IntKind.i64.wrap (c.toNat:Int)=(c.toNat:Int):=by
 have:=c.toNat_lt
 have e:(2:Int) ^ IntKind.i64.bits=18446744073709551616:=by decide
 have e2:(2:Int) ^ (IntKind.i64.bits - 1)=9223372036854775808:=by decide
 simp [IntKind.wrap,e,e2]
 omega
set_option maxHeartbeats 1000000 in
theorem texts_any (a b:ByteArray) (w:World) (ha:a.size<=maxLen) :
  Calls Tryz.prog 62 #[.string a,.string b] w fun e w'=>e=.returned (.int .i64 (cmpS a.toList b.toList))/\Below w.heap.size w w':=by
 unfold maxLen at ha
 rw [ByteArray.toList_eq,ByteArray.toList_eq]
 go_enter Tryz.func62,Tryz.ntmps62
 go_wp2
 go_loopw [5] (fun i wr=>∃ k:Nat,k<=a.size/\k<=b.size/\i=.int .i64 k/\Below w.heap.size w wr/\cmpS a.data.toList b.data.toList=cmpS (a.data.toList.drop k) (b.data.toList.drop k)) (fun i _=>a.size - (intOf i).toNat)
 case atStart=>exact ⟨0,Nat.zero_le _,Nat.zero_le _,rfl,Below.refl _ _,by simp⟩
 case round =>
  obtain ⟨k,hka,hkb,rfl,hbel,heq⟩:=hrel
  have Heq:=hide heq
  clear heq
  by_cases hlt:k < a.size/\k < b.size
  ·obtain ⟨h1,h2⟩:=hlt
   have i0:(0:Int)<=(k:Int):=by omega
   have i1:(k:Int) < (a.size:Int):=by omega
   have i2:(k:Int) < (b.size:Int):=by omega
   by_cases hc:(a[k].toNat:Int)=b[k].toNat
   ·have Hc:=hide (texts_eq a b k h1 h2 hc)
    have hd:(((a[k].toNat:Int)) != (b[k].toNat:Int))=false:=by simp [hc]
    clear hc
    go_wp2
    go_quiet (fail)
    go_wp2
    go_roundw
    case rel=>exact ⟨k + 1,by omega,by omega,by go_num,below_drewN hbel _,by rw [uh Heq,uh Hc]⟩
    case measure=>simp [intOf];omega
   ·have Hc:=hide (texts_ne a b k h1 h2 hc)
    have hd:(((a[k].toNat:Int)) != (b[k].toNat:Int))=true:=by simp [hc]
    clear hc
    go_wp2
    go_quiet (fail)
    go_wp2
    go_region_held3 (fun _=>True) (go_keep) ((go_at_call 87;refine (ints_any _ _ _).mono ?_;rintro e w' ⟨rfl,rfl⟩))
    all_goals
     go_wp2
     go_ret
     refine ⟨ret_int ?_,(below_drewN hbel _).drew⟩
     rw [uh Heq,uh Hc,wrap_byte,wrap_byte]
  ·have Hend:=hide (texts_end a b k hka hkb hlt)
   by_cases h1:k < a.size
   ·have h2:¬ k < b.size:=fun h=>hlt ⟨h1,h⟩
    clear hlt
    go_wp2_with (go_at_call 87;refine (ints_any _ _ _).mono ?_;rintro e w' ⟨rfl,rfl⟩)
    go_ret
    exact ⟨ret_int (by rw [uh Heq,uh Hend]),hbel⟩
   ·clear hlt
    go_wp2_with (go_at_call 87;refine (ints_any _ _ _).mono ?_;rintro e w' ⟨rfl,rfl⟩)
    go_ret
    exact ⟨ret_int (by rw [uh Heq,uh Hend]),hbel⟩
end Go.Proofs.YtdgoibnndfibnaaGreatDoor.Sc
