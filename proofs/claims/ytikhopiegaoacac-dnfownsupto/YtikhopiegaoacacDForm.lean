/- What the functions that look whether a predicate is in form return, for every input. -/
import Derived.Test.YtikhopiegaoacacDZab
namespace Go.Proofs.Ytikhopiegaoacac
open Go.RowKit

def numOk (n:Int):Bool:=decide (-2147483648≤n) && decide (n≤2147483647)
def wordOk (s:ByteArray):Bool:=decide (s.size≤64)
theorem chk_num (n:Int):chkV 1 n ⟨#[]⟩=if numOk n then 0 else 1:=by
 cases h:numOk n with
 | true =>
  unfold numOk at h
  simp only [Bool.and_eq_true,decide_eq_true_eq] at h
  rw [if_pos rfl];exact chk_yes1 rfl h.1 h.2 ((empty_iff _).2 rfl)
 | false =>
  unfold numOk at h
  rw [if_neg (by simp)]
  refine chk_no1 rfl fun h2=>?_
  simp only [Bool.and_eq_false_iff,decide_eq_false_iff_not] at h
  omega
theorem chk_word (s:ByteArray):chkV 2 0 s=if wordOk s then 0 else 1:=by
 cases h:wordOk s with
 | true =>
  unfold wordOk at h
  simp only [decide_eq_true_eq] at h
  rw [if_pos rfl];exact chk_yes2 rfl rfl (by omega)
 | false =>
  unfold wordOk at h
  rw [if_neg (by simp)]
  refine chk_no2 rfl fun h2=>?_
  simp only [decide_eq_false_iff_not] at h
  omega
set_option maxHeartbeats 400000 in
theorem number_any (n:Int) (w:World):Calls Try.prog 78 #[.int .i64 n] w fun e w'=>e=.returned (.agg #[.int .i64 1,.int .i64 n,.string ⟨#[]⟩])∧Below w.heap.size w w':=by
 go_enter Try.func78,Try.ntmps78
 go_wp2
 refine bodyPost_ret (v:=.agg #[.int .i64 1,.int .i64 n,.string ⟨#[]⟩]) (by simp [results,Try.results78,go_sem]) rfl ⟨rfl, ?_⟩
 exact (Below.refl _ _).alloc (Nat.le_refl _) _
set_option maxHeartbeats 400000 in
theorem word_any (s:ByteArray) (w:World):Calls Try.prog 79 #[.string s] w fun e w'=>e=.returned (.agg #[.int .i64 2,.int .i64 0,.string s])∧Below w.heap.size w w':=by
 go_enter Try.func79,Try.ntmps79
 go_wp2
 refine bodyPost_ret (v:=.agg #[.int .i64 2,.int .i64 0,.string s]) (by simp [results,Try.results79,go_sem]) rfl ⟨rfl, ?_⟩
 exact (Below.refl _ _).alloc (Nat.le_refl _) _
set_option maxHeartbeats 400000 in
theorem isNumber_any (n:Int) (w:World):Calls Try.prog 68 #[.int .i64 n] w fun e w'=>e=.returned (.bool (numOk n))∧Below w.heap.size w w':=by
 have hc:=fun w=>check_any 1 n ⟨#[]⟩ w
 rw [chk_num] at hc
 cases h:numOk n
 all_goals
  simp only [h,if_true,Bool.false_eq_true,if_false] at hc
  clear h
  go_enter Try.func68,Try.ntmps68
  go_wp2_with (first
   | (go_at_call 78;refine (number_any n _).mono ?_;rintro e w1 ⟨rfl,b1⟩)
   | (go_at_call 55;refine (hc _).mono ?_;rintro e w2 ⟨rfl,b2⟩))
  go_ret
  exact ⟨rfl,below_sub b1 b2⟩
set_option maxHeartbeats 400000 in
theorem isWord_any (s:ByteArray) (w:World):Calls Try.prog 70 #[.string s] w fun e w'=>e=.returned (.bool (wordOk s))∧Below w.heap.size w w':=by
 have hc:=fun w=>check_any 2 0 s w
 rw [chk_word] at hc
 cases h:wordOk s
 all_goals
  simp only [h,if_true,Bool.false_eq_true,if_false] at hc
  clear h
  go_enter Try.func70,Try.ntmps70
  go_wp2_with (first
   | (go_at_call 79;refine (word_any s _).mono ?_;rintro e w1 ⟨rfl,b1⟩)
   | (go_at_call 55;refine (hc _).mono ?_;rintro e w2 ⟨rfl,b2⟩))
  go_ret
  exact ⟨rfl,below_sub b1 b2⟩
/-- One member at least, no more than m, and each good. -/
def memB {α:Type} (ok:α→Bool) (l:List α) (m:Int):Bool:=l.all ok && (decide (1≤l.length) && decide ((l.length:Int)≤m))
theorem all_no {α:Type} {ok:α→Bool} {l:List α} {k:Nat} {x:α} (hx:l[k]? = some x) (h:ok x=false) (m:Int):memB ok l m=false:=by
 unfold memB
 have:l.all ok=false:=by
  rw [List.all_eq_false];exact ⟨x,List.mem_of_getElem? hx,by simp [h]⟩
 rw [this];rfl
theorem all_yes {α:Type} {ok:α→Bool} {l:List α} (h:∀ (j:Nat) (x:α),j < l.length→l[j]? = some x→ok x=true) (m:Int):memB ok l m=(decide (1≤l.length) && decide ((l.length:Int)≤m)):=by
 unfold memB
 have:l.all ok=true:=by
  rw [List.all_eq_true];intro x hx
  obtain ⟨j,hj⟩:=List.getElem?_of_mem hx
  exact h j x (List.getElem?_eq_some_iff.1 hj).1 hj
 rw [this];rfl
set_option maxHeartbeats 1000000 in
theorem membersI (q:Option Addr) (c:Nat) (l:List Int) (m:Int) (w:World) (h:SlOf encI 1 w q c l) (hl:l.length≤1000000000000000000) :
  Calls Try.prog 67 #[.slice q l.length c,.int .i64 m,.func (.func 68) #[] #[]] w fun e w'=>e=.returned (.bool (memB numOk l m))∧Below w.heap.size w w':=by
 have HA:=hide h
 have a0:(l.length:Int)≤1000000000000000000:=by omega
 clear h
 go_enter Try.func67,Try.ntmps67
 go_wp2
 go_loopw [11] (fun i wr=>∃ k:Nat,k≤l.length∧i=.int .i64 k∧(∀ (j:Nat) (x:Int),j < k→l[j]? = some x→numOk x=true)∧Below w.heap.size w wr) (fun i _=>l.length - (intOf i).toNat)
 case atStart=>exact ⟨0,by omega,rfl,fun j x h=>absurd h (by omega),Below.refl _ _⟩
 case round =>
  obtain ⟨k,hk,rfl,hall,hbel⟩:=hrel
  have HALL:=hide hall
  have HB:=hide hbel
  by_cases hlt:k < l.length
  ·obtain ⟨x,hx,hxd⟩:=get_at hlt
   obtain ⟨b,off,hq,hb,hc⟩:=intsAt (uh HA) hx
   subst hq
   have g:=(hbel.cell (p:=⟨b,off + k,none⟩) hb).trans hc
   have ki0:(0:Int)≤(k:Int):=by omega
   have ki1:(k:Int) < (l.length:Int):=by omega
   have hn:=fun w=>isNumber_any x w
   cases hok:numOk x with
   | true =>
    rw [hok] at hn
    have HN:=hide (show ∀ (j:Nat) (y:Int),j < k + 1→l[j]? = some y→numOk y=true from fun j y hj hy=>by
     by_cases e:j=k
     ·subst e;rw [hx] at hy;cases hy;exact hok
     ·exact hall j y (by omega) hy)
    clear hall hbel hxd hx hc hok
    go_wp2_with (go_at_call 68;refine (hn _).mono ?_;rintro e w1 ⟨rfl,b1⟩)
    exact ⟨⟨k + 1,by omega,by go_num,uh HN,below_sub (uh HB) b1⟩,by simp [intOf];omega⟩
   | false =>
    rw [hok] at hn
    have HN:=hide (all_no hx hok m)
    clear hall hbel hxd hx hc hok
    go_wp2_with (go_at_call 68;refine (hn _).mono ?_;rintro e w1 ⟨rfl,b1⟩)
    go_ret
    exact ⟨ret_bool (uh HN).symm,below_sub (uh HB) b1⟩
  ·have ki1:¬ (k:Int) < (l.length:Int):=by omega
   have HN:=hide (all_yes (ok:=numOk) (l:=l) (fun j x hj hx=>hall j x (by omega) hx) m)
   clear hall hbel
   by_cases h1:1≤l.length <;> by_cases h2:(l.length:Int)≤m
   all_goals
    have h3:decide ((1:Int)≤(l.length:Int))=decide (1≤l.length):=by simp;omega
    go_wp2
    go_ret
    exact ⟨ret_bool (by rw [uh HN];simp [h1,h2]),uh HB⟩
set_option maxHeartbeats 1000000 in
theorem membersW (q:Option Addr) (c:Nat) (l:List ByteArray) (m:Int) (w:World) (h:SlOf encS 1 w q c l) (hl:l.length≤1000000000000000000) :
  Calls Try.prog 69 #[.slice q l.length c,.int .i64 m,.func (.func 70) #[] #[]] w fun e w'=>e=.returned (.bool (memB wordOk l m))∧Below w.heap.size w w':=by
 have HA:=hide h
 have a0:(l.length:Int)≤1000000000000000000:=by omega
 clear h
 go_enter Try.func69,Try.ntmps69
 go_wp2
 go_loopw [11] (fun i wr=>∃ k:Nat,k≤l.length∧i=.int .i64 k∧(∀ (j:Nat) (x:ByteArray),j < k→l[j]? = some x→wordOk x=true)∧Below w.heap.size w wr) (fun i _=>l.length - (intOf i).toNat)
 case atStart=>exact ⟨0,by omega,rfl,fun j x h=>absurd h (by omega),Below.refl _ _⟩
 case round =>
  obtain ⟨k,hk,rfl,hall,hbel⟩:=hrel
  have HALL:=hide hall
  have HB:=hide hbel
  by_cases hlt:k < l.length
  ·obtain ⟨x,hx,hxd⟩:=get_at hlt
   obtain ⟨b,off,hq,hb,hc⟩:=wordsAt (uh HA) hx
   subst hq
   have g:=(hbel.cell (p:=⟨b,off + k,none⟩) hb).trans hc
   have ki0:(0:Int)≤(k:Int):=by omega
   have ki1:(k:Int) < (l.length:Int):=by omega
   have hn:=fun w=>isWord_any x w
   cases hok:wordOk x with
   | true =>
    rw [hok] at hn
    have HN:=hide (show ∀ (j:Nat) (y:ByteArray),j < k + 1→l[j]? = some y→wordOk y=true from fun j y hj hy=>by
     by_cases e:j=k
     ·subst e;rw [hx] at hy;cases hy;exact hok
     ·exact hall j y (by omega) hy)
    clear hall hbel hxd hx hc hok
    go_wp2_with (go_at_call 70;refine (hn _).mono ?_;rintro e w1 ⟨rfl,b1⟩)
    exact ⟨⟨k + 1,by omega,by go_num,uh HN,below_sub (uh HB) b1⟩,by simp [intOf];omega⟩
   | false =>
    rw [hok] at hn
    have HN:=hide (all_no hx hok m)
    clear hall hbel hxd hx hc hok
    go_wp2_with (go_at_call 70;refine (hn _).mono ?_;rintro e w1 ⟨rfl,b1⟩)
    go_ret
    exact ⟨ret_bool (uh HN).symm,below_sub (uh HB) b1⟩
  ·have ki1:¬ (k:Int) < (l.length:Int):=by omega
   have HN:=hide (all_yes (ok:=wordOk) (l:=l) (fun j x hj hx=>hall j x (by omega) hx) m)
   clear hall hbel
   by_cases h1:1≤l.length <;> by_cases h2:(l.length:Int)≤m
   all_goals
    have h3:decide ((1:Int)≤(l.length:Int))=decide (1≤l.length):=by simp;omega
    go_wp2
    go_ret
    exact ⟨ret_bool (by rw [uh HN];simp [h1,h2]),uh HB⟩
def emptyB (ni nw:Nat) (lo hi:Int):Bool:=decide (ni=0) && (decide (nw=0) && (decide (lo=0) && decide (hi=0)))
set_option maxHeartbeats 1000000 in
theorem empty_any (kind:Int) (attr:ByteArray) (qi:Option Addr) (ni ci:Nat) (qw:Option Addr) (nw cw:Nat) (lo hi:Int) (w:World) :
  Calls Try.prog 71 #[.agg #[.int .i64 kind,.string attr,.slice qi ni ci,.slice qw nw cw,.int .i64 lo,.int .i64 hi]] w fun e w'=>e=.returned (.bool (emptyB ni nw lo hi))∧Below w.heap.size w w':=by
 by_cases h1:ni=0 <;> by_cases h2:nw=0 <;> by_cases h3:lo=0 <;> by_cases h4:hi=0
 all_goals
  have i1:=h1;have i2:=h2;have i3:=h3;have i4:=h4
  try subst h1
  try subst h2
  try subst h3
  try subst h4
  go_enter Try.func71,Try.ntmps71
  go_wp2
  go_ret
  exact ⟨ret_bool (by simp [emptyB, *]),(Below.refl _ _).alloc (Nat.le_refl _) _⟩
end Go.Proofs.Ytikhopiegaoacac
