/- What the document's Pred answers: the same. -/
import Derived.Test.YtikhopiegaoacabOPred
import Derived.Test.YtikhopiegaoacabOKept
namespace Go.Proofs.Ytikhopiegaoacab
open Go.RowKit

set_option maxHeartbeats 1000000 in
theorem refNum_any (n:Int) (w:World):Calls Try.prog 65 #[.int .i64 n] w fun e w'=>e=.returned (.bool (numOk n))∧w'=w:=by
 by_cases h1:-2147483648≤n <;> by_cases h2:n≤2147483647
 all_goals
  go_enter Try.func65,Try.ntmps65
  go_wp2
  go_ret
  exact ⟨ret_bool (by simp [numOk,h1,h2]),rfl⟩
/-- What is asked of the lists' lengths and of the bounds. -/
def tailB (kind:Int) (ni nw:Nat) (lo hi:Int):Bool :=
 if kind=1 then decide (1≤ni) && (decide (ni≤64) && (decide (nw=0) && (decide (lo=0) && decide (hi=0))))
 else if kind=2 then decide (1≤nw) && (decide (nw≤64) && (decide (ni=0) && (decide (lo=0) && decide (hi=0))))
 else if kind=3 then decide (ni=0) && (decide (nw=0) && (numOk lo && numOk hi))
 else if kind=4 then decide (nw=1) && (decide (ni=0) && (decide (lo=0) && decide (hi=0)))
 else false
theorem all_len0 {α:Type} {ok:α→Bool} {l:List α} (h:l.length=0):l.all ok=true:=by
 rw [List.length_eq_zero_iff.1 h];rfl
/-- The two ways of asking are one. -/
theorem ref_eq (kind:Int) (attr:ByteArray) (ints:List Int) (words:List ByteArray) (lo hi:Int) :
  predB kind attr ints words lo hi=(nameOk attr && (ints.all numOk && (words.all wordOk && tailB kind ints.length words.length lo hi))):=by
 unfold predB tailB memB emptyB
 cases nameOk attr
 ·rfl
 ·simp only [Bool.true_and]
  by_cases k1:kind=1
  ·simp only [if_pos k1]
   by_cases h0:words.length=0
   ·rw [all_len0 (ok:=wordOk) h0,(decide_eq_decide.2 (by omega):decide ((ints.length:Int)≤64)=decide (ints.length≤64))]
    cases ints.all numOk <;> simp [h0,Bool.and_assoc]
   ·cases ints.all numOk <;> cases words.all wordOk <;> simp [h0]
  ·simp only [if_neg k1]
   by_cases k2:kind=2
   ·simp only [if_pos k2]
    by_cases h0:ints.length=0
    ·rw [all_len0 (ok:=numOk) h0,(decide_eq_decide.2 (by omega):decide ((words.length:Int)≤64)=decide (words.length≤64))]
     cases words.all wordOk <;> simp [h0,Bool.and_assoc]
    ·cases ints.all numOk <;> cases words.all wordOk <;> simp [h0]
   ·simp only [if_neg k2]
    by_cases k3:kind=3
    ·simp only [if_pos k3]
     by_cases h0:ints.length=0
     ·by_cases h1:words.length=0
      ·rw [all_len0 (ok:=numOk) h0,all_len0 (ok:=wordOk) h1];simp [h0,h1]
      ·cases ints.all numOk <;> cases words.all wordOk <;> simp [h0,h1]
     ·cases ints.all numOk <;> cases words.all wordOk <;> simp [h0]
    ·simp only [if_neg k3]
     by_cases k4:kind=4
     ·simp only [if_pos k4]
      by_cases h0:ints.length=0
      ·rw [all_len0 (ok:=numOk) h0]
       by_cases h1:words.length=1
       ·cases words.all wordOk <;> simp [h0,h1]
       ·have h2:¬ (1≤words.length∧(words.length:Int)≤1):=by omega
        cases words.all wordOk
        ·simp
        ·simp only [Bool.true_and,h1,decide_false,Bool.false_and]
         cases h3:decide (1≤words.length) && decide ((words.length:Int)≤1)
         ·rfl
         ·simp only [Bool.and_eq_true,decide_eq_true_eq] at h3;exact absurd h3 h2
      ·cases ints.all numOk <;> cases words.all wordOk <;> simp [h0]
     ·simp [if_neg k4]
theorem allR_no {α:Type} {ok:α→Bool} {l:List α} {k:Nat} {x:α} (hx:l[k]? = some x) (h:ok x=false):l.all ok=false:=by
 rw [List.all_eq_false];exact ⟨x,List.mem_of_getElem? hx,by simp [h]⟩
theorem allR_yes {α:Type} {ok:α→Bool} {l:List α} (h:∀ (j:Nat) (x:α),j < l.length→l[j]? = some x→ok x=true):l.all ok=true:=by
 rw [List.all_eq_true];intro x hx
 obtain ⟨j,hj⟩:=List.getElem?_of_mem hx
 exact h j x (List.getElem?_eq_some_iff.1 hj).1 hj
set_option maxHeartbeats 1000000 in
theorem refPred_noname (kind:Int) (attr:ByteArray) (qi:Option Addr) (ni ci:Nat) (qw:Option Addr) (nw cw:Nat) (lo hi:Int) (w:World) (hn:nameOk attr=false) :
  Calls Try.prog 46 #[.agg #[.int .i64 kind,.string attr,.slice qi ni ci,.slice qw nw cw,.int .i64 lo,.int .i64 hi]] w fun e w'=>e=.returned (.bool false)∧Below w.heap.size w w':=by
 have hnm:=fun w=>refName_any attr w
 rw [hn] at hnm
 clear hn
 go_enter Try.func46,Try.ntmps46
 go_wp2_with (go_at_call 64;refine (hnm _).mono ?_;rintro e w' ⟨rfl,hw⟩;obtain rfl:=hw.symm;clear hw)
 go_ret
 exact ⟨rfl,(Below.refl _ _).alloc (Nat.le_refl _) _⟩
set_option maxRecDepth 100000 in
set_option maxHeartbeats 8000000 in
theorem refPred_name (kind:Int) (attr:ByteArray) (qi:Option Addr) (ci:Nat) (ints:List Int) (qw:Option Addr) (cw:Nat) (words:List ByteArray) (lo hi:Int) (w:World) (h1:SlOf encI 1 w qi ci ints) (h2:SlOf encS 1 w qw cw words) (l1:ints.length≤100000000000000) (l2:words.length≤100000000000000) (hn:nameOk attr=true) :
  Calls Try.prog 46 #[.agg #[.int .i64 kind,.string attr,.slice qi ints.length ci,.slice qw words.length cw,.int .i64 lo,.int .i64 hi]] w fun e w'=>e=.returned (.bool (ints.all numOk && (words.all wordOk && tailB kind ints.length words.length lo hi)))∧Below w.heap.size w w':=by
 have hnm:=fun w=>refName_any attr w
 rw [hn] at hnm
 obtain ⟨X,HX⟩:∃ X,w.alloc (.cells #[.int .i64 kind,.string attr,.slice qi ints.length ci,.slice qw words.length cw,.int .i64 lo,.int .i64 hi] 25)=X:=⟨_,rfl⟩
 have hX0:X.heap[w.heap.size]? = some (.cells #[.int .i64 kind,.string attr,.slice qi ints.length ci,.slice qw words.length cw,.int .i64 lo,.int .i64 hi] 25 (0,0)):=by rw [← HX];exact box_nw _ _
 have hwX:Below w.heap.size w X:=by rw [← HX];exact (Below.refl _ _).alloc (Nat.le_refl _) _
 obtain ⟨x0,x1,x2,x3,x4,x5⟩:=of6' hX0
 have HWX:=hide hwX
 have H1:=hide (h1.below hwX)
 have H2:=hide (h2.below hwX)
 have a1:(ints.length:Int)≤100000000000000:=by omega
 have a2:(words.length:Int)≤100000000000000:=by omega
 obtain ⟨R,HR⟩:∃ R,(ints.all numOk && (words.all wordOk && tailB kind ints.length words.length lo hi))=R:=⟨_,rfl⟩
 rw [HR]
 have HRR:=hide HR
 clear h1 h2 hn hwX hX0 HR
 go_enter Try.func46,Try.ntmps46
 go_wp2_with (go_at_call 64;refine (hnm _).mono ?_;rintro e w' ⟨rfl,hw⟩;obtain rfl:=hw.symm;clear hw)
 clear hnm
 go_loopw [3] (fun i wr=>∃ k:Nat,k≤ints.length∧i=.int .i64 k∧(∀ (j:Nat) (x:Int),j < k→ints[j]? = some x→numOk x=true)∧Hid (wr=X)) (fun i _=>ints.length - (intOf i).toNat)
 case atStart=>exact ⟨0,by omega,rfl,fun j x h=>absurd h (by omega),hide rfl⟩
 case round =>
  obtain ⟨k,hk,rfl,hall,hwr⟩:=hrel
  obtain rfl:=(uh hwr).symm
  clear hwr
  by_cases hlt:k < ints.length
  ·obtain ⟨x,hx,_⟩:=get_at hlt
   obtain ⟨b,off,hq,_,g⟩:=intsAt (uh H1) hx
   subst hq
   have ki0:(0:Int)≤(k:Int):=by omega
   have ki1:(k:Int) < (ints.length:Int):=by omega
   have hnu:=fun w=>refNum_any x w
   cases hok:numOk x with
   | true =>
    rw [hok] at hnu
    have HN:=hide (show ∀ (j:Nat) (y:Int),j < k + 1→ints[j]? = some y→numOk y=true from fun j y hj hy=>by
     by_cases e:j=k
     ·subst e;rw [hx] at hy;cases hy;exact hok
     ·exact hall j y (by omega) hy)
    clear hall hx hok
    go_wp2_with (go_at_call 65;refine (hnu _).mono ?_;rintro e w' ⟨rfl,hw⟩;obtain rfl:=hw.symm;clear hw)
    go_roundw
    case rel=>exact ⟨k + 1,by omega,by go_num,uh HN,hide trivial⟩
    case measure=>simp [intOf];omega
   | false =>
    rw [hok] at hnu
    have HN:=hide (allR_no hx hok)
    clear hall hx hok
    go_wp2_with (go_at_call 65;refine (hnu _).mono ?_;rintro e w' ⟨rfl,hw⟩;obtain rfl:=hw.symm;clear hw)
    go_ret
    exact ⟨ret_bool (by rw [← uh HRR,uh HN];rfl),uh HWX⟩
  ·have ki1:¬ (k:Int) < (ints.length:Int):=by omega
   have HI:=hide (allR_yes (ok:=numOk) (l:=ints) (fun j x hj hx=>hall j x (by omega) hx))
   clear hall
   go_wp2
   go_loopw [4] (fun i wr=>∃ m:Nat,m≤words.length∧i=.int .i64 m∧(∀ (j:Nat) (x:ByteArray),j < m→words[j]? = some x→wordOk x=true)∧Hid (wr=X)) (fun i _=>words.length - (intOf i).toNat)
   case atStart=>exact ⟨0,by omega,rfl,fun j x h=>absurd h (by omega),hide rfl⟩
   case round =>
    obtain ⟨m,hm,rfl,hall,hwr⟩:=hrel
    obtain rfl:=(uh hwr).symm
    clear hwr
    by_cases hlt2:m < words.length
    ·obtain ⟨x,hx,_⟩:=get_at hlt2
     obtain ⟨b,off,hq,_,g⟩:=wordsAt (uh H2) hx
     subst hq
     have mi0:(0:Int)≤(m:Int):=by omega
     have mi1:(m:Int) < (words.length:Int):=by omega
     by_cases hok:x.size≤64
     ·have HN:=hide (show ∀ (j:Nat) (y:ByteArray),j < m + 1→words[j]? = some y→wordOk y=true from fun j y hj hy=>by
       by_cases e:j=m
       ·subst e;rw [hx] at hy;cases hy;simp [wordOk,hok]
       ·exact hall j y (by omega) hy)
      have e1:¬ (64:Int) < (x.size:Int):=by omega
      clear hall hx
      go_wp2
      go_roundw
      case rel=>exact ⟨m + 1,by omega,by go_num,uh HN,hide trivial⟩
      case measure=>simp [intOf];omega
     ·have HN:=hide (allR_no (ok:=wordOk) hx (by simp [wordOk,hok]))
      have e1:(64:Int) < (x.size:Int):=by omega
      clear hall hx
      go_wp2
      go_ret
      exact ⟨ret_bool (by rw [← uh HRR,uh HN,Bool.false_and,Bool.and_false]),uh HWX⟩
    ·have mi1:¬ (m:Int) < (words.length:Int):=by omega
     have HW2:=hide (allR_yes (ok:=wordOk) (l:=words) (fun j x hj hx=>hall j x (by omega) hx))
     have HT:=hide (show tailB kind ints.length words.length lo hi=R by rw [← uh HRR,uh HI,uh HW2];rfl)
     clear hall
     go_wp2
     go_region_held3 (fun w'=>w'.cell? ⟨w.heap.size,2,none⟩=some (.slice qi ints.length ci)∧w'.cell? ⟨w.heap.size,3,none⟩=some (.slice qw words.length cw)) (go_keep) (fail)
     all_goals
      by_cases k1:kind=1
      ·subst k1
       by_cases p0:1≤ints.length
       ·have d0:decide (1≤ints.length)=true:=by simpa using p0
        have f0:decide ((1:Int)≤(ints.length:Int))=true:=by rw [decide_eq_true_eq];omega
        by_cases p1:ints.length≤64
        ·have d1:decide (ints.length≤64)=true:=by simpa using p1
         have f1:decide ((ints.length:Int)≤64)=true:=by rw [decide_eq_true_eq];omega
         by_cases p2:words.length=0
         ·have d2:((words.length:Int) == 0)=true:=by rw [beq_iff_eq];omega
          by_cases p3:lo=0
          ·have d3:(lo == 0)=true:=by simpa using p3
           by_cases p4:hi=0
           ·have d4:(hi == 0)=true:=by simpa using p4
            go_wp2
            go_ret
            exact ⟨ret_bool (by rw [← uh HT];simp [tailB,p0,p1,p2,p3,p4]),(uh HWX).drew⟩
           ·have d4:(hi == 0)=false:=by simpa using p4
            go_wp2
            go_ret
            exact ⟨ret_bool (by rw [← uh HT];simp [tailB,p0,p1,p2,p3,p4]),(uh HWX).drew⟩
          ·have d3:(lo == 0)=false:=by simpa using p3
           go_wp2
           go_ret
           exact ⟨ret_bool (by rw [← uh HT];simp [tailB,p0,p1,p2,p3]),(uh HWX).drew⟩
         ·have d2:((words.length:Int) == 0)=false:=by rw [beq_eq_false_iff_ne];omega
          go_wp2
          go_ret
          exact ⟨ret_bool (by rw [← uh HT];simp [tailB,p0,p1,p2]),(uh HWX).drew⟩
        ·have d1:decide (ints.length≤64)=false:=by simpa using p1
         have f1:decide ((ints.length:Int)≤64)=false:=by rw [decide_eq_false_iff_not];omega
         go_wp2
         go_ret
         exact ⟨ret_bool (by rw [← uh HT];simp [tailB,p0,p1]),(uh HWX).drew⟩
       ·have d0:decide (1≤ints.length)=false:=by simpa using p0
        have f0:decide ((1:Int)≤(ints.length:Int))=false:=by rw [decide_eq_false_iff_not];omega
        go_wp2
        go_ret
        exact ⟨ret_bool (by rw [← uh HT];simp [tailB,p0]),(uh HWX).drew⟩
      have q1:(kind == 1)=false:=by simpa using k1
      by_cases k2:kind=2
      ·subst k2
       by_cases p0:1≤words.length
       ·have d0:decide (1≤words.length)=true:=by simpa using p0
        have f0:decide ((1:Int)≤(words.length:Int))=true:=by rw [decide_eq_true_eq];omega
        by_cases p1:words.length≤64
        ·have d1:decide (words.length≤64)=true:=by simpa using p1
         have f1:decide ((words.length:Int)≤64)=true:=by rw [decide_eq_true_eq];omega
         by_cases p2:ints.length=0
         ·have d2:((ints.length:Int) == 0)=true:=by rw [beq_iff_eq];omega
          by_cases p3:lo=0
          ·have d3:(lo == 0)=true:=by simpa using p3
           by_cases p4:hi=0
           ·have d4:(hi == 0)=true:=by simpa using p4
            go_wp2
            go_ret
            exact ⟨ret_bool (by rw [← uh HT];simp [tailB,p0,p1,p2,p3,p4]),(uh HWX).drew⟩
           ·have d4:(hi == 0)=false:=by simpa using p4
            go_wp2
            go_ret
            exact ⟨ret_bool (by rw [← uh HT];simp [tailB,p0,p1,p2,p3,p4]),(uh HWX).drew⟩
          ·have d3:(lo == 0)=false:=by simpa using p3
           go_wp2
           go_ret
           exact ⟨ret_bool (by rw [← uh HT];simp [tailB,p0,p1,p2,p3]),(uh HWX).drew⟩
         ·have d2:((ints.length:Int) == 0)=false:=by rw [beq_eq_false_iff_ne];omega
          go_wp2
          go_ret
          exact ⟨ret_bool (by rw [← uh HT];simp [tailB,p0,p1,p2]),(uh HWX).drew⟩
        ·have d1:decide (words.length≤64)=false:=by simpa using p1
         have f1:decide ((words.length:Int)≤64)=false:=by rw [decide_eq_false_iff_not];omega
         go_wp2
         go_ret
         exact ⟨ret_bool (by rw [← uh HT];simp [tailB,p0,p1]),(uh HWX).drew⟩
       ·have d0:decide (1≤words.length)=false:=by simpa using p0
        have f0:decide ((1:Int)≤(words.length:Int))=false:=by rw [decide_eq_false_iff_not];omega
        go_wp2
        go_ret
        exact ⟨ret_bool (by rw [← uh HT];simp [tailB,p0]),(uh HWX).drew⟩
      have q2:(kind == 2)=false:=by simpa using k2
      by_cases k3:kind=3
      ·subst k3
       by_cases p0:ints.length=0
       ·have d0:((ints.length:Int) == 0)=true:=by rw [beq_iff_eq];omega
        by_cases p1:words.length=0
        ·have d1:((words.length:Int) == 0)=true:=by rw [beq_iff_eq];omega
         by_cases p2:numOk lo=true
         ·by_cases p3:numOk hi=true
          ·go_wp2_with (go_at_call 65;refine (refNum_any _ _).mono ?_;rintro e w' ⟨rfl,hw⟩;obtain rfl:=hw.symm;clear hw)
           go_ret
           exact ⟨ret_bool (by rw [← uh HT];simp [tailB,p0,p1,p2,p3]),(uh HWX).drew⟩
          ·have d3:numOk hi=false:=by simpa using p3
           go_wp2_with (go_at_call 65;refine (refNum_any _ _).mono ?_;rintro e w' ⟨rfl,hw⟩;obtain rfl:=hw.symm;clear hw)
           go_ret
           exact ⟨ret_bool (by rw [← uh HT];simp [tailB,p0,p1,p2,p3]),(uh HWX).drew⟩
         ·have d2:numOk lo=false:=by simpa using p2
          go_wp2_with (go_at_call 65;refine (refNum_any _ _).mono ?_;rintro e w' ⟨rfl,hw⟩;obtain rfl:=hw.symm;clear hw)
          go_ret
          exact ⟨ret_bool (by rw [← uh HT];simp [tailB,p0,p1,p2]),(uh HWX).drew⟩
        ·have d1:((words.length:Int) == 0)=false:=by rw [beq_eq_false_iff_ne];omega
         go_wp2
         go_ret
         exact ⟨ret_bool (by rw [← uh HT];simp [tailB,p0,p1]),(uh HWX).drew⟩
       ·have d0:((ints.length:Int) == 0)=false:=by rw [beq_eq_false_iff_ne];omega
        go_wp2
        go_ret
        exact ⟨ret_bool (by rw [← uh HT];simp [tailB,p0]),(uh HWX).drew⟩
      have q3:(kind == 3)=false:=by simpa using k3
      by_cases k4:kind=4
      ·subst k4
       by_cases p0:words.length=1
       ·have d0:((words.length:Int) == 1)=true:=by rw [beq_iff_eq];omega
        by_cases p1:ints.length=0
        ·have d1:((ints.length:Int) == 0)=true:=by rw [beq_iff_eq];omega
         by_cases p2:lo=0
         ·have d2:(lo == 0)=true:=by simpa using p2
          by_cases p3:hi=0
          ·have d3:(hi == 0)=true:=by simpa using p3
           go_wp2
           go_ret
           exact ⟨ret_bool (by rw [← uh HT];simp [tailB,p0,p1,p2,p3]),(uh HWX).drew⟩
          ·have d3:(hi == 0)=false:=by simpa using p3
           go_wp2
           go_ret
           exact ⟨ret_bool (by rw [← uh HT];simp [tailB,p0,p1,p2,p3]),(uh HWX).drew⟩
         ·have d2:(lo == 0)=false:=by simpa using p2
          go_wp2
          go_ret
          exact ⟨ret_bool (by rw [← uh HT];simp [tailB,p0,p1,p2]),(uh HWX).drew⟩
        ·have d1:((ints.length:Int) == 0)=false:=by rw [beq_eq_false_iff_ne];omega
         go_wp2
         go_ret
         exact ⟨ret_bool (by rw [← uh HT];simp [tailB,p0,p1]),(uh HWX).drew⟩
       ·have d0:((words.length:Int) == 1)=false:=by rw [beq_eq_false_iff_ne];omega
        go_wp2
        go_ret
        exact ⟨ret_bool (by rw [← uh HT];simp [tailB,p0]),(uh HWX).drew⟩
      have q4:(kind == 4)=false:=by simpa using k4
      go_wp2
      go_ret
      exact ⟨ret_bool (by rw [← uh HT];simp [tailB,k1,k2,k3,k4]),(uh HWX).drew⟩
theorem refPred_any (kind:Int) (attr:ByteArray) (qi:Option Addr) (ci:Nat) (ints:List Int) (qw:Option Addr) (cw:Nat) (words:List ByteArray) (lo hi:Int) (w:World) (h1:SlOf encI 1 w qi ci ints) (h2:SlOf encS 1 w qw cw words) (l1:ints.length≤100000000000000) (l2:words.length≤100000000000000) :
  Calls Try.prog 46 #[.agg #[.int .i64 kind,.string attr,.slice qi ints.length ci,.slice qw words.length cw,.int .i64 lo,.int .i64 hi]] w fun e w'=>e=.returned (.bool (predB kind attr ints words lo hi))∧Below w.heap.size w w':=by
 rw [ref_eq]
 cases hn:nameOk attr with
 | false=>exact refPred_noname kind attr qi _ ci qw _ cw lo hi w hn
 | true=>rw [Bool.true_and];exact refPred_name kind attr qi ci ints qw cw words lo hi w h1 h2 l1 l2 hn
end Go.Proofs.Ytikhopiegaoacab
