/- What Pred and Check return, for every predicate and every tree. -/
import Derived.Test.YtikhopiegaoacacDForm
namespace Go.Proofs.Ytikhopiegaoacac
open Go.RowKit

/-- Is the predicate in form? -/
def predB (kind:Int) (attr:ByteArray) (ints:List Int) (words:List ByteArray) (lo hi:Int):Bool :=
 nameOk attr && (if kind=1 then memB numOk ints 64 && emptyB 0 words.length lo hi else if kind=2 then memB wordOk words 64 && emptyB ints.length 0 lo hi else if kind=3 then (numOk lo && numOk hi) && emptyB ints.length words.length 0 0 else if kind=4 then memB wordOk words 1 && emptyB ints.length 0 lo hi else false)
theorem bytes_of_size {s:ByteArray} (h:s.size=0):s=⟨#[]⟩:=WideShapes.bytes_inj (List.length_eq_zero_iff.1 (by simpa using h))
def code (b:Bool):Int:=if b then 0 else 1
/-- The box of a predicate, behind calls. -/
theorem box6 {w w1:World} {kind:Int} {attr:ByteArray} {qi:Option Addr} {ni ci:Nat} {qw:Option Addr} {nw cw:Nat} {lo hi:Int} (hb:Below (w.alloc (.cells #[.int .i64 kind,.string attr,.slice qi ni ci,.slice qw nw cw,.int .i64 lo,.int .i64 hi] 25)).heap.size (w.alloc (.cells #[.int .i64 kind,.string attr,.slice qi ni ci,.slice qw nw cw,.int .i64 lo,.int .i64 hi] 25)) w1) :
  w.heap.size < w1.heap.size∧(w1.cell? ⟨w.heap.size,0,none⟩=some (.int .i64 kind)∧w1.cell? ⟨w.heap.size,1,none⟩=some (.string attr)∧w1.cell? ⟨w.heap.size,2,none⟩=some (.slice qi ni ci)∧w1.cell? ⟨w.heap.size,3,none⟩=some (.slice qw nw cw)∧w1.cell? ⟨w.heap.size,4,none⟩=some (.int .i64 lo)∧w1.cell? ⟨w.heap.size,5,none⟩=some (.int .i64 hi))∧(w1.frozen? ⟨w.heap.size,2,none⟩=false∧w1.frozen? ⟨w.heap.size,3,none⟩=false∧w1.frozen? ⟨w.heap.size,4,none⟩=false∧w1.frozen? ⟨w.heap.size,5,none⟩=false):=by
 have hs:=hb.size
 obtain ⟨hc,hf⟩:=bcell hb
 have hlt:w.heap.size < (w.alloc (.cells #[.int .i64 kind,.string attr,.slice qi ni ci,.slice qw nw cw,.int .i64 lo,.int .i64 hi] 25)).heap.size:=by simp
 refine ⟨by simp at hs;omega,⟨?_, ?_, ?_, ?_, ?_, ?_⟩,⟨?_, ?_, ?_, ?_⟩⟩
 iterate 6 (rw [hc _ _ hlt];go_simp)
 iterate 4 (rw [hf _ _ hlt];go_simp)
set_option maxHeartbeats 1000000 in
theorem zero_any (kind:Int) (attr:ByteArray) (qi:Option Addr) (ni ci:Nat) (qw:Option Addr) (nw cw:Nat) (lo hi:Int) (w:World) :
  Calls Try.prog 53 #[.agg #[.int .i64 kind,.string attr,.slice qi ni ci,.slice qw nw cw,.int .i64 lo,.int .i64 hi]] w fun e w'=>e=.returned (.bool (decide (kind=0) && (decide (attr.size=0) && emptyB ni nw lo hi)))∧Below w.heap.size w w':=by
 by_cases h1:kind=0
 ·subst h1
  cases h2:attr.toList.isEmpty with
  | true =>
   have h3:attr.size=0:=(empty_iff attr).1 h2
   obtain rfl:=bytes_of_size h3
   clear h2 h3
   go_enter Try.func53,Try.ntmps53
   go_wp2_with (go_at_call 71;refine (empty_any 0 ⟨#[]⟩ qi ni ci qw nw cw lo hi _).mono ?_;rintro e w1 ⟨rfl,b1⟩)
   go_ret
   exact ⟨ret_bool (by rw [show decide ((⟨#[]⟩:ByteArray).size=0)=true from rfl];simp),below_sub ((Below.refl _ _).alloc (Nat.le_refl _) _) b1⟩
  | false =>
   have h3:¬ attr.size=0:=fun h=>by rw [(empty_iff attr).2 h] at h2;cases h2
   go_enter Try.func53,Try.ntmps53
   go_wp2
   go_ret
   exact ⟨ret_bool (by simp [h3]),(Below.refl _ _).alloc (Nat.le_refl _) _⟩
 ·have h2:(kind == 0)=false:=by simpa using h1
  go_enter Try.func53,Try.ntmps53
  go_wp2
  go_ret
  exact ⟨ret_bool (by simp [h1]),(Below.refl _ _).alloc (Nat.le_refl _) _⟩
set_option maxHeartbeats 2000000 in
theorem pred_k1 (attr:ByteArray) (qi:Option Addr) (ci:Nat) (ints:List Int) (qw:Option Addr) (cw:Nat) (words:List ByteArray) (lo hi:Int) (w:World) (h1:SlOf encI 1 w qi ci ints) (l1:ints.length≤1000000000000000000) (hn:nameOk attr=true) :
  Calls Try.prog 52 #[.agg #[.int .i64 1,.string attr,.slice qi ints.length ci,.slice qw words.length cw,.int .i64 lo,.int .i64 hi]] w fun e w'=>e=.returned (.int .i64 (code (memB numOk ints 64 && emptyB 0 words.length lo hi)))∧Below w.heap.size w w':=by
 have hnm:=fun w=>name_any attr w
 rw [hn] at hnm
 have B0:=hide ((Below.refl w.heap.size w).alloc (Nat.le_refl _) (.cells #[.int .i64 1,.string attr,.slice qi ints.length ci,.slice qw words.length cw,.int .i64 lo,.int .i64 hi] 25))
 have hmm:=membersI qi ci ints 64 _ (h1.below (uh B0)) l1
 have hem:=fun w=>empty_any 1 attr none 0 0 qw words.length cw lo hi w
 clear h1 hn
 cases hg:memB numOk ints 64 with
 | true =>
  cases he:emptyB 0 words.length lo hi
  all_goals
   rw [hg] at hmm
   rw [he] at hem
   clear hg he
   go_enter Try.func52,Try.ntmps52
   go_wp2_with (first
    | (go_at_call 66;refine (hnm _).mono ?_;rintro e w' ⟨rfl,hw⟩;obtain rfl:=hw.symm;clear hw)
    | (go_at_call 67;refine (hmm).mono ?_;rintro e w1 ⟨rfl,b1⟩;obtain ⟨z1,⟨d0,d1,d2,d3,d4,d5⟩,⟨f2,f3,f4,f5⟩⟩:=box6 b1;have B1:=hide b1;clear b1)
    | (go_at_call 71;refine (hem _).mono ?_;rintro e w2 ⟨rfl,b2⟩))
   go_ret
   exact ⟨rfl,below_sub ((below_sub (uh B0) (uh B1)).setCell (Nat.le_refl _) _) b2⟩
 | false =>
  rw [hg] at hmm
  clear hg hem
  go_enter Try.func52,Try.ntmps52
  go_wp2_with (first
   | (go_at_call 66;refine (hnm _).mono ?_;rintro e w' ⟨rfl,hw⟩;obtain rfl:=hw.symm;clear hw)
   | (go_at_call 67;refine (hmm).mono ?_;rintro e w1 ⟨rfl,b1⟩;obtain ⟨z1,⟨d0,d1,d2,d3,d4,d5⟩,⟨f2,f3,f4,f5⟩⟩:=box6 b1;have B1:=hide b1;clear b1))
  go_ret
  exact ⟨rfl,(below_sub (uh B0) (uh B1)).setCell (Nat.le_refl _) _⟩
set_option maxHeartbeats 2000000 in
theorem pred_k2 (attr:ByteArray) (qi:Option Addr) (ci:Nat) (ints:List Int) (qw:Option Addr) (cw:Nat) (words:List ByteArray) (lo hi:Int) (w:World) (h2:SlOf encS 1 w qw cw words) (l2:words.length≤1000000000000000000) (hn:nameOk attr=true) :
  Calls Try.prog 52 #[.agg #[.int .i64 2,.string attr,.slice qi ints.length ci,.slice qw words.length cw,.int .i64 lo,.int .i64 hi]] w fun e w'=>e=.returned (.int .i64 (code (memB wordOk words 64 && emptyB ints.length 0 lo hi)))∧Below w.heap.size w w':=by
 have hnm:=fun w=>name_any attr w
 rw [hn] at hnm
 have B0:=hide ((Below.refl w.heap.size w).alloc (Nat.le_refl _) (.cells #[.int .i64 2,.string attr,.slice qi ints.length ci,.slice qw words.length cw,.int .i64 lo,.int .i64 hi] 25))
 have hmm:=membersW qw cw words 64 _ (h2.below (uh B0)) l2
 have hem:=fun w=>empty_any 2 attr qi ints.length ci none 0 0 lo hi w
 clear h2 hn
 cases hg:memB wordOk words 64 with
 | true =>
  cases he:emptyB ints.length 0 lo hi
  all_goals
   rw [hg] at hmm
   rw [he] at hem
   clear hg he
   go_enter Try.func52,Try.ntmps52
   go_wp2_with (first
    | (go_at_call 66;refine (hnm _).mono ?_;rintro e w' ⟨rfl,hw⟩;obtain rfl:=hw.symm;clear hw)
    | (go_at_call 69;refine (hmm).mono ?_;rintro e w1 ⟨rfl,b1⟩;obtain ⟨z1,⟨d0,d1,d2,d3,d4,d5⟩,⟨f2,f3,f4,f5⟩⟩:=box6 b1;have B1:=hide b1;clear b1)
    | (go_at_call 71;refine (hem _).mono ?_;rintro e w2 ⟨rfl,b2⟩))
   go_ret
   exact ⟨rfl,below_sub ((below_sub (uh B0) (uh B1)).setCell (Nat.le_refl _) _) b2⟩
 | false =>
  rw [hg] at hmm
  clear hg hem
  go_enter Try.func52,Try.ntmps52
  go_wp2_with (first
   | (go_at_call 66;refine (hnm _).mono ?_;rintro e w' ⟨rfl,hw⟩;obtain rfl:=hw.symm;clear hw)
   | (go_at_call 69;refine (hmm).mono ?_;rintro e w1 ⟨rfl,b1⟩;obtain ⟨z1,⟨d0,d1,d2,d3,d4,d5⟩,⟨f2,f3,f4,f5⟩⟩:=box6 b1;have B1:=hide b1;clear b1))
  go_ret
  exact ⟨rfl,(below_sub (uh B0) (uh B1)).setCell (Nat.le_refl _) _⟩
set_option maxHeartbeats 2000000 in
theorem pred_k4 (attr:ByteArray) (qi:Option Addr) (ci:Nat) (ints:List Int) (qw:Option Addr) (cw:Nat) (words:List ByteArray) (lo hi:Int) (w:World) (h2:SlOf encS 1 w qw cw words) (l2:words.length≤1000000000000000000) (hn:nameOk attr=true) :
  Calls Try.prog 52 #[.agg #[.int .i64 4,.string attr,.slice qi ints.length ci,.slice qw words.length cw,.int .i64 lo,.int .i64 hi]] w fun e w'=>e=.returned (.int .i64 (code (memB wordOk words 1 && emptyB ints.length 0 lo hi)))∧Below w.heap.size w w':=by
 have hnm:=fun w=>name_any attr w
 rw [hn] at hnm
 have B0:=hide ((Below.refl w.heap.size w).alloc (Nat.le_refl _) (.cells #[.int .i64 4,.string attr,.slice qi ints.length ci,.slice qw words.length cw,.int .i64 lo,.int .i64 hi] 25))
 have hmm:=membersW qw cw words 1 _ (h2.below (uh B0)) l2
 have hem:=fun w=>empty_any 4 attr qi ints.length ci none 0 0 lo hi w
 clear h2 hn
 cases hg:memB wordOk words 1 with
 | true =>
  cases he:emptyB ints.length 0 lo hi
  all_goals
   rw [hg] at hmm
   rw [he] at hem
   clear hg he
   go_enter Try.func52,Try.ntmps52
   go_wp2_with (first
    | (go_at_call 66;refine (hnm _).mono ?_;rintro e w' ⟨rfl,hw⟩;obtain rfl:=hw.symm;clear hw)
    | (go_at_call 69;refine (hmm).mono ?_;rintro e w1 ⟨rfl,b1⟩;obtain ⟨z1,⟨d0,d1,d2,d3,d4,d5⟩,⟨f2,f3,f4,f5⟩⟩:=box6 b1;have B1:=hide b1;clear b1)
    | (go_at_call 71;refine (hem _).mono ?_;rintro e w2 ⟨rfl,b2⟩))
   go_ret
   exact ⟨rfl,below_sub ((below_sub (uh B0) (uh B1)).setCell (Nat.le_refl _) _) b2⟩
 | false =>
  rw [hg] at hmm
  clear hg hem
  go_enter Try.func52,Try.ntmps52
  go_wp2_with (first
   | (go_at_call 66;refine (hnm _).mono ?_;rintro e w' ⟨rfl,hw⟩;obtain rfl:=hw.symm;clear hw)
   | (go_at_call 69;refine (hmm).mono ?_;rintro e w1 ⟨rfl,b1⟩;obtain ⟨z1,⟨d0,d1,d2,d3,d4,d5⟩,⟨f2,f3,f4,f5⟩⟩:=box6 b1;have B1:=hide b1;clear b1))
  go_ret
  exact ⟨rfl,(below_sub (uh B0) (uh B1)).setCell (Nat.le_refl _) _⟩
set_option maxHeartbeats 2000000 in
theorem pred_k3 (attr:ByteArray) (qi:Option Addr) (ni ci:Nat) (qw:Option Addr) (nw cw:Nat) (lo hi:Int) (w:World) (hn:nameOk attr=true) :
  Calls Try.prog 52 #[.agg #[.int .i64 3,.string attr,.slice qi ni ci,.slice qw nw cw,.int .i64 lo,.int .i64 hi]] w fun e w'=>e=.returned (.int .i64 (code ((numOk lo && numOk hi) && emptyB ni nw 0 0)))∧Below w.heap.size w w':=by
 have hnm:=fun w=>name_any attr w
 rw [hn] at hnm
 have B0:=hide ((Below.refl w.heap.size w).alloc (Nat.le_refl _) (.cells #[.int .i64 3,.string attr,.slice qi ni ci,.slice qw nw cw,.int .i64 lo,.int .i64 hi] 25))
 have hem:=fun w=>empty_any 3 attr qi ni ci qw nw cw 0 0 w
 have hlo:=fun w=>isNumber_any lo w
 have hhi:=fun w=>isNumber_any hi w
 clear hn
 cases h1:numOk lo with
 | true =>
  rw [h1] at hlo
  cases h2:numOk hi with
  | true =>
   rw [h2] at hhi
   cases he:emptyB ni nw 0 0
   all_goals
    rw [he] at hem
    clear h1 h2 he
    go_enter Try.func52,Try.ntmps52
    go_wp2_with (first
     | (go_at_call 66;refine (hnm _).mono ?_;rintro e w' ⟨rfl,hw⟩;obtain rfl:=hw.symm;clear hw)
     | (go_at_call 68;have hB:=uh B1;clear hB;refine (hhi _).mono ?_;rintro e w2 ⟨rfl,b2⟩;obtain ⟨z1,⟨d0,d1,d2,d3,d4,d5⟩,⟨f2,f3,f4,f5⟩⟩:=box6 (below_sub (uh B1) b2);have B2:=hide (below_sub (uh B1) b2);clear b2)
     | (go_at_call 68;refine (hlo _).mono ?_;rintro e w1 ⟨rfl,b1⟩;obtain ⟨z1,⟨d0,d1,d2,d3,d4,d5⟩,⟨f2,f3,f4,f5⟩⟩:=box6 b1;have B1:=hide b1;clear b1)
     | (go_at_call 71;refine (hem _).mono ?_;rintro e w3 ⟨rfl,b3⟩))
    go_ret
    exact ⟨rfl,below_sub (((below_sub (uh B0) (uh B2)).setCell (Nat.le_refl _) _).setCell (Nat.le_refl _) _) b3⟩
  | false =>
   rw [h2] at hhi
   clear h1 h2 hem
   go_enter Try.func52,Try.ntmps52
   go_wp2_with (first
    | (go_at_call 66;refine (hnm _).mono ?_;rintro e w' ⟨rfl,hw⟩;obtain rfl:=hw.symm;clear hw)
    | (go_at_call 68;have hB:=uh B1;clear hB;refine (hhi _).mono ?_;rintro e w2 ⟨rfl,b2⟩;obtain ⟨z1,⟨d0,d1,d2,d3,d4,d5⟩,⟨f2,f3,f4,f5⟩⟩:=box6 (below_sub (uh B1) b2);have B2:=hide (below_sub (uh B1) b2);clear b2)
    | (go_at_call 68;refine (hlo _).mono ?_;rintro e w1 ⟨rfl,b1⟩;obtain ⟨z1,⟨d0,d1,d2,d3,d4,d5⟩,⟨f2,f3,f4,f5⟩⟩:=box6 b1;have B1:=hide b1;clear b1))
   go_ret
   exact ⟨rfl,((below_sub (uh B0) (uh B2)).setCell (Nat.le_refl _) _).setCell (Nat.le_refl _) _⟩
 | false =>
  rw [h1] at hlo
  clear h1 hem hhi
  go_enter Try.func52,Try.ntmps52
  go_wp2_with (first
   | (go_at_call 66;refine (hnm _).mono ?_;rintro e w' ⟨rfl,hw⟩;obtain rfl:=hw.symm;clear hw)
   | (go_at_call 68;refine (hlo _).mono ?_;rintro e w1 ⟨rfl,b1⟩;obtain ⟨z1,⟨d0,d1,d2,d3,d4,d5⟩,⟨f2,f3,f4,f5⟩⟩:=box6 b1;have B1:=hide b1;clear b1))
  go_ret
  exact ⟨rfl,((below_sub (uh B0) (uh B1)).setCell (Nat.le_refl _) _).setCell (Nat.le_refl _) _⟩
set_option maxHeartbeats 2000000 in
theorem pred_kx (kind:Int) (attr:ByteArray) (qi:Option Addr) (ni ci:Nat) (qw:Option Addr) (nw cw:Nat) (lo hi:Int) (w:World) (hn:nameOk attr=true) (k1:¬ kind=1) (k2:¬ kind=2) (k3:¬ kind=3) (k4:¬ kind=4) :
  Calls Try.prog 52 #[.agg #[.int .i64 kind,.string attr,.slice qi ni ci,.slice qw nw cw,.int .i64 lo,.int .i64 hi]] w fun e w'=>e=.returned (.int .i64 (code false))∧Below w.heap.size w w':=by
 have hnm:=fun w=>name_any attr w
 rw [hn] at hnm
 have e1:(kind == 1)=false:=by simpa using k1
 have e2:(kind == 2)=false:=by simpa using k2
 have e3:(kind == 3)=false:=by simpa using k3
 have e4:(kind == 4)=false:=by simpa using k4
 clear hn
 go_enter Try.func52,Try.ntmps52
 go_wp2_with (go_at_call 66;refine (hnm _).mono ?_;rintro e w' ⟨rfl,hw⟩;obtain rfl:=hw.symm;clear hw)
 go_ret
 exact ⟨rfl,(Below.refl _ _).alloc (Nat.le_refl _) _⟩
set_option maxHeartbeats 2000000 in
theorem pred_noname (kind:Int) (attr:ByteArray) (qi:Option Addr) (ni ci:Nat) (qw:Option Addr) (nw cw:Nat) (lo hi:Int) (w:World) (hn:nameOk attr=false) :
  Calls Try.prog 52 #[.agg #[.int .i64 kind,.string attr,.slice qi ni ci,.slice qw nw cw,.int .i64 lo,.int .i64 hi]] w fun e w'=>e=.returned (.int .i64 (code false))∧Below w.heap.size w w':=by
 have hnm:=fun w=>name_any attr w
 rw [hn] at hnm
 clear hn
 go_enter Try.func52,Try.ntmps52
 go_wp2_with (go_at_call 66;refine (hnm _).mono ?_;rintro e w' ⟨rfl,hw⟩;obtain rfl:=hw.symm;clear hw)
 go_ret
 exact ⟨rfl,(Below.refl _ _).alloc (Nat.le_refl _) _⟩
theorem pred_any (kind:Int) (attr:ByteArray) (qi:Option Addr) (ci:Nat) (ints:List Int) (qw:Option Addr) (cw:Nat) (words:List ByteArray) (lo hi:Int) (w:World) (h1:SlOf encI 1 w qi ci ints) (h2:SlOf encS 1 w qw cw words) (l1:ints.length≤1000000000000000000) (l2:words.length≤1000000000000000000) :
  Calls Try.prog 52 #[.agg #[.int .i64 kind,.string attr,.slice qi ints.length ci,.slice qw words.length cw,.int .i64 lo,.int .i64 hi]] w fun e w'=>e=.returned (.int .i64 (code (predB kind attr ints words lo hi)))∧Below w.heap.size w w':=by
 unfold predB
 cases hn:nameOk attr with
 | false=>exact pred_noname kind attr qi _ ci qw _ cw lo hi w hn
 | true =>
  rw [Bool.true_and]
  by_cases k1:kind=1
  ·subst k1;rw [if_pos rfl];exact pred_k1 attr qi ci ints qw cw words lo hi w h1 l1 hn
  by_cases k2:kind=2
  ·subst k2;rw [if_neg k1,if_pos rfl];exact pred_k2 attr qi ci ints qw cw words lo hi w h2 l2 hn
  by_cases k3:kind=3
  ·subst k3;rw [if_neg k1,if_neg k2,if_pos rfl];exact pred_k3 attr qi _ ci qw _ cw lo hi w hn
  by_cases k4:kind=4
  ·subst k4;rw [if_neg k1,if_neg k2,if_neg k3,if_pos rfl];exact pred_k4 attr qi ci ints qw cw words lo hi w h2 l2 hn
  rw [if_neg k1,if_neg k2,if_neg k3,if_neg k4]
  exact pred_kx kind attr qi _ ci qw _ cw lo hi w hn k1 k2 k3 k4
end Go.Proofs.Ytikhopiegaoacac
