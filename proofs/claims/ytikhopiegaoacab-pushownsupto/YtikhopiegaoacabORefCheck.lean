/- The reference's Check of any tree. -/
import Derived.Test.YtikhopiegaoacabORefPred
import Derived.Test.YtikhopiegaoacabOPushAll
namespace Go.Proofs.Ytikhopiegaoacab
open Go.RowKit Go.Sort

set_option maxHeartbeats 2000000 in
theorem refZero_any (kind:Int) (attr:ByteArray) (qi:Option Addr) (ni ci:Nat) (qw:Option Addr) (nw cw:Nat) (lo hi:Int) (w:World) :
  Calls Try.prog 47 #[.agg #[.int .i64 kind,.string attr,.slice qi ni ci,.slice qw nw cw,.int .i64 lo,.int .i64 hi]] w fun e w'=>e=.returned (.bool (zeroB kind attr ni nw lo hi))∧Below w.heap.size w w':=by
 unfold zeroB
 by_cases h1:kind=0
 ·subst h1
  cases h2:attr.toList.isEmpty with
  | true =>
   have h3:attr.size=0:=(empty_iff attr).1 h2
   obtain rfl:=bytes_of_size h3
   clear h2 h3
   by_cases h1:ni=0 <;> by_cases h2:nw=0 <;> by_cases h3:lo=0 <;> by_cases h4:hi=0
   all_goals
    have i1:=h1;have i2:=h2;have i3:=h3;have i4:=h4
    try subst h1
    try subst h2
    try subst h3
    try subst h4
    go_enter Try.func47,Try.ntmps47
    go_wp2
    go_ret
    exact ⟨ret_bool (by simp [emptyB, *]),(Below.refl _ _).alloc (Nat.le_refl _) _⟩
  | false =>
   have h3:¬ attr.size=0:=fun h=>by rw [(empty_iff attr).2 h] at h2;cases h2
   go_enter Try.func47,Try.ntmps47
   go_wp2
   go_ret
   exact ⟨ret_bool (by simp [h3]),(Below.refl _ _).alloc (Nat.le_refl _) _⟩
 ·have h2:(kind == 0)=false:=by simpa using h1
  go_enter Try.func47,Try.ntmps47
  go_wp2
  go_ret
  exact ⟨ret_bool (by simp [h1]),(Below.refl _ _).alloc (Nat.le_refl _) _⟩
def RchkP (x:Nd):Prop:=∀ (v:Nv) (w:World),NdIn w v x→wtN x≤1000000000→Calls Try.prog 23 #[v.val] w fun e w'=>e=.returned (.bool (chkN x))∧Below w.heap.size w w'
set_option maxRecDepth 100000 in
set_option maxHeartbeats 4000000 in
theorem rchk_one (kind:Int) (attr:ByteArray) (qi:Option Addr) (ci:Nat) (ints:List Int) (qw:Option Addr) (cw:Nat) (words:List ByteArray) (lo hi:Int) (qk:Option Addr) (ck:Nat) (kids:List Nd) (w:World) (h1:SlOf encI 1 w qi ci ints) (h2:SlOf encS 1 w qw cw words) (l1:ints.length≤1000000000) (l2:words.length≤1000000000) :
  Calls Try.prog 23 #[.agg #[.int .i64 kind,.string attr,.slice qi ints.length ci,.slice qw words.length cw,.int .i64 lo,.int .i64 hi,.int .i64 1,.slice qk kids.length ck]] w fun e w'=>e=.returned (.bool (predB kind attr ints words lo hi && decide (kids.length=0)))∧Below w.heap.size w w':=by
 obtain ⟨X,HX⟩:∃ X,w.alloc (.cells #[.int .i64 kind,.string attr,.slice qi ints.length ci,.slice qw words.length cw,.int .i64 lo,.int .i64 hi,.int .i64 1,.slice qk kids.length ck] 28)=X:=⟨_,rfl⟩
 have hX0:X.heap[w.heap.size]? = some (.cells #[.int .i64 kind,.string attr,.slice qi ints.length ci,.slice qw words.length cw,.int .i64 lo,.int .i64 hi,.int .i64 1,.slice qk kids.length ck] 28 (0,0)):=by rw [← HX];exact box_nw _ _
 have hwX:Below w.heap.size w X:=by rw [← HX];exact (Below.refl _ _).alloc (Nat.le_refl _) _
 obtain ⟨x0,x1,x2,x3,x4,x5,x6,x7⟩:=of8' hX0
 have hz0:=heap_lt hX0
 have HX0:=hide hX0
 have HWX:=hide hwX
 have hp:=refPred_any kind attr qi ci ints qw cw words lo hi X (h1.below hwX) (h2.below hwX) (by omega) (by omega)
 clear h1 h2 hwX hX0
 cases hb:predB kind attr ints words lo hi
 ·rw [hb] at hp
  simp only [Bool.false_and]
  clear hb
  go_enter Try.func23,Try.ntmps23
  go_wp2_with (go_at_call 46;refine hp.mono ?_;rintro e w1 ⟨rfl,b1⟩;have B1:=hide b1;clear b1)
  go_ret
  exact ⟨rfl,below_sub (uh HWX) (uh B1)⟩
 ·rw [hb] at hp
  simp only [Bool.true_and]
  clear hb
  by_cases hk:kids.length=0
  ·rw [show decide (kids.length=0)=true by simp [hk]]
   obtain ⟨n,hn⟩:∃ n,kids.length=n:=⟨_,rfl⟩
   rw [hn] at hk
   subst hk
   simp only [hn] at *
   clear hn
   go_enter Try.func23,Try.ntmps23
   go_wp2_with (go_at_call 46;refine hp.mono ?_;rintro e w1 ⟨rfl,b1⟩;obtain ⟨s0,s1,s2,s3,s4,s5,s6,s7⟩:=of8' ((b1.block _ hz0).trans (uh HX0));have B1:=hide b1;clear b1)
   go_ret
   exact ⟨rfl,below_sub (uh HWX) (uh B1)⟩
  ·rw [show decide (kids.length=0)=false by simp [hk]]
   have hk2:¬ (kids.length:Int)=0:=by omega
   have hk3:((kids.length:Int) == 0)=false:=by simpa using hk2
   clear hk
   go_enter Try.func23,Try.ntmps23
   go_wp2_with (go_at_call 46;refine hp.mono ?_;rintro e w1 ⟨rfl,b1⟩;obtain ⟨s0,s1,s2,s3,s4,s5,s6,s7⟩:=of8' ((b1.block _ hz0).trans (uh HX0));have B1:=hide b1;clear b1)
   go_ret
   exact ⟨ret_bool (by simp),below_sub (uh HWX) (uh B1)⟩
set_option maxRecDepth 100000 in
set_option maxHeartbeats 4000000 in
theorem rchk_bad (kind:Int) (attr:ByteArray) (qi:Option Addr) (ci:Nat) (ints:List Int) (qw:Option Addr) (cw:Nat) (words:List ByteArray) (lo hi op:Int) (qk:Option Addr) (ck:Nat) (kids:List Nd) (w:World) (no1:¬ op=1) (hz:zeroB kind attr ints.length words.length lo hi=false) :
  Calls Try.prog 23 #[.agg #[.int .i64 kind,.string attr,.slice qi ints.length ci,.slice qw words.length cw,.int .i64 lo,.int .i64 hi,.int .i64 op,.slice qk kids.length ck]] w fun e w'=>e=.returned (.bool false)∧Below w.heap.size w w':=by
 obtain ⟨X,HX⟩:∃ X,w.alloc (.cells #[.int .i64 kind,.string attr,.slice qi ints.length ci,.slice qw words.length cw,.int .i64 lo,.int .i64 hi,.int .i64 op,.slice qk kids.length ck] 28)=X:=⟨_,rfl⟩
 have hX0:X.heap[w.heap.size]? = some (.cells #[.int .i64 kind,.string attr,.slice qi ints.length ci,.slice qw words.length cw,.int .i64 lo,.int .i64 hi,.int .i64 op,.slice qk kids.length ck] 28 (0,0)):=by rw [← HX];exact box_nw _ _
 have hwX:Below w.heap.size w X:=by rw [← HX];exact (Below.refl _ _).alloc (Nat.le_refl _) _
 obtain ⟨x0,x1,x2,x3,x4,x5,x6,x7⟩:=of8' hX0
 have hz0:=heap_lt hX0
 have HX0:=hide hX0
 have HWX:=hide hwX
 have hp:=refZero_any kind attr qi ints.length ci qw words.length cw lo hi X
 rw [hz] at hp
 have e1:(op == 1)=false:=by simp [no1]
 clear hwX hX0 hz
 go_enter Try.func23,Try.ntmps23
 go_wp2_with (go_at_call 47;refine hp.mono ?_;rintro e w1 ⟨rfl,b1⟩;have B1:=hide b1;clear b1)
 go_ret
 exact ⟨rfl,below_sub (uh HWX) (uh B1)⟩
set_option maxRecDepth 100000 in
set_option maxHeartbeats 4000000 in
theorem rchk_not (kind:Int) (attr:ByteArray) (qi:Option Addr) (ci:Nat) (ints:List Int) (qw:Option Addr) (cw:Nat) (words:List ByteArray) (lo hi:Int) (qk:Option Addr) (ck:Nat) (kids:List Nd) (w:World) (hz:zeroB kind attr ints.length words.length lo hi=true) (hk:NdsOf w qk ck kids) (ih:∀ x ∈ kids,RchkP x) (l3:wtL kids≤1000000000) :
  Calls Try.prog 23 #[.agg #[.int .i64 kind,.string attr,.slice qi ints.length ci,.slice qw words.length cw,.int .i64 lo,.int .i64 hi,.int .i64 2,.slice qk kids.length ck]] w fun e w'=>e=.returned (.bool (decide (kids.length=1) && chkL kids))∧Below w.heap.size w w':=by
 have hlen:=Nat.le_trans (Nat.le_trans (len_size kids) (sizeL_wt kids)) l3
 obtain ⟨X,HX⟩:∃ X,w.alloc (.cells #[.int .i64 kind,.string attr,.slice qi ints.length ci,.slice qw words.length cw,.int .i64 lo,.int .i64 hi,.int .i64 2,.slice qk kids.length ck] 28)=X:=⟨_,rfl⟩
 have hX0:X.heap[w.heap.size]? = some (.cells #[.int .i64 kind,.string attr,.slice qi ints.length ci,.slice qw words.length cw,.int .i64 lo,.int .i64 hi,.int .i64 2,.slice qk kids.length ck] 28 (0,0)):=by rw [← HX];exact box_nw _ _
 have hwX:Below w.heap.size w X:=by rw [← HX];exact (Below.refl _ _).alloc (Nat.le_refl _) _
 obtain ⟨x0,x1,x2,x3,x4,x5,x6,x7⟩:=of8' hX0
 have hz0:=heap_lt hX0
 have HX0:=hide hX0
 have HWX:=hide hwX
 have hp:=refZero_any kind attr qi ints.length ci qw words.length cw lo hi X
 rw [hz] at hp
 by_cases hk1:kids.length=1
 ·obtain ⟨x,rfl⟩:=List.length_eq_one_iff.1 hk1
  obtain ⟨b,off,v,hq,hb,hin,g0,g1,g2,g3,g4,g5,g6,g7⟩:=(hk.below hwX).at (j:=0) (x:=x) rfl
  subst hq
  simp only [Nat.zero_mul,Nat.add_zero] at g0 g1 g2 g3 g4 g5 g6 g7
  have hxw:wtN x≤1000000000:=by simp only [wtL] at l3;omega
  have hC:=fun (W:World) (hW:Below X.heap.size X W)=>ih x (by simp) v W (hin.keep hW) hxw
  simp only [Nv.val] at hC
  simp only [List.length_cons,List.length_nil,Nat.zero_add,decide_true,Bool.true_and,chkL,Bool.and_true] at *
  clear hk ih hin hwX hX0 hz hk1 l3 hlen
  go_enter Try.func23,Try.ntmps23
  go_wp2_with (first
   | (go_at_call 47;refine hp.mono ?_;rintro e w1 ⟨rfl,b1⟩;obtain ⟨s0,s1,s2,s3,s4,s5,s6,s7⟩:=of8' ((b1.block _ hz0).trans (uh HX0));have t0:=(b1.cell (p:=⟨b,off,none⟩) hb).trans g0;have t1:=(b1.cell (p:=⟨b,off + 1,none⟩) hb).trans g1;have t2:=(b1.cell (p:=⟨b,off + 2,none⟩) hb).trans g2;have t3:=(b1.cell (p:=⟨b,off + 3,none⟩) hb).trans g3;have t4:=(b1.cell (p:=⟨b,off + 4,none⟩) hb).trans g4;have t5:=(b1.cell (p:=⟨b,off + 5,none⟩) hb).trans g5;have t6:=(b1.cell (p:=⟨b,off + 6,none⟩) hb).trans g6;have t7:=(b1.cell (p:=⟨b,off + 7,none⟩) hb).trans g7;have B1:=hide b1;clear b1)
   | (go_at_call 23;refine (hC _ (uh B1)).mono ?_;rintro e w2 ⟨rfl,b2⟩;have B2:=hide (below_sub (uh B1) b2);clear b2))
  go_ret
  exact ⟨rfl,below_sub (uh HWX) (uh B2)⟩
 ·rw [show decide (kids.length=1)=false by simp [hk1]]
  have k1:¬ (kids.length:Int)=1:=by omega
  have k2:((kids.length:Int) == 1)=false:=by simpa using k1
  simp only [Bool.false_and]
  clear hk ih hwX hX0 hz hk1
  go_enter Try.func23,Try.ntmps23
  go_wp2_with (go_at_call 47;refine hp.mono ?_;rintro e w1 ⟨rfl,b1⟩;obtain ⟨s0,s1,s2,s3,s4,s5,s6,s7⟩:=of8' ((b1.block _ hz0).trans (uh HX0));have B1:=hide b1;clear b1)
  go_ret
  exact ⟨ret_bool (by simp),below_sub (uh HWX) (uh B1)⟩
set_option maxRecDepth 100000 in
set_option maxHeartbeats 4000000 in
theorem rchk_other (kind:Int) (attr:ByteArray) (qi:Option Addr) (ci:Nat) (ints:List Int) (qw:Option Addr) (cw:Nat) (words:List ByteArray) (lo hi op:Int) (qk:Option Addr) (ck:Nat) (kids:List Nd) (w:World) (hz:zeroB kind attr ints.length words.length lo hi=true) (n1:¬ op=1) (n2:¬ op=2) (hno:(¬ op=3∧¬ op=4) ∨ kids.length < 2) :
  Calls Try.prog 23 #[.agg #[.int .i64 kind,.string attr,.slice qi ints.length ci,.slice qw words.length cw,.int .i64 lo,.int .i64 hi,.int .i64 op,.slice qk kids.length ck]] w fun e w'=>e=.returned (.bool false)∧Below w.heap.size w w':=by
 obtain ⟨X,HX⟩:∃ X,w.alloc (.cells #[.int .i64 kind,.string attr,.slice qi ints.length ci,.slice qw words.length cw,.int .i64 lo,.int .i64 hi,.int .i64 op,.slice qk kids.length ck] 28)=X:=⟨_,rfl⟩
 have hX0:X.heap[w.heap.size]? = some (.cells #[.int .i64 kind,.string attr,.slice qi ints.length ci,.slice qw words.length cw,.int .i64 lo,.int .i64 hi,.int .i64 op,.slice qk kids.length ck] 28 (0,0)):=by rw [← HX];exact box_nw _ _
 have hwX:Below w.heap.size w X:=by rw [← HX];exact (Below.refl _ _).alloc (Nat.le_refl _) _
 obtain ⟨x0,x1,x2,x3,x4,x5,x6,x7⟩:=of8' hX0
 have hz0:=heap_lt hX0
 have HX0:=hide hX0
 have HWX:=hide hwX
 have hp:=refZero_any kind attr qi ints.length ci qw words.length cw lo hi X
 rw [hz] at hp
 have e1:(op == 1)=false:=by simp [n1]
 have e2:(op == 2)=false:=by simp [n2]
 clear hwX hX0 hz
 by_cases h34:¬ op=3∧¬ op=4
 ·have e3:(op != 3)=true:=by simp [h34.1]
  have e4:(op != 4)=true:=by simp [h34.2]
  clear hno
  obtain ⟨q3,q4⟩:=h34
  go_enter Try.func23,Try.ntmps23
  go_wp2_with (go_at_call 47;refine hp.mono ?_;rintro e w1 ⟨rfl,b1⟩;obtain ⟨s0,s1,s2,s3,s4,s5,s6,s7⟩:=of8' ((b1.block _ hz0).trans (uh HX0));have B1:=hide b1;clear b1)
  go_ret
  exact ⟨rfl,below_sub (uh HWX) (uh B1)⟩
 ·have hl:kids.length < 2:=hno.elim (fun h=>absurd h h34) id
  have hl2:(kids.length:Int) < 2:=by omega
  clear hno
  have ho:op=3 ∨ op=4:=by omega
  clear h34 hl
  rcases ho with rfl | rfl
  all_goals
   go_enter Try.func23,Try.ntmps23
   go_wp2_with (go_at_call 47;refine hp.mono ?_;rintro e w1 ⟨rfl,b1⟩;obtain ⟨s0,s1,s2,s3,s4,s5,s6,s7⟩:=of8' ((b1.block _ hz0).trans (uh HX0));have B1:=hide b1;clear b1)
   go_ret
   exact ⟨rfl,below_sub (uh HWX) (uh B1)⟩
set_option maxRecDepth 100000 in
set_option maxHeartbeats 8000000 in
theorem rchk_loop (kind:Int) (attr:ByteArray) (qi:Option Addr) (ci:Nat) (ints:List Int) (qw:Option Addr) (cw:Nat) (words:List ByteArray) (lo hi op:Int) (qk:Option Addr) (ck:Nat) (kids:List Nd) (w:World) (hz:zeroB kind attr ints.length words.length lo hi=true) (ho:op=3 ∨ op=4) (hl:2≤kids.length) (hk:NdsOf w qk ck kids) (ih:∀ x ∈ kids,RchkP x) (l3:wtL kids≤1000000000) :
  Calls Try.prog 23 #[.agg #[.int .i64 kind,.string attr,.slice qi ints.length ci,.slice qw words.length cw,.int .i64 lo,.int .i64 hi,.int .i64 op,.slice qk kids.length ck]] w fun e w'=>e=.returned (.bool (chkL kids))∧Below w.heap.size w w':=by
 have hlen:=Nat.le_trans (Nat.le_trans (len_size kids) (sizeL_wt kids)) l3
 have a0:(kids.length:Int)≤1000000000:=by omega
 obtain ⟨X,HX⟩:∃ X,w.alloc (.cells #[.int .i64 kind,.string attr,.slice qi ints.length ci,.slice qw words.length cw,.int .i64 lo,.int .i64 hi,.int .i64 op,.slice qk kids.length ck] 28)=X:=⟨_,rfl⟩
 have hX0:X.heap[w.heap.size]? = some (.cells #[.int .i64 kind,.string attr,.slice qi ints.length ci,.slice qw words.length cw,.int .i64 lo,.int .i64 hi,.int .i64 op,.slice qk kids.length ck] 28 (0,0)):=by rw [← HX];exact box_nw _ _
 have hwX:Below w.heap.size w X:=by rw [← HX];exact (Below.refl _ _).alloc (Nat.le_refl _) _
 obtain ⟨x0,x1,x2,x3,x4,x5,x6,x7⟩:=of8' hX0
 have hz0:=heap_lt hX0
 have HX0:=hide hX0
 have HWX:=hide hwX
 have hp:=refZero_any kind attr qi ints.length ci qw words.length cw lo hi X
 rw [hz] at hp
 have HK:=hide (hk.below hwX)
 have IH:=hide ih
 have hl2:¬ (kids.length:Int) < 2:=by omega
 clear hwX hX0 hz hk ih hl
 rcases ho with rfl | rfl
 all_goals
  go_enter Try.func23,Try.ntmps23
  go_wp2_with (go_at_call 47;refine hp.mono ?_;rintro e w1 ⟨rfl,b1⟩;obtain ⟨s0,s1,s2,s3,s4,s5,s6,s7⟩:=of8' ((b1.block _ hz0).trans (uh HX0));have B1:=hide b1;clear b1)
  go_loopw [3] (fun i wr=>∃ k:Nat,k≤kids.length∧i=.int .i64 k∧chkL (kids.take k)=true∧Below X.heap.size X wr) (fun i _=>kids.length - (intOf i).toNat)
  case atStart=>exact ⟨0,by omega,rfl,rfl,uh B1⟩
  case round =>
   obtain ⟨k,hkk,rfl,hall,hbel⟩:=hrel
   have HB:=hide hbel
   obtain ⟨t0,t1,t2,t3,t4,t5,t6,t7⟩:=of8' ((hbel.block _ hz0).trans (uh HX0))
   by_cases hlt:k < kids.length
   ·obtain ⟨x,hx,hxd⟩:=get_at hlt
    clear hxd
    obtain ⟨b,off,v,hq,hin,g0,g1,g2,g3,g4,g5,g6,g7⟩:=(uh HK).on hx hbel
    subst hq
    have hxm:x ∈ kids:=List.mem_of_getElem? hx
    have hxw:=wtL_mem hxm
    have ki0:(0:Int)≤(k:Int):=by omega
    have ki1:(k:Int) < (kids.length:Int):=by omega
    have hW:=uh IH x hxm v wr hin (by omega)
    simp only [Nv.val] at hW
    have HSN:=hide (chkL_snoc hx)
    have HM:=hide hxm
    have HA:=hide hall
    clear hin hx hxm hbel hall
    cases hat:chkN x
    ·rw [hat] at hW
     go_wp2_with (go_at_call 23;refine hW.mono ?_;rintro e w2 ⟨rfl,b2⟩;have B2:=hide b2;clear b2)
     go_ret
     exact ⟨by rw [chkL_no (uh HM) hat];rfl,below_sub (uh HWX) (below_sub (uh HB) (uh B2))⟩
    ·rw [hat] at hW HSN
     go_wp2_with (go_at_call 23;refine hW.mono ?_;rintro e w2 ⟨rfl,b2⟩;have B2:=hide b2;clear b2)
     go_roundw
     case rel=>exact ⟨k + 1,by omega,by go_num,by rw [uh HSN,uh HA];rfl,below_sub (uh HB) (uh B2)⟩
     case measure=>simp [intOf];omega
   ·have hkl:k=kids.length:=by omega
    subst hkl
    have ki1:¬ (kids.length:Int) < (kids.length:Int):=by omega
    rw [List.take_of_length_le (Nat.le_refl _)] at hall
    have HA:=hide hall
    clear hall hbel
    go_wp2
    go_ret
    exact ⟨by rw [uh HA];rfl,below_sub (uh HWX) (uh HB)⟩
theorem rchk_any:∀ x,RchkP x:=by
 intro t
 induction t using Nd.ind with
 | h kind attr ints words lo hi op kids ih =>
  intro v w hin hwt
  obtain ⟨qi,ci,qw,cw,qk,ck,rfl,h1,h2,hk⟩:=hin.parts
  simp only [wtN] at hwt
  have hwl:=words_len words
  simp only [Nv.val,chkN]
  unfold nodeB
  by_cases n1:op=1
  ·subst n1
   have:=rchk_one kind attr qi ci ints qw cw words lo hi qk ck kids w h1 h2 (by omega) (by omega)
   simp only [if_true]
   by_cases hk0:kids.length=0
   ·obtain rfl:=List.length_eq_zero_iff.1 hk0
    simpa [chkL] using this
   ·simpa [hk0] using this
  ·simp only [if_neg n1]
   cases hz:zeroB kind attr ints.length words.length lo hi
   ·have:=rchk_bad kind attr qi ci ints qw cw words lo hi op qk ck kids w n1 hz
    simpa using this
   ·by_cases n2:op=2
    ·subst n2
     have:=rchk_not kind attr qi ci ints qw cw words lo hi qk ck kids w hz hk ih (by omega)
     simpa using this
    ·simp only [if_neg n2]
     by_cases h34:op=3 ∨ op=4
     ·simp only [if_pos h34]
      by_cases hl:2≤kids.length
      ·have:=rchk_loop kind attr qi ci ints qw cw words lo hi op qk ck kids w hz h34 hl hk ih (by omega)
       simpa [hl] using this
      ·have:=rchk_other kind attr qi ci ints qw cw words lo hi op qk ck kids w hz n1 n2 (Or.inr (by omega))
       simpa [hl] using this
     ·have:=rchk_other kind attr qi ci ints qw cw words lo hi op qk ck kids w hz n1 n2 (Or.inl (by omega))
      simpa [h34] using this
end Go.Proofs.Ytikhopiegaoacab
