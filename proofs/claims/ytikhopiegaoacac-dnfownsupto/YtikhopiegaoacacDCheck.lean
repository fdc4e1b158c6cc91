/- What Check returns, for every tree. -/
import Derived.Test.YtikhopiegaoacacDPred
import Derived.Test.YtikhopiegaoacacDZac
namespace Go.Proofs.Ytikhopiegaoacac
open Go.RowKit

def zeroB (kind:Int) (attr:ByteArray) (ni nw:Nat) (lo hi:Int):Bool:=decide (kind=0) && (decide (attr.size=0) && emptyB ni nw lo hi)
/-- The node itself, without its kids. -/
def nodeB (kind:Int) (attr:ByteArray) (ints:List Int) (words:List ByteArray) (lo hi op:Int) (n:Nat):Bool :=
  if op=1 then predB kind attr ints words lo hi && decide (n=0) else if op=2 then zeroB kind attr ints.length words.length lo hi && decide (n=1) else if op=3 ∨ op=4 then zeroB kind attr ints.length words.length lo hi && decide (2≤n) else false
mutual
/-- Is the tree in form? -/
def chkN:Nd→Bool
  | .mk kind attr ints words lo hi op ks=>nodeB kind attr ints words lo hi op ks.length && chkL ks
def chkL:List Nd→Bool
  | []=>true
  | x :: xs=>chkN x && chkL xs
end
theorem chkL_app (a b:List Nd):chkL (a ++ b)=(chkL a && chkL b):=by
  induction a with
  | nil=>simp [chkL]
  | cons x a ih=>simp only [List.cons_append,chkL,ih,Bool.and_assoc]
theorem chkL_snoc {l:List Nd} {k:Nat} {x:Nd} (h:l[k]? = some x):chkL (l.take (k + 1))=(chkL (l.take k) && chkN x):=by
  rw [take_snoc_of h,chkL_app];simp [chkL]
theorem chkL_no {l:List Nd} {x:Nd} (h:x ∈ l) (hx:chkN x=false):chkL l=false:=by
  induction l with
  | nil=>simp at h
  | cons y l ih =>
    simp only [chkL]
    rcases List.mem_cons.1 h with rfl | h
    · rw [hx];rfl
    · rw [ih h];simp
theorem zero_at (kind:Int) (attr:ByteArray) (qi:Option Addr) (ni ci:Nat) (qw:Option Addr) (nw cw:Nat) (lo hi:Int) (w:World) :
    Calls Try.prog 53 #[.agg #[.int .i64 kind,.string attr,.slice qi ni ci,.slice qw nw cw,.int .i64 lo,.int .i64 hi]] w fun e w'=>e=.returned (.bool (zeroB kind attr ni nw lo hi))∧Below w.heap.size w w':=zero_any kind attr qi ni ci qw nw cw lo hi w
/-- The box of a node, behind calls. -/
theorem box8 {w w1:World} {kind:Int} {attr:ByteArray} {qi:Option Addr} {ni ci:Nat} {qw:Option Addr} {nw cw:Nat} {lo hi op:Int} {qk:Option Addr} {nk ck:Nat} (hb:Below (w.alloc (.cells #[.int .i64 kind,.string attr,.slice qi ni ci,.slice qw nw cw,.int .i64 lo,.int .i64 hi,.int .i64 op,.slice qk nk ck] 28)).heap.size (w.alloc (.cells #[.int .i64 kind,.string attr,.slice qi ni ci,.slice qw nw cw,.int .i64 lo,.int .i64 hi,.int .i64 op,.slice qk nk ck] 28)) w1) :
    w.heap.size < w1.heap.size∧w1.cell? ⟨w.heap.size,6,none⟩=some (.int .i64 op)∧w1.cell? ⟨w.heap.size,7,none⟩=some (.slice qk nk ck):=by
  have hs:=hb.size
  obtain ⟨hc,hf⟩:=bcell hb
  have hlt:w.heap.size < (w.alloc (.cells #[.int .i64 kind,.string attr,.slice qi ni ci,.slice qw nw cw,.int .i64 lo,.int .i64 hi,.int .i64 op,.slice qk nk ck] 28)).heap.size:=by simp
  refine ⟨by simp at hs;omega, ?_, ?_⟩
  all_goals (rw [hc _ _ hlt];go_simp)
set_option maxHeartbeats 4000000 in
theorem check_no (kind:Int) (attr:ByteArray) (qi:Option Addr) (ci:Nat) (ints:List Int) (qw:Option Addr) (cw:Nat) (words:List ByteArray) (lo hi op:Int) (qk:Option Addr) (ck:Nat) (kids:List Nd) (w:World) (h1:SlOf encI 1 w qi ci ints) (h2:SlOf encS 1 w qw cw words) (l1:ints.length≤1000000000) (l2:words.length≤1000000000) (hg:nodeB kind attr ints words lo hi op kids.length=false) :
    Calls Try.prog 34 #[.agg #[.int .i64 kind,.string attr,.slice qi ints.length ci,.slice qw words.length cw,.int .i64 lo,.int .i64 hi,.int .i64 op,.slice qk kids.length ck]] w fun e w'=>e=.returned (.int .i64 (code (false && chkL kids)))∧Below w.heap.size w w':=by
  have B0:=hide ((Below.refl w.heap.size w).alloc (Nat.le_refl _) (.cells #[.int .i64 kind,.string attr,.slice qi ints.length ci,.slice qw words.length cw,.int .i64 lo,.int .i64 hi,.int .i64 op,.slice qk kids.length ck] 28))
  have hp:=pred_any kind attr qi ci ints qw cw words lo hi _ (h1.below (uh B0)) (h2.below (uh B0)) (by omega) (by omega)
  have hz:=fun w=>zero_at kind attr qi ints.length ci qw words.length cw lo hi w
  unfold nodeB at hg
  rw [Bool.false_and]
  clear h1 h2
  by_cases o1:op=1
  · subst o1
    rw [if_pos rfl] at hg
    cases hq:predB kind attr ints words lo hi with
    | false =>
      rw [hq] at hp
      simp only [code,Bool.false_eq_true,if_false] at hp
      clear hg hq hz
      go_enter Try.func34,Try.ntmps34
      go_wp2_with (first
      | (go_at_call 52;refine hp.mono ?_;rintro e w1 ⟨rfl,b1⟩;obtain ⟨z1,d6,d7⟩:=box8 b1;have B1:=hide b1;clear b1)
      | (go_at_call 53;refine (hz _).mono ?_;rintro e w1 ⟨rfl,b1⟩;obtain ⟨z1,d6,d7⟩:=box8 b1;have B1:=hide b1;clear b1))
      go_ret
      exact ⟨rfl,below_sub (uh B0) (uh B1)⟩
    | true =>
      rw [hq] at hp hg
      simp only [code,if_true] at hp
      have hk0:¬ kids.length=0:=by simpa using hg
      have e0:((kids.length:Int) == 0)=false:=by simpa using hk0
      clear hg hq hz
      go_enter Try.func34,Try.ntmps34
      go_wp2_with (first
      | (go_at_call 52;refine hp.mono ?_;rintro e w1 ⟨rfl,b1⟩;obtain ⟨z1,d6,d7⟩:=box8 b1;have B1:=hide b1;clear b1)
      | (go_at_call 53;refine (hz _).mono ?_;rintro e w1 ⟨rfl,b1⟩;obtain ⟨z1,d6,d7⟩:=box8 b1;have B1:=hide b1;clear b1))
      go_ret
      exact ⟨rfl,below_sub (uh B0) (uh B1)⟩
  · have e1:(op == 1)=false:=by simpa using o1
    rw [if_neg o1] at hg
    by_cases o2:op=2
    · subst o2
      rw [if_pos rfl] at hg
      cases hq:zeroB kind attr ints.length words.length lo hi with
      | false =>
        rw [hq] at hz
        clear hg hq hp
        go_enter Try.func34,Try.ntmps34
        go_wp2_with (first
      | (go_at_call 52;refine hp.mono ?_;rintro e w1 ⟨rfl,b1⟩;obtain ⟨z1,d6,d7⟩:=box8 b1;have B1:=hide b1;clear b1)
      | (go_at_call 53;refine (hz _).mono ?_;rintro e w1 ⟨rfl,b1⟩;obtain ⟨z1,d6,d7⟩:=box8 b1;have B1:=hide b1;clear b1))
        go_ret
        exact ⟨rfl,below_sub (uh B0) (uh B1)⟩
      | true =>
        rw [hq] at hz hg
        have hk0:¬ kids.length=1:=by simpa using hg
        have e0:((kids.length:Int) == 1)=false:=by simp;omega
        clear hg hq hp
        go_enter Try.func34,Try.ntmps34
        go_wp2_with (first
      | (go_at_call 52;refine hp.mono ?_;rintro e w1 ⟨rfl,b1⟩;obtain ⟨z1,d6,d7⟩:=box8 b1;have B1:=hide b1;clear b1)
      | (go_at_call 53;refine (hz _).mono ?_;rintro e w1 ⟨rfl,b1⟩;obtain ⟨z1,d6,d7⟩:=box8 b1;have B1:=hide b1;clear b1))
        go_ret
        exact ⟨rfl,below_sub (uh B0) (uh B1)⟩
    · have e2:(op == 2)=false:=by simpa using o2
      rw [if_neg o2] at hg
      by_cases o3:op=3 ∨ op=4
      · rw [if_pos o3] at hg
        cases hq:zeroB kind attr ints.length words.length lo hi with
        | false =>
          rw [hq] at hz
          clear hg hq hp
          rcases o3 with rfl | rfl
          all_goals
            go_enter Try.func34,Try.ntmps34
            go_wp2_with (first
      | (go_at_call 52;refine hp.mono ?_;rintro e w1 ⟨rfl,b1⟩;obtain ⟨z1,d6,d7⟩:=box8 b1;have B1:=hide b1;clear b1)
      | (go_at_call 53;refine (hz _).mono ?_;rintro e w1 ⟨rfl,b1⟩;obtain ⟨z1,d6,d7⟩:=box8 b1;have B1:=hide b1;clear b1))
            go_ret
            exact ⟨rfl,below_sub (uh B0) (uh B1)⟩
        | true =>
          rw [hq] at hz hg
          have hk0:¬ 2≤kids.length:=by simpa using hg
          have e0:decide (2≤kids.length)=false:=by simpa using hk0
          have e3:decide ((2:Int)≤(kids.length:Int))=false:=by rw [decide_eq_false_iff_not];omega
          clear hg hq hp
          rcases o3 with rfl | rfl
          all_goals
            go_enter Try.func34,Try.ntmps34
            go_wp2_with (first
      | (go_at_call 52;refine hp.mono ?_;rintro e w1 ⟨rfl,b1⟩;obtain ⟨z1,d6,d7⟩:=box8 b1;have B1:=hide b1;clear b1)
      | (go_at_call 53;refine (hz _).mono ?_;rintro e w1 ⟨rfl,b1⟩;obtain ⟨z1,d6,d7⟩:=box8 b1;have B1:=hide b1;clear b1))
            go_ret
            exact ⟨rfl,below_sub (uh B0) (uh B1)⟩
      · have e3:(op == 3)=false:=by simp;omega
        have e4:(op == 4)=false:=by simp;omega
        clear hg hp hz
        go_enter Try.func34,Try.ntmps34
        go_wp2
        go_ret
        exact ⟨rfl,uh B0⟩
set_option maxHeartbeats 4000000 in
theorem check_yes (kind:Int) (attr:ByteArray) (qi:Option Addr) (ci:Nat) (ints:List Int) (qw:Option Addr) (cw:Nat) (words:List ByteArray) (lo hi op:Int) (qk:Option Addr) (ck:Nat) (kids:List Nd) (w:World) (h1:SlOf encI 1 w qi ci ints) (h2:SlOf encS 1 w qw cw words) (hk:NdsOf w qk ck kids) (l1:ints.length≤1000000000) (l2:words.length≤1000000000) (l3:wtL kids≤1000000000) (hg:nodeB kind attr ints words lo hi op kids.length=true) (ih:∀ x ∈ kids,∀ (v:Nv) (w:World),NdIn w v x→wtN x≤1000000000→Calls Try.prog 34 #[v.val] w fun e w'=>e=.returned (.int .i64 (code (chkN x)))∧Below w.heap.size w w') :
    Calls Try.prog 34 #[.agg #[.int .i64 kind,.string attr,.slice qi ints.length ci,.slice qw words.length cw,.int .i64 lo,.int .i64 hi,.int .i64 op,.slice qk kids.length ck]] w fun e w'=>e=.returned (.int .i64 (code (true && chkL kids)))∧Below w.heap.size w w':=by
  have B0:=hide ((Below.refl w.heap.size w).alloc (Nat.le_refl _) (.cells #[.int .i64 kind,.string attr,.slice qi ints.length ci,.slice qw words.length cw,.int .i64 lo,.int .i64 hi,.int .i64 op,.slice qk kids.length ck] 28))
  have hp:=pred_any kind attr qi ci ints qw cw words lo hi _ (h1.below (uh B0)) (h2.below (uh B0)) (by omega) (by omega)
  have hz:=fun w=>zero_at kind attr qi ints.length ci qw words.length cw lo hi w
  unfold nodeB at hg
  rw [Bool.true_and]
  have IH:=hide ih
  have HK:=hide hk
  have hlen:=len_size kids
  have hlw:=sizeL_wt kids
  have a0:(kids.length:Int)≤1000000000:=by omega
  clear h1 h2 ih hk
  by_cases o1:op=1
  · subst o1
    rw [if_pos rfl,Bool.and_eq_true] at hg
    have hk0:kids.length=0:=by simpa using hg.2
    have e0:((kids.length:Int) == 0)=true:=beq_iff_eq.2 (by omega)
    rw [hg.1] at hp
    simp only [code,if_true] at hp
    clear hg hz hk0
    go_enter Try.func34,Try.ntmps34
    go_wp2_with (first
      | (go_at_call 52;refine hp.mono ?_;rintro e w1 ⟨rfl,b1⟩;obtain ⟨z1,d6,d7⟩:=box8 b1;have B1:=hide b1;clear b1)
      | (go_at_call 53;refine (hz _).mono ?_;rintro e w1 ⟨rfl,b1⟩;obtain ⟨z1,d6,d7⟩:=box8 b1;have B1:=hide b1;clear b1))
    go_loopw [49] (fun i wr=>∃ k:Nat,k≤kids.length∧i=.int .i64 k∧chkL (kids.take k)=true∧Below w.heap.size w wr) (fun i _=>kids.length - (intOf i).toNat)
    case atStart=>exact ⟨0,by omega,rfl,rfl,below_sub (uh B0) (uh B1)⟩
    case round =>
      obtain ⟨k,hkk,rfl,hall,hbel⟩:=hrel
      have HALL:=hide hall
      have HB:=hide hbel
      by_cases hlt:k < kids.length
      · obtain ⟨x,hx,hxd⟩:=get_at hlt
        clear hxd
        obtain ⟨b,off,v',hq,hin,g0,g1,g2,g3,g4,g5,g6,g7⟩:=(uh HK).on hx hbel
        subst hq
        have hxm:x ∈ kids:=List.mem_of_getElem? hx
        have hxs:=wtL_mem hxm
        have ki0:(0:Int)≤(k:Int):=by omega
        have ki1:(k:Int) < (kids.length:Int):=by omega
        have HS:=hide (chkL_snoc hx)
        have HIN:=hide hin
        have HC:=uh IH x hxm v' (wr.alloc (.cells #[.int .i64 v'.kind,.string v'.attr,.slice v'.qi v'.ni v'.ci,.slice v'.qw v'.nw v'.cw,.int .i64 v'.lo,.int .i64 v'.hi,.int .i64 v'.op,.slice v'.qk v'.nk v'.ck] 28)) (hin.keep ((Below.refl _ _).alloc (Nat.le_refl _) _)) (by omega)
        simp only [Nv.val] at HC
        cases hcx:chkN x with
        | true =>
          rw [hcx] at HC
          simp only [code,if_true] at HC
          have HN:=hide (show chkL (kids.take (k + 1))=true by rw [uh HS,hall,hcx];rfl)
          clear hin hx hbel hxm hall hcx
          go_wp2_with (go_at_call 34;refine HC.mono ?_;rintro e w2 ⟨rfl,hb2⟩)
          exact ⟨⟨k + 1,by omega,by go_num,uh HN,((uh HB).alloc (uh HB).size _).trans (hb2.mono (by simp;have:=(uh HB).size;omega))⟩,by simp [intOf];omega⟩
        | false =>
          rw [hcx] at HC
          simp only [code,Bool.false_eq_true,if_false] at HC
          have HN:=hide (chkL_no hxm hcx)
          clear hin hx hbel hxm hall hcx
          go_wp2_with (go_at_call 34;refine HC.mono ?_;rintro e w2 ⟨rfl,hb2⟩)
          go_ret
          exact ⟨by rw [uh HN];rfl,((uh HB).alloc (uh HB).size _).trans (hb2.mono (by simp;have:=(uh HB).size;omega))⟩
      · have ki1:¬ (k:Int) < (kids.length:Int):=by omega
        have HE:=hide (show chkL kids=true by rw [← List.take_of_length_le (l:=kids) (i:=k) (by omega)];exact hall)
        clear hall
        go_wp2
        go_ret
        exact ⟨by rw [uh HE];rfl,uh HB⟩
  · have e1:(op == 1)=false:=by simpa using o1
    rw [if_neg o1] at hg
    by_cases o2:op=2
    · subst o2
      rw [if_pos rfl,Bool.and_eq_true] at hg
      have hk0:kids.length=1:=by simpa using hg.2
      have e0:((kids.length:Int) == 1)=true:=beq_iff_eq.2 (by omega)
      rw [hg.1] at hz
      clear hg hp hk0
      go_enter Try.func34,Try.ntmps34
      go_wp2_with (first
      | (go_at_call 52;refine hp.mono ?_;rintro e w1 ⟨rfl,b1⟩;obtain ⟨z1,d6,d7⟩:=box8 b1;have B1:=hide b1;clear b1)
      | (go_at_call 53;refine (hz _).mono ?_;rintro e w1 ⟨rfl,b1⟩;obtain ⟨z1,d6,d7⟩:=box8 b1;have B1:=hide b1;clear b1))
      go_loopw [49] (fun i wr=>∃ k:Nat,k≤kids.length∧i=.int .i64 k∧chkL (kids.take k)=true∧Below w.heap.size w wr) (fun i _=>kids.length - (intOf i).toNat)
      case atStart=>exact ⟨0,by omega,rfl,rfl,below_sub (uh B0) (uh B1)⟩
      case round =>
        obtain ⟨k,hkk,rfl,hall,hbel⟩:=hrel
        have HALL:=hide hall
        have HB:=hide hbel
        by_cases hlt:k < kids.length
        · obtain ⟨x,hx,hxd⟩:=get_at hlt
          clear hxd
          obtain ⟨b,off,v',hq,hin,g0,g1,g2,g3,g4,g5,g6,g7⟩:=(uh HK).on hx hbel
          subst hq
          have hxm:x ∈ kids:=List.mem_of_getElem? hx
          have hxs:=wtL_mem hxm
          have ki0:(0:Int)≤(k:Int):=by omega
          have ki1:(k:Int) < (kids.length:Int):=by omega
          have HS:=hide (chkL_snoc hx)
          have HIN:=hide hin
          have HC:=uh IH x hxm v' (wr.alloc (.cells #[.int .i64 v'.kind,.string v'.attr,.slice v'.qi v'.ni v'.ci,.slice v'.qw v'.nw v'.cw,.int .i64 v'.lo,.int .i64 v'.hi,.int .i64 v'.op,.slice v'.qk v'.nk v'.ck] 28)) (hin.keep ((Below.refl _ _).alloc (Nat.le_refl _) _)) (by omega)
          simp only [Nv.val] at HC
          cases hcx:chkN x with
          | true =>
            rw [hcx] at HC
            simp only [code,if_true] at HC
            have HN:=hide (show chkL (kids.take (k + 1))=true by rw [uh HS,hall,hcx];rfl)
            clear hin hx hbel hxm hall hcx
            go_wp2_with (go_at_call 34;refine HC.mono ?_;rintro e w2 ⟨rfl,hb2⟩)
            exact ⟨⟨k + 1,by omega,by go_num,uh HN,((uh HB).alloc (uh HB).size _).trans (hb2.mono (by simp;have:=(uh HB).size;omega))⟩,by simp [intOf];omega⟩
          | false =>
            rw [hcx] at HC
            simp only [code,Bool.false_eq_true,if_false] at HC
            have HN:=hide (chkL_no hxm hcx)
            clear hin hx hbel hxm hall hcx
            go_wp2_with (go_at_call 34;refine HC.mono ?_;rintro e w2 ⟨rfl,hb2⟩)
            go_ret
            exact ⟨by rw [uh HN];rfl,((uh HB).alloc (uh HB).size _).trans (hb2.mono (by simp;have:=(uh HB).size;omega))⟩
        · have ki1:¬ (k:Int) < (kids.length:Int):=by omega
          have HE:=hide (show chkL kids=true by rw [← List.take_of_length_le (l:=kids) (i:=k) (by omega)];exact hall)
          clear hall
          go_wp2
          go_ret
          exact ⟨by rw [uh HE];rfl,uh HB⟩
    · have e2:(op == 2)=false:=by simpa using o2
      rw [if_neg o2] at hg
      by_cases o3:op=3 ∨ op=4
      · rw [if_pos o3,Bool.and_eq_true] at hg
        have hk0:2≤kids.length:=by simpa using hg.2
        have e0:decide (2≤kids.length)=true:=by simpa using hk0
        have e3:decide ((2:Int)≤(kids.length:Int))=true:=by rw [decide_eq_true_eq];omega
        rw [hg.1] at hz
        clear hg hp
        rcases o3 with rfl | rfl
        all_goals
          go_enter Try.func34,Try.ntmps34
          go_wp2_with (first
      | (go_at_call 52;refine hp.mono ?_;rintro e w1 ⟨rfl,b1⟩;obtain ⟨z1,d6,d7⟩:=box8 b1;have B1:=hide b1;clear b1)
      | (go_at_call 53;refine (hz _).mono ?_;rintro e w1 ⟨rfl,b1⟩;obtain ⟨z1,d6,d7⟩:=box8 b1;have B1:=hide b1;clear b1))
          go_loopw [49] (fun i wr=>∃ k:Nat,k≤kids.length∧i=.int .i64 k∧chkL (kids.take k)=true∧Below w.heap.size w wr) (fun i _=>kids.length - (intOf i).toNat)
          case atStart=>exact ⟨0,by omega,rfl,rfl,below_sub (uh B0) (uh B1)⟩
          case round =>
            obtain ⟨k,hkk,rfl,hall,hbel⟩:=hrel
            have HALL:=hide hall
            have HB:=hide hbel
            by_cases hlt:k < kids.length
            · obtain ⟨x,hx,hxd⟩:=get_at hlt
              clear hxd
              obtain ⟨b,off,v',hq,hin,g0,g1,g2,g3,g4,g5,g6,g7⟩:=(uh HK).on hx hbel
              subst hq
              have hxm:x ∈ kids:=List.mem_of_getElem? hx
              have hxs:=wtL_mem hxm
              have ki0:(0:Int)≤(k:Int):=by omega
              have ki1:(k:Int) < (kids.length:Int):=by omega
              have HS:=hide (chkL_snoc hx)
              have HIN:=hide hin
              have HC:=uh IH x hxm v' (wr.alloc (.cells #[.int .i64 v'.kind,.string v'.attr,.slice v'.qi v'.ni v'.ci,.slice v'.qw v'.nw v'.cw,.int .i64 v'.lo,.int .i64 v'.hi,.int .i64 v'.op,.slice v'.qk v'.nk v'.ck] 28)) (hin.keep ((Below.refl _ _).alloc (Nat.le_refl _) _)) (by omega)
              simp only [Nv.val] at HC
              cases hcx:chkN x with
              | true =>
                rw [hcx] at HC
                simp only [code,if_true] at HC
                have HN:=hide (show chkL (kids.take (k + 1))=true by rw [uh HS,hall,hcx];rfl)
                clear hin hx hbel hxm hall hcx
                go_wp2_with (go_at_call 34;refine HC.mono ?_;rintro e w2 ⟨rfl,hb2⟩)
                exact ⟨⟨k + 1,by omega,by go_num,uh HN,((uh HB).alloc (uh HB).size _).trans (hb2.mono (by simp;have:=(uh HB).size;omega))⟩,by simp [intOf];omega⟩
              | false =>
                rw [hcx] at HC
                simp only [code,Bool.false_eq_true,if_false] at HC
                have HN:=hide (chkL_no hxm hcx)
                clear hin hx hbel hxm hall hcx
                go_wp2_with (go_at_call 34;refine HC.mono ?_;rintro e w2 ⟨rfl,hb2⟩)
                go_ret
                exact ⟨by rw [uh HN];rfl,((uh HB).alloc (uh HB).size _).trans (hb2.mono (by simp;have:=(uh HB).size;omega))⟩
            · have ki1:¬ (k:Int) < (kids.length:Int):=by omega
              have HE:=hide (show chkL kids=true by rw [← List.take_of_length_le (l:=kids) (i:=k) (by omega)];exact hall)
              clear hall
              go_wp2
              go_ret
              exact ⟨by rw [uh HE];rfl,uh HB⟩
      · rw [if_neg o3] at hg;cases hg
theorem checkT_any:∀ (t:Nd) (v:Nv) (w:World),NdIn w v t→wtN t≤1000000000 →
    Calls Try.prog 34 #[v.val] w fun e w'=>e=.returned (.int .i64 (code (chkN t)))∧Below w.heap.size w w':=by
  intro t
  induction t using Nd.ind with
  | h kind attr ints words lo hi op kids ih =>
    intro v w hin hsz
    obtain ⟨qi,ci,qw,cw,qk,ck,rfl,hi1,hw1,hk⟩:=hin.parts
    simp only [wtN] at hsz
    simp only [Nv.val,chkN]
    have hwl:=words_len words
    cases hg:nodeB kind attr ints words lo hi op kids.length with
    | false=>exact check_no kind attr qi ci ints qw cw words lo hi op qk ck kids w hi1 hw1 (by omega) (by omega) hg
    | true=>exact check_yes kind attr qi ci ints qw cw words lo hi op qk ck kids w hi1 hw1 hk (by omega) (by omega) (by omega) hg ih
end Go.Proofs.Ytikhopiegaoacac
