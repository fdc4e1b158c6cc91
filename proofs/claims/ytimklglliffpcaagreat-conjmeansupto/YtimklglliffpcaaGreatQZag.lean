/- What Check returns, for every tree. -/
import Derived.Test.YtimklglliffpcaaGreatQZaa
import Derived.Test.YtimklglliffpcaaGreatQZab
import Derived.Test.YtimklglliffpcaaGreatQEvHolds
namespace Go.Proofs.YtimklglliffpcaaGreat
open Go.RowKit

def zeroB (kind:Int) (attr:ByteArray) (ni nw:Nat) (lo hi:Int):Bool:=decide (kind=0) && (decide (attr.size=0) && emptyB ni nw lo hi)
/-- The node itself, without its kids. -/
def nodeB (kind:Int) (attr:ByteArray) (ints:List Int) (words:List ByteArray) (lo hi op:Int) (n:Nat):Bool :=
  if op=1 then predB kind attr ints words lo hi && decide (n=0) else if op=2 then zeroB kind attr ints.length words.length lo hi && decide (n=1) else if op=3 ∨ op=4 then zeroB kind attr ints.length words.length lo hi && decide (2≤n) else false
mutual
/-- Is the tree in form? -/
def chkN:Nd→Bool
  | .mk kind attr ints words lo hi op ks=>nodeB kind attr ints words lo hi op ks.length && chkL ks
def chkL:List Nd→Bool
  | []=>true
  | x :: xs=>chkN x && chkL xs
end
theorem chkL_app (a b:List Nd):chkL (a ++ b)=(chkL a && chkL b):=by
  induction a with
  | nil=>simp [chkL]
  | cons x a ih=>simp only [List.cons_append,chkL,ih,Bool.and_assoc]
theorem chkL_snoc {l:List Nd} {k:Nat} {x:Nd} (h:l[k]? = some x):chkL (l.take (k + 1))=(chkL (l.take k) && chkN x):=by
  rw [take_snoc_of h,chkL_app];simp [chkL]
theorem chkL_no {l:List Nd} {x:Nd} (h:x ∈ l) (hx:chkN x=false):chkL l=false:=by
  induction l with
  | nil=>simp at h
  | cons y l ih =>
    simp only [chkL]
    rcases List.mem_cons.1 h with rfl | h
    · rw [hx];rfl
    · rw [ih h];simp
theorem zero_at (kind:Int) (attr:ByteArray) (qi:Option Addr) (ni ci:Nat) (qw:Option Addr) (nw cw:Nat) (lo hi:Int) (w:World) :
    Calls Tryz.prog 144 #[.agg #[.int .i64 kind,.string attr,.slice qi ni ci,.slice qw nw cw,.int .i64 lo,.int .i64 hi]] w fun e w'=>e=.returned (.bool (zeroB kind attr ni nw lo hi))∧Below w.heap.size w w':=zero_any kind attr qi ni ci qw nw cw lo hi w
/-- The box of a node, behind calls. -/
theorem box8 {w w1:World} {kind:Int} {attr:ByteArray} {qi:Option Addr} {ni ci:Nat} {qw:Option Addr} {nw cw:Nat} {lo hi op:Int} {qk:Option Addr} {nk ck:Nat} (hb:Below (w.alloc (.cells #[.int .i64 kind,.string attr,.slice qi ni ci,.slice qw nw cw,.int .i64 lo,.int .i64 hi,.int .i64 op,.slice qk nk ck] 56)).heap.size (w.alloc (.cells #[.int .i64 kind,.string attr,.slice qi ni ci,.slice qw nw cw,.int .i64 lo,.int .i64 hi,.int .i64 op,.slice qk nk ck] 56)) w1) :
    w.heap.size < w1.heap.size∧w1.cell? ⟨w.heap.size,6,none⟩=some (.int .i64 op)∧w1.cell? ⟨w.heap.size,7,none⟩=some (.slice qk nk ck):=by
  have hs:=hb.size
  obtain ⟨hc,hf⟩:=bcell hb
  have hlt:w.heap.size < (w.alloc (.cells #[.int .i64 kind,.string attr,.slice qi ni ci,.slice qw nw cw,.int .i64 lo,.int .i64 hi,.int .i64 op,.slice qk nk ck] 56)).heap.size:=by simp
  refine ⟨by simp at hs;omega, ?_, ?_⟩
  all_goals (rw [hc _ _ hlt];go_simp)
set_option maxHeartbeats 4000000 in
theorem check_no (kind:Int) (attr:ByteArray) (qi:Option Addr) (ci:Nat) (ints:List Int) (qw:Option Addr) (cw:Nat) (words:List ByteArray) (lo hi op:Int) (qk:Option Addr) (ck:Nat) (kids:List Nd) (w:World) (h1:SlOf encI 1 w qi ci ints) (h2:SlOf encS 1 w qw cw words) (l1:ints.length≤1000000000) (l2:words.length≤1000000000) (hg:nodeB kind attr ints words lo hi op kids.length=false) :
    Calls Tryz.prog 91 #[.agg #[.int .i64 kind,.string attr,.slice qi ints.length ci,.slice qw words.length cw,.int .i64 lo,.int .i64 hi,.int .i64 op,.slice qk kids.length ck]] w fun e w'=>e=.returned (.int .i64 (code (false && chkL kids)))∧Below w.heap.size w w':=by
  have B0:=hide ((Below.refl w.heap.size w).alloc (Nat.le_refl _) (.cells #[.int .i64 kind,.string attr,.slice qi ints.length ci,.slice qw words.length cw,.int .i64 lo,.int .i64 hi,.int .i64 op,.slice qk kids.length ck] 56))
  have hp:=pred_any kind attr qi ci ints qw cw words lo hi _ (h1.below (uh B0)) (h2.below (uh B0)) (by omega) (by omega)
  have hz:=fun w=>zero_at kind attr qi ints.length ci qw words.length cw lo hi w
  unfold nodeB at hg
  rw [Bool.false_and]
  clear h1 h2
  by_cases o1:op=1
  · subst o1
    rw [if_pos rfl] at hg
    cases hq:predB kind attr ints words lo hi with
    | false =>
      rw [hq] at hp
      simp only [code,Bool.false_eq_true,if_false] at hp
      clear hg hq hz
      go_enter Tryz.func91,Tryz.ntmps91
      go_wp2_with (first
      | (go_at_call 54;refine hp.mono ?_;rintro e w1 ⟨rfl,b1⟩;obtain ⟨z1,d6,d7⟩:=box8 b1;have B1:=hide b1;clear b1)
      | (go_at_call 144;refine (hz _).mono ?_;rintro e w1 ⟨rfl,b1⟩;obtain ⟨z1,d6,d7⟩:=box8 b1;have B1:=hide b1;clear b1))
      go_ret
      exact ⟨rfl,below_sub (uh B0) (uh B1)⟩
    | true =>
      rw [hq] at hp hg
      simp only [code,if_true] at hp
      have hk0:¬ kids.length=0:=by simpa using hg
      have e0:((kids.length:Int) == 0)=false:=by simpa using hk0
      clear hg hq hz
      go_enter Tryz.func91,Tryz.ntmps91
      go_wp2_with (first
      | (go_at_call 54;refine hp.mono ?_;rintro e w1 ⟨rfl,b1⟩;obtain ⟨z1,d6,d7⟩:=box8 b1;have B1:=hide b1;clear b1)
      | (go_at_call 144;refine (hz _).mono ?_;rintro e w1 ⟨rfl,b1⟩;obtain ⟨z1,d6,d7⟩:=box8 b1;have B1:=hide b1;clear b1))
      go_ret
      exact ⟨rfl,below_sub (uh B0) (uh B1)⟩
  · have e1:(op == 1)=false:=by simpa using o1
    rw [if_neg o1] at hg
    by_cases o2:op=2
    · subst o2
      rw [if_pos rfl] at hg
      cases hq:zeroB kind attr ints.length words.length lo hi with
      | false =>
        rw [hq] at hz
        clear hg hq hp
        go_enter Tryz.func91,Tryz.ntmps91
        go_wp2_with (first
      | (go_at_call 54;refine hp.mono ?_;rintro e w1 ⟨rfl,b1⟩;obtain ⟨z1,d6,d7⟩:=box8 b1;have B1:=hide b1;clear b1)
      | (go_at_call 144;refine (hz _).mono ?_;rintro e w1 ⟨rfl,b1⟩;obtain ⟨z1,d6,d7⟩:=box8 b1;have B1:=hide b1;clear b1))
        go_ret
        exact ⟨rfl,below_sub (uh B0) (uh B1)⟩
      | true =>
        rw [hq] at hz hg
        have hk0:¬ kids.length=1:=by simpa using hg
        have e0:((kids.length:Int) == 1)=false:=by simp;omega
        clear hg hq hp
        go_enter Tryz.func91,Tryz.ntmps91
        go_wp2_with (first
      | (go_at_call 54;refine hp.mono ?_;rintro e w1 ⟨rfl,b1⟩;obtain ⟨z1,d6,d7⟩:=box8 b1;have B1:=hide b1;clear b1)
      | (go_at_call 144;refine (hz _).mono ?_;rintro e w1 ⟨rfl,b1⟩;obtain ⟨z1,d6,d7⟩:=box8 b1;have B1:=hide b1;clear b1))
        go_ret
        exact ⟨rfl,below_sub (uh B0) (uh B1)⟩
    · have e2:(op == 2)=false:=by simpa using o2
      rw [if_neg o2] at hg
      by_cases o3:op=3 ∨ op=4
      · rw [if_pos o3] at hg
        cases hq:zeroB kind attr ints.length words.length lo hi with
        | false =>
          rw [hq] at hz
          clear hg hq hp
          rcases o3 with rfl | rfl
          all_goals
            go_enter Tryz.func91,Tryz.ntmps91
            go_wp2_with (first
      | (go_at_call 54;refine hp.mono ?_;rintro e w1 ⟨rfl,b1⟩;obtain ⟨z1,d6,d7⟩:=box8 b1;have B1:=hide b1;clear b1)
      | (go_at_call 144;refine (hz _).mono ?_;rintro e w1 ⟨rfl,b1⟩;obtain ⟨z1,d6,d7⟩:=box8 b1;have B1:=hide b1;clear b1))
            go_ret
            exact ⟨rfl,below_sub (uh B0) (uh B1)⟩
        | true =>
          rw [hq] at hz hg
          have hk0:¬ 2≤kids.length:=by simpa using hg
          have e0:decide (2≤kids.length)=false:=by simpa using hk0
          have e3:decide ((2:Int)≤(kids.length:Int))=false:=by rw [decide_eq_false_iff_not];omega
          clear hg hq hp
          rcases o3 with rfl | rfl
          all_goals
            go_enter Tryz.func91,Tryz.ntmps91
            go_wp2_with (first
      | (go_at_call 54;refine hp.mono ?_;rintro e w1 ⟨rfl,b1⟩;obtain ⟨z1,d6,d7⟩:=box8 b1;have B1:=hide b1;clear b1)
      | (go_at_call 144;refine (hz _).mono ?_;rintro e w1 ⟨rfl,b1⟩;obtain ⟨z1,d6,d7⟩:=box8 b1;have B1:=hide b1;clear b1))
            go_ret
            exact ⟨rfl,below_sub (uh B0) (uh B1)⟩
      · have e3:(op == 3)=false:=by simp;omega
        have e4:(op == 4)=false:=by simp;omega
        clear hg hp hz
        go_enter Tryz.func91,Tryz.ntmps91
        go_wp2
        go_ret
        exact ⟨rfl,uh B0⟩
set_option maxHeartbeats 4000000 in
theorem check_yes (kind:Int) (attr:ByteArray) (qi:Option Addr) (ci:Nat) (ints:List Int) (qw:Option Addr) (cw:Nat) (words:List ByteArray) (lo hi op:Int) (qk:Option Addr) (ck:Nat) (kids:List Nd) (w:World) (h1:SlOf encI 1 w qi ci ints) (h2:SlOf encS 1 w qw cw words) (hk:NdsOf w qk ck kids) (l1:ints.length≤1000000000) (l2:words.length≤1000000000) (l3:wtL kids≤1000000000) (hg:nodeB kind attr ints words lo hi op kids.length=true) (ih:∀ x ∈ kids,∀ (v:Nv) (w:World),NdIn w v x→wtN x≤1000000000→Calls Tryz.prog 91 #[v.val] w fun e w'=>e=.returned (.int .i64 (code (chkN x)))∧Below w.heap.size w w') :
    Calls Tryz.prog 91 #[.agg #[.int .i64 kind,.string attr,.slice qi ints.length ci,.slice qw words.length cw,.int .i64 lo,.int .i64 hi,.int .i64 op,.slice qk kids.length ck]] w fun e w'=>e=.returned (.int .i64 (code (true && chkL kids)))∧Below w.heap.size w w':=by
  have B0:=hide ((Below.refl w.heap.size w).alloc (Nat.le_refl _) (.cells #[.int .i64 kind,.string attr,.slice qi ints.length ci,.slice qw words.length cw,.int .i64 lo,.int .i64 hi,.int .i64 op,.slice qk kids.length ck] 56))
  have hp:=pred_any kind attr qi ci ints qw cw words lo hi _ (h1.below (uh B0)) (h2.below (uh B0)) (by omega) (by omega)
  have hz:=fun w=>zero_at kind attr qi ints.length ci qw words.length cw lo hi w
  unfold nodeB at hg
  rw [Bool.true_and]
  have IH:=hide ih
  have HK:=hide hk
  have hlen:=len_size kids
  have hlw:=sizeL_wt kids
  have a0:(kids.length:Int)≤1000000000:=by omega
  clear h1 h2 ih hk
  by_cases o1:op=1
  · subst o1
    rw [if_pos rfl,Bool.and_eq_true] at hg
    have hk0:kids.length=0:=by simpa using hg.2
    have e0:((kids.length:Int) == 0)=true:=beq_iff_eq.2 (by omega)
    rw [hg.1] at hp
    simp only [code,if_true] at hp
    clear hg hz hk0
    go_enter Tryz.func91,Tryz.ntmps91
    go_wp2_with (first
      | (go_at_call 54;refine hp.mono ?_;rintro e w1 ⟨rfl,b1⟩;obtain ⟨z1,d6,d7⟩:=box8 b1;have B1:=hide b1;clear b1)
      | (go_at_call 144;refine (hz _).mono ?_;rintro e w1 ⟨rfl,b1⟩;obtain ⟨z1,d6,d7⟩:=box8 b1;have B1:=hide b1;clear b1))
    go_loopw [49] (fun i wr=>∃ k:Nat,k≤kids.length∧i=.int .i64 k∧chkL (kids.take k)=true∧Below w.heap.size w wr) (fun i _=>kids.length - (intOf i).toNat)
    case atStart=>exact ⟨0,by omega,rfl,rfl,below_sub (uh B0) (uh B1)⟩
    case round =>
      obtain ⟨k,hkk,rfl,hall,hbel⟩:=hrel
      have HALL:=hide hall
      have HB:=hide hbel
      by_cases hlt:k < kids.length
      · obtain ⟨x,hx,hxd⟩:=get_at hlt
        clear hxd
        obtain ⟨b,off,v',hq,hin,g0,g1,g2,g3,g4,g5,g6,g7⟩:=(uh HK).on hx hbel
        subst hq
        have hxm:x ∈ kids:=List.mem_of_getElem? hx
        have hxs:=wtL_mem hxm
        have ki0:(0:Int)≤(k:Int):=by omega
        have ki1:(k:Int) < (kids.length:Int):=by omega
        have HS:=hide (chkL_snoc hx)
        have HIN:=hide hin
        have HC:=uh IH x hxm v' (wr.alloc (.cells #[.int .i64 v'.kind,.string v'.attr,.slice v'.qi v'.ni v'.ci,.slice v'.qw v'.nw v'.cw,.int .i64 v'.lo,.int .i64 v'.hi,.int .i64 v'.op,.slice v'.qk v'.nk v'.ck] 56)) (hin.keep ((Below.refl _ _).alloc (Nat.le_refl _) _)) (by omega)
        simp only [Nv.val] at HC
        cases hcx:chkN x with
        | true =>
          rw [hcx] at HC
          simp only [code,if_true] at HC
          have HN:=hide (show chkL (kids.take (k + 1))=true by rw [uh HS,hall,hcx];rfl)
          clear hin hx hbel hxm hall hcx
          go_wp2_with (go_at_call 91;refine HC.mono ?_;rintro e w2 ⟨rfl,hb2⟩)
          exact ⟨⟨k + 1,by omega,by go_num,uh HN,((uh HB).alloc (uh HB).size _).trans (hb2.mono (by simp;have:=(uh HB).size;omega))⟩,by simp [intOf];omega⟩
        | false =>
          rw [hcx] at HC
          simp only [code,Bool.false_eq_true,if_false] at HC
          have HN:=hide (chkL_no hxm hcx)
          clear hin hx hbel hxm hall hcx
          go_wp2_with (go_at_call 91;refine HC.mono ?_;rintro e w2 ⟨rfl,hb2⟩)
          go_ret
          exact ⟨by rw [uh HN];rfl,((uh HB).alloc (uh HB).size _).trans (hb2.mono (by simp;have:=(uh HB).size;omega))⟩
      · have ki1:¬ (k:Int) < (kids.length:Int):=by omega
        have HE:=hide (show chkL kids=true by rw [← List.take_of_length_le (l:=kids) (i:=k) (by omega)];exact hall)
        clear hall
        go_wp2
        go_ret
        exact ⟨by rw [uh HE];rfl,uh HB⟩
  · have e1:(op == 1)=false:=by simpa using o1
    rw [if_neg o1] at hg
    by_cases o2:op=2
    · subst o2
      rw [if_pos rfl,Bool.and_eq_true] at hg
      have hk0:kids.length=1:=by simpa using hg.2
      have e0:((kids.length:Int) == 1)=true:=beq_iff_eq.2 (by omega)
      rw [hg.1] at hz
      clear hg hp hk0
      go_enter Tryz.func91,Tryz.ntmps91
      go_wp2_with (first
      | (go_at_call 54;refine hp.mono ?_;rintro e w1 ⟨rfl,b1⟩;obtain ⟨z1,d6,d7⟩:=box8 b1;have B1:=hide b1;clear b1)
      | (go_at_call 144;refine (hz _).mono ?_;rintro e w1 ⟨rfl,b1⟩;obtain ⟨z1,d6,d7⟩:=box8 b1;have B1:=hide b1;clear b1))
      go_loopw [49] (fun i wr=>∃ k:Nat,k≤kids.length∧i=.int .i64 k∧chkL (kids.take k)=true∧Below w.heap.size w wr) (fun i _=>kids.length - (intOf i).toNat)
      case atStart=>exact ⟨0,by omega,rfl,rfl,below_sub (uh B0) (uh B1)⟩
      case round =>
        obtain ⟨k,hkk,rfl,hall,hbel⟩:=hrel
        have HALL:=hide hall
        have HB:=hide hbel
        by_cases hlt:k < kids.length
        · obtain ⟨x,hx,hxd⟩:=get_at hlt
          clear hxd
          obtain ⟨b,off,v',hq,hin,g0,g1,g2,g3,g4,g5,g6,g7⟩:=(uh HK).on hx hbel
          subst hq
          have hxm:x ∈ kids:=List.mem_of_getElem? hx
          have hxs:=wtL_mem hxm
          have ki0:(0:Int)≤(k:Int):=by omega
          have ki1:(k:Int) < (kids.length:Int):=by omega
          have HS:=hide (chkL_snoc hx)
          have HIN:=hide hin
          have HC:=uh IH x hxm v' (wr.alloc (.cells #[.int .i64 v'.kind,.string v'.attr,.slice v'.qi v'.ni v'.ci,.slice v'.qw v'.nw v'.cw,.int .i64 v'.lo,.int .i64 v'.hi,.int .i64 v'.op,.slice v'.qk v'.nk v'.ck] 56)) (hin.keep ((Below.refl _ _).alloc (Nat.le_refl _) _)) (by omega)
          simp only [Nv.val] at HC
          cases hcx:chkN x with
          | true =>
            rw [hcx] at HC
            simp only [code,if_true] at HC
            have HN:=hide (show chkL (kids.take (k + 1))=true by rw [uh HS,hall,hcx];rfl)
            clear hin hx hbel hxm hall hcx
            go_wp2_with (go_at_call 91;refine HC.mono ?_;rintro e w2 ⟨rfl,hb2⟩)
            exact ⟨⟨k + 1,by omega,by go_num,uh HN,((uh HB).alloc (uh HB).size _).trans (hb2.mono (by simp;have:=(uh HB).size;omega))⟩,by simp [intOf];omega⟩
          | false =>
            rw [hcx] at HC
            simp only [code,Bool.false_eq_true,if_false] at HC
            have HN:=hide (chkL_no hxm hcx)
            clear hin hx hbel hxm hall hcx
            go_wp2_with (go_at_call 91;refine HC.mono ?_;rintro e w2 ⟨rfl,hb2⟩)
            go_ret
            exact ⟨by rw [uh HN];rfl,((uh HB).alloc (uh HB).size _).trans (hb2.mono (by simp;have:=(uh HB).size;omega))⟩
        · have ki1:¬ (k:Int) < (kids.length:Int):=by omega
          have HE:=hide (show chkL kids=true by rw [← List.take_of_length_le (l:=kids) (i:=k) (by omega)];exact hall)
          clear hall
          go_wp2
          go_ret
          exact ⟨by rw [uh HE];rfl,uh HB⟩
    · have e2:(op == 2)=false:=by simpa using o2
      rw [if_neg o2] at hg
      by_cases o3:op=3 ∨ op=4
      · rw [if_pos o3,Bool.and_eq_true] at hg
        have hk0:2≤kids.length:=by simpa using hg.2
        have e0:decide (2≤kids.length)=true:=by simpa using hk0
        have e3:decide ((2:Int)≤(kids.length:Int))=true:=by rw [decide_eq_true_eq];omega
        rw [hg.1] at hz
        clear hg hp
        rcases o3 with rfl | rfl
        all_goals
          go_enter Tryz.func91,Tryz.ntmps91
          go_wp2_with (first
      | (go_at_call 54;refine hp.mono ?_;rintro e w1 ⟨rfl,b1⟩;obtain ⟨z1,d6,d7⟩:=box8 b1;have B1:=hide b1;clear b1)
      | (go_at_call 144;refine (hz _).mono ?_;rintro e w1 ⟨rfl,b1⟩;obtain ⟨z1,d6,d7⟩:=box8 b1;have B1:=hide b1;clear b1))
          go_loopw [49] (fun i wr=>∃ k:Nat,k≤kids.length∧i=.int .i64 k∧chkL (kids.take k)=true∧Below w.heap.size w wr) (fun i _=>kids.length - (intOf i).toNat)
          case atStart=>exact ⟨0,by omega,rfl,rfl,below_sub (uh B0) (uh B1)⟩
          case round =>
            obtain ⟨k,hkk,rfl,hall,hbel⟩:=hrel
            have HALL:=hide hall
            have HB:=hide hbel
            by_cases hlt:k < kids.length
            · obtain ⟨x,hx,hxd⟩:=get_at hlt
              clear hxd
              obtain ⟨b,off,v',hq,hin,g0,g1,g2,g3,g4,g5,g6,g7⟩:=(uh HK).on hx hbel
              subst hq
              have hxm:x ∈ kids:=List.mem_of_getElem? hx
              have hxs:=wtL_mem hxm
              have ki0:(0:Int)≤(k:Int):=by omega
              have ki1:(k:Int) < (kids.length:Int):=by omega
              have HS:=hide (chkL_snoc hx)
              have HIN:=hide hin
              have HC:=uh IH x hxm v' (wr.alloc (.cells #[.int .i64 v'.kind,.string v'.attr,.slice v'.qi v'.ni v'.ci,.slice v'.qw v'.nw v'.cw,.int .i64 v'.lo,.int .i64 v'.hi,.int .i64 v'.op,.slice v'.qk v'.nk v'.ck] 56)) (hin.keep ((Below.refl _ _).alloc (Nat.le_refl _) _)) (by omega)
              simp only [Nv.val] at HC
              cases hcx:chkN x with
              | true =>
                rw [hcx] at HC
                simp only [code,if_true] at HC
                have HN:=hide (show chkL (kids.take (k + 1))=true by rw [uh HS,hall,hcx];rfl)
                clear hin hx hbel hxm hall hcx
                go_wp2_with (go_at_call 91;refine HC.mono ?_;rintro e w2 ⟨rfl,hb2⟩)
                exact ⟨⟨k + 1,by omega,by go_num,uh HN,((uh HB).alloc (uh HB).size _).trans (hb2.mono (by simp;have:=(uh HB).size;omega))⟩,by simp [intOf];omega⟩
              | false =>
                rw [hcx] at HC
                simp only [code,Bool.false_eq_true,if_false] at HC
                have HN:=hide (chkL_no hxm hcx)
                clear hin hx hbel hxm hall hcx
                go_wp2_with (go_at_call 91;refine HC.mono ?_;rintro e w2 ⟨rfl,hb2⟩)
                go_ret
                exact ⟨by rw [uh HN];rfl,((uh HB).alloc (uh HB).size _).trans (hb2.mono (by simp;have:=(uh HB).size;omega))⟩
            · have ki1:¬ (k:Int) < (kids.length:Int):=by omega
              have HE:=hide (show chkL kids=true by rw [← List.take_of_length_le (l:=kids) (i:=k) (by omega)];exact hall)
              clear hall
              go_wp2
              go_ret
              exact ⟨by rw [uh HE];rfl,uh HB⟩
      · rw [if_neg o3] at hg;cases hg
theorem checkT_any:∀ (t:Nd) (v:Nv) (w:World),NdIn w v t→wtN t≤1000000000 →
    Calls Tryz.prog 91 #[v.val] w fun e w'=>e=.returned (.int .i64 (code (chkN t)))∧Below w.heap.size w w':=by
  intro t
  induction t using Nd.ind with
  | h kind attr ints words lo hi op kids ih =>
    intro v w hin hsz
    obtain ⟨qi,ci,qw,cw,qk,ck,rfl,hi1,hw1,hk⟩:=hin.parts
    simp only [wtN] at hsz
    simp only [Nv.val,chkN]
    have hwl:=words_len words
    cases hg:nodeB kind attr ints words lo hi op kids.length with
    | false=>exact check_no kind attr qi ci ints qw cw words lo hi op qk ck kids w hi1 hw1 (by omega) (by omega) hg
    | true=>exact check_yes kind attr qi ci ints qw cw words lo hi op qk ck kids w hi1 hw1 hk (by omega) (by omega) (by omega) hg ih
end Go.Proofs.YtimklglliffpcaaGreat
namespace Go.Proofs.YtimklglliffpcaaGreat
open Go.RowKit Go.Sort

mutual
/-- The truth of a tree. -/
def truN (ev:List Pr):Nd→Bool
  | .mk kind attr ints words lo hi op ks=>if op=2 then !(anyT ev ks) else if op=3 then allT ev ks else if op=4 then anyT ev ks else holdsB kind attr ints words lo hi ev
def anyT (ev:List Pr):List Nd→Bool
  | []=>false
  | x :: xs=>truN ev x || anyT ev xs
def allT (ev:List Pr):List Nd→Bool
  | []=>true
  | x :: xs=>truN ev x && allT ev xs
end
theorem chkL_mem {l:List Nd} (h:chkL l=true) {x:Nd} (hx:x ∈ l):chkN x=true:=by
  cases hc:chkN x with
  | true=>rfl
  | false=>rw [chkL_no hx hc] at h;cases h
end Go.Proofs.YtimklglliffpcaaGreat
namespace Go.Proofs.YtimklglliffpcaaGreat
open Go.RowKit Go.Sort

theorem two {w Y:World} {o1 o2:Obj} (h:(w.alloc o1).alloc o2=Y):Y.heap[w.heap.size]? = some o1∧Y.heap[w.heap.size + 1]? = some o2∧Below w.heap.size w Y∧Y.heap.size=w.heap.size + 2:=by
  subst h
  have nw:=box_nw (w.alloc o1) o2
  have hs:(w.alloc o1).heap.size=w.heap.size + 1:=by simp
  rw [hs] at nw
  refine ⟨?_,nw,((Below.refl _ _).alloc (Nat.le_refl _) _).alloc (by simp) _,by simp⟩
  rw [((Below.refl (w.alloc o1).heap.size (w.alloc o1)).alloc (Nat.le_refl _) o2).block _ (by omega)]
  exact box_nw _ _
theorem wtN_parts {kind:Int} {attr:ByteArray} {ints:List Int} {words:List ByteArray} {lo hi op:Int} {kids:List Nd} (h:wtN (.mk kind attr ints words lo hi op kids)≤1000000000):ints.length≤1000000000∧words.length≤1000000000∧wtL kids≤1000000000:=by
  simp only [wtN] at h
  have:=words_len words
  omega
end Go.Proofs.YtimklglliffpcaaGreat
namespace Go.Proofs.YtimklglliffpcaaGreat
open Go.RowKit Go.Sort

def bnd (m:Int):Int:=min (max m 0) 4611686018427387904
def sumGo (M:Int):List Int→Int→Int
  | [],s=>s
  | x :: xs,s=>if M - s < x then M + 1 else sumGo M xs (s + max x 0)
def prodGo (M:Int):List Int→Int→Int
  | [],p=>p
  | x :: xs,p=>if M.tdiv x < p then M + 1 else prodGo M xs (p * x)
/-- The sum, cut behind most. -/
def sumB (m:Int) (l:List Int):Int:=sumGo (bnd m) l 0
/-- The product, cut behind most. -/
def prodB (m:Int) (l:List Int):Int:=if l.any (fun x=>decide (x≤0)) then 0 else prodGo (bnd m) l 1
theorem bnd_ge (m:Int):0≤bnd m:=by unfold bnd;omega
theorem bnd_le (m:Int):bnd m≤4611686018427387904:=by unfold bnd;omega
theorem wrap_of (x:Int) (h0:-9223372036854775808≤x) (h1:x < 9223372036854775808):IntKind.i64.wrap x=x:=by
  have e:(2:Int) ^ IntKind.i64.bits=18446744073709551616:=by decide
  have e2:(2:Int) ^ (IntKind.i64.bits - 1)=9223372036854775808:=by decide
  have es:IntKind.i64.signed=true:=rfl
  simp [IntKind.wrap,e,e2,es]
  split <;> omega
theorem bounded_any (m:Int) (w:World):Calls Tryz.prog 204 #[.int .i64 m] w fun e w'=>e=.returned (.int .i64 (bnd m))∧w'=w:=by
  go_enter Tryz.func204,Tryz.ntmps204
  go_wp2
  go_ret
  exact ⟨by simp [bnd],rfl⟩
theorem isNone_any (x:Int) (w:World):Calls Tryz.prog 206 #[.int .i64 x] w fun e w'=>e=.returned (.bool (decide (x≤0)))∧w'=w:=by
  go_enter Tryz.func206,Tryz.ntmps206
  go_wp2
  go_ret
  exact ⟨rfl,rfl⟩
set_option maxHeartbeats 4000000 in
theorem indexNone (q:Option Addr) (c:Nat) (l:List Int) (w:World) (h:SlOf encI 1 w q c l) (hl:l.length≤1000000000000000000) :
    Calls Tryz.prog 150 #[.slice q l.length c,.func (.func 206) #[] #[]] w fun e w'=>(∃ n:Int,e=.returned (.int .i64 n)∧decide (0≤n)=l.any (fun x=>decide (x≤0)))∧Below w.heap.size w w':=by
  have HA:=hide h
  have a0:(l.length:Int)≤1000000000000000000:=by omega
  clear h
  go_enter Tryz.func150,Tryz.ntmps150
  go_wp2
  go_loopw [8] (fun i wr=>∃ k:Nat,k≤l.length∧i=.int .i64 k∧(∀ (j:Nat) (x:Int),j < k→l[j]? = some x→0 < x)∧Below w.heap.size w wr) (fun i _=>l.length - (intOf i).toNat)
  case atStart=>exact ⟨0,by omega,rfl,fun j x h=>absurd h (by omega),Below.refl _ _⟩
  case round =>
    obtain ⟨k,hk,rfl,hall,hbel⟩:=hrel
    have HALL:=hide hall
    have HB:=hide hbel
    by_cases hlt:k < l.length
    · obtain ⟨x,hx,hxd⟩:=get_at hlt
      obtain ⟨b,off,hq,hb,hc⟩:=intsAt (uh HA) hx
      subst hq
      have g:=(hbel.cell (p:=⟨b,off + k,none⟩) hb).trans hc
      have ki0:(0:Int)≤(k:Int):=by omega
      have ki1:(k:Int) < (l.length:Int):=by omega
      have hn:=fun w=>isNone_any x w
      have HX:=hide hx
      by_cases hx0:x≤0
      · have d:decide (x≤0)=true:=by simp [hx0]
        rw [d] at hn
        clear hall hbel hxd hx hc d
        go_wp2_with (go_at_call 206;refine (hn _).mono ?_;rintro e w2 ⟨rfl,hw2⟩;subst hw2)
        go_ret
        refine ⟨⟨k,rfl, ?_⟩,uh HB⟩
        have:l.any (fun x=>decide (x≤0))=true:=List.any_eq_true.2 ⟨x,List.mem_of_getElem? (uh HX),by simp [hx0]⟩
        rw [this];simp
      · have d:decide (x≤0)=false:=by simp [hx0]
        rw [d] at hn
        clear hall hbel hxd hx hc d
        go_wp2_with (go_at_call 206;refine (hn _).mono ?_;rintro e w2 ⟨rfl,hw2⟩;subst hw2)
        go_roundw
        case rel =>
          refine ⟨k + 1,by omega,by go_num,fun j y hj hy=>?_,uh HB⟩
          by_cases e:j=k
          · subst e;rw [uh HX] at hy;cases hy;omega
          · exact uh HALL j y (by omega) hy
        case measure=>simp [intOf];omega
    · have ki1:¬ (k:Int) < (l.length:Int):=by omega
      clear hall hbel
      go_wp2
      go_ret
      refine ⟨⟨-1,rfl, ?_⟩,uh HB⟩
      have:l.any (fun x=>decide (x≤0))=false:=by
        rw [List.any_eq_false]
        intro x hx
        obtain ⟨j,hj⟩:=List.getElem?_of_mem hx
        have:=uh HALL j x (by have:=(List.getElem?_eq_some_iff.1 hj).1;omega) hj
        simp;omega
      rw [this];simp
theorem containsNone (q:Option Addr) (c:Nat) (l:List Int) (w:World) (h:SlOf encI 1 w q c l) (hl:l.length≤1000000000000000000) :
    Calls Tryz.prog 205 #[.slice q l.length c,.func (.func 206) #[] #[]] w fun e w'=>e=.returned (.bool (l.any (fun x=>decide (x≤0))))∧Below w.heap.size w w':=by
  have hi:=indexNone q c l w h hl
  go_enter Tryz.func205,Tryz.ntmps205
  go_wp2_with (go_at_call 150;refine hi.mono ?_;rintro e w2 ⟨⟨n,rfl,hn⟩,b2⟩;have B2:=hide b2;have HN:=hide hn;clear b2 hn)
  go_ret
  exact ⟨by rw [← uh HN];simp,uh B2⟩
set_option maxHeartbeats 4000000 in
theorem sum_any (m:Int) (q:Option Addr) (c:Nat) (l:List Int) (w:World) (h:SlOf encI 1 w q c l) (hl:l.length≤1000000000000000000) :
    Calls Tryz.prog 172 #[.int .i64 m,.slice q l.length c] w fun e w'=>e=.returned (.int .i64 (sumB m l))∧Below w.heap.size w w':=by
  have HA:=hide h
  have a0:(l.length:Int)≤1000000000000000000:=by omega
  have hb:=fun w=>bounded_any m w
  have h0:=bnd_ge m
  have h1:=bnd_le m
  unfold sumB
  obtain ⟨M,hM⟩:∃ M,bnd m=M:=⟨_,rfl⟩
  rw [hM] at hb h0 h1
  rw [hM]
  clear h hM
  go_enter Tryz.func172,Tryz.ntmps172
  go_wp2_with (go_at_call 204;refine (hb _).mono ?_;rintro e w2 ⟨rfl,hw2⟩;subst hw2)
  go_loopw [5,12] (fun sv i wr=>∃ (k:Nat) (s:Int),k≤l.length∧i=.int .i64 k∧sv=.int .i64 s∧0≤s∧s≤M∧sumGo M (l.drop k) s=sumGo M l 0∧Below w2.heap.size w2 wr) (fun _ i _=>l.length - (intOf i).toNat)
  case atStart=>exact ⟨0,0,by omega,rfl,rfl,Int.le_refl _,h0,rfl,Below.refl _ _⟩
  case round =>
    obtain ⟨k,s,hk,rfl,rfl,s0,s1,heq,hbel⟩:=hrel
    have HB:=hide hbel
    by_cases hlt:k < l.length
    · obtain ⟨x,hx,hxd⟩:=get_at hlt
      obtain ⟨b,off,hq,hb,hc⟩:=intsAt (uh HA) hx
      subst hq
      have g:=(hbel.cell (p:=⟨b,off + k,none⟩) hb).trans hc
      have ki0:(0:Int)≤(k:Int):=by omega
      have ki1:(k:Int) < (l.length:Int):=by omega
      rw [hxd] at heq
      have w1:IntKind.i64.wrap (M - s)=M - s:=wrap_of _ (by omega) (by omega)
      by_cases hgt:M - s < x
      · simp only [sumGo,if_pos hgt] at heq
        have w2:IntKind.i64.wrap (M + 1)=M + 1:=wrap_of _ (by omega) (by omega)
        have HE:=hide heq
        clear heq hbel hxd hx hc
        go_wp2
        go_ret
        exact ⟨by rw [← uh HE];rfl,uh HB⟩
      · simp only [sumGo,if_neg hgt] at heq
        have w2:IntKind.i64.wrap (s + max x 0)=s + max x 0:=wrap_of _ (by omega) (by omega)
        have HE:=hide heq
        clear heq hbel hxd hx hc
        go_wp2
        go_roundw
        case rel=>exact ⟨k + 1,s + max x 0,by omega,by go_num,rfl,by omega,by omega,uh HE,uh HB⟩
        case measure=>simp [intOf];omega
    · have ki1:¬ (k:Int) < (l.length:Int):=by omega
      rw [List.drop_of_length_le (by omega)] at heq
      have HE:=hide heq
      clear heq hbel
      go_wp2
      go_ret
      exact ⟨by rw [← uh HE];rfl,uh HB⟩
theorem prod_step {M p x:Int} (hM:0≤M) (hp:1≤p) (hx:0 < x) (h:¬ M.tdiv x < p):1≤p * x∧p * x≤M:=by
  have hle:p≤M.tdiv x:=by omega
  have h2:M.tdiv x * x≤M:=by
    rw [Int.tdiv_eq_ediv_of_nonneg hM];exact Int.ediv_mul_le M (by omega)
  refine ⟨?_,Int.le_trans (Int.mul_le_mul_of_nonneg_right hle (by omega)) h2⟩
  have:=Int.mul_le_mul hp (show (1:Int)≤x by omega) (by omega) (by omega)
  omega
set_option maxHeartbeats 4000000 in
theorem prod_any (m:Int) (q:Option Addr) (c:Nat) (l:List Int) (w:World) (h:SlOf encI 1 w q c l) (hl:l.length≤1000000000000000000) :
    Calls Tryz.prog 173 #[.int .i64 m,.slice q l.length c] w fun e w'=>e=.returned (.int .i64 (prodB m l))∧Below w.heap.size w w':=by
  have HA:=hide h
  have a0:(l.length:Int)≤1000000000000000000:=by omega
  have hb:=fun w=>bounded_any m w
  have h0:=bnd_ge m
  have h1:=bnd_le m
  have hcn:=containsNone q c l w h hl
  unfold prodB
  obtain ⟨M,hM⟩:∃ M,bnd m=M:=⟨_,rfl⟩
  rw [hM] at hb h0 h1
  rw [hM]
  clear h hM
  cases han:l.any (fun x=>decide (x≤0)) with
  | true =>
    rw [han] at hcn
    simp only [if_true]
    go_enter Tryz.func173,Tryz.ntmps173
    go_wp2_with (first
      | (go_at_call 204;refine (hb _).mono ?_;rintro e w2 ⟨rfl,hw2⟩;subst hw2)
      | (go_at_call 205;refine hcn.mono ?_;rintro e w3 ⟨rfl,b3⟩;have B3:=hide b3;clear b3))
    go_ret
    exact ⟨rfl,uh B3⟩
  | false =>
    rw [han] at hcn
    have hpos:∀ (j:Nat) (x:Int),l[j]? = some x→0 < x:=fun j x hj=>by
      have:=(List.any_eq_false.1 han) x (List.mem_of_getElem? hj)
      simp at this;omega
    have HP:=hide hpos
    clear hpos han
    simp only [Bool.false_eq_true,if_false]
    go_enter Tryz.func173,Tryz.ntmps173
    go_wp2_with (first
      | (go_at_call 204;refine (hb _).mono ?_;rintro e w2 ⟨rfl,hw2⟩;subst hw2)
      | (go_at_call 205;refine hcn.mono ?_;rintro e w3 ⟨rfl,b3⟩;have B3:=hide b3;clear b3))
    clear hcn
    go_loopw [5,14] (fun pv i wr=>∃ (k:Nat) (p:Int),k≤l.length∧i=.int .i64 k∧pv=.int .i64 p∧1≤p∧p≤max M 1∧prodGo M (l.drop k) p=prodGo M l 1∧Below w2.heap.size w2 wr) (fun _ i _=>l.length - (intOf i).toNat)
    case atStart=>exact ⟨0,1,by omega,rfl,rfl,Int.le_refl _,by omega,rfl,uh B3⟩
    case round =>
      obtain ⟨k,p,hk,rfl,rfl,s0,s1,heq,hbel⟩:=hrel
      have HB:=hide hbel
      by_cases hlt:k < l.length
      · obtain ⟨x,hx,hxd⟩:=get_at hlt
        obtain ⟨b,off,hq,hb,hc⟩:=intsAt (uh HA) hx
        subst hq
        have g:=(hbel.cell (p:=⟨b,off + k,none⟩) hb).trans hc
        have ki0:(0:Int)≤(k:Int):=by omega
        have ki1:(k:Int) < (l.length:Int):=by omega
        rw [hxd] at heq
        have x0:=uh HP k x hx
        have xn:¬ x=0:=by omega
        obtain ⟨D,hD⟩:∃ D,M.tdiv x=D:=⟨_,rfl⟩
        have D0:0≤D∧D≤M:=by
          rw [← hD,Int.tdiv_eq_ediv_of_nonneg h0]
          exact ⟨Int.ediv_nonneg h0 (by omega),Int.ediv_le_self x h0⟩
        have w1:IntKind.i64.wrap D=D:=wrap_of _ (by omega) (by omega)
        by_cases hgt:D < p
        · simp only [prodGo,hD,if_pos hgt] at heq
          have w2:IntKind.i64.wrap (M + 1)=M + 1:=wrap_of _ (by omega) (by omega)
          have HE:=hide heq
          clear heq hbel hxd hx hc
          go_wp2
          go_ret
          exact ⟨by rw [← uh HE];rfl,uh HB⟩
        · have hps:=prod_step h0 s0 x0 (by rw [hD];exact hgt)
          simp only [prodGo,hD,if_neg hgt] at heq
          obtain ⟨Z,hZ⟩:∃ Z,p * x=Z:=⟨_,rfl⟩
          rw [hZ] at hps heq
          have w2:IntKind.i64.wrap Z=Z:=wrap_of _ (by omega) (by omega)
          have HE:=hide heq
          clear heq hbel hxd hx hc
          go_wp2
          go_roundw
          case rel=>exact ⟨k + 1,Z,by omega,by go_num,rfl,by omega,by omega,uh HE,uh HB⟩
          case measure=>simp [intOf];omega
      · have ki1:¬ (k:Int) < (l.length:Int):=by omega
        rw [List.drop_of_length_le (by omega)] at heq
        have HE:=hide heq
        clear heq hbel
        go_wp2
        go_ret
        exact ⟨by rw [← uh HE];rfl,uh HB⟩
end Go.Proofs.YtimklglliffpcaaGreat
