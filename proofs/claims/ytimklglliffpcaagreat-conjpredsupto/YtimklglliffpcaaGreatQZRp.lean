/- What the document's Pred answers: the same. -/
import Derived.Test.YtimklglliffpcaaGreatQZab
import Derived.Test.YtimklglliffpcaaGreatQKept
import Derived.Test.YtimklglliffpcaaGreatQZSm
namespace Go.Proofs.YtimklglliffpcaaGreat
open Go.RowKit
set_option maxHeartbeats 1000000 in
theorem tq (n:Int) (w:World):Calls Tryz.prog 108 #[.int .i64 n] w fun e w'=>e=.returned (.bool (ki n))/\w'=w:=by
 by_cases h1:-2147483648<=n <;> by_cases h2:n<=2147483647
 all_goals
  go_enter Tryz.func108,Tryz.ntmps108
  go_wp2
  go_ret
  exact ⟨jb (by simp [ki,h1,h2]),rfl⟩
/-- What is asked of the lists' lengths and of the bounds. -/
def mz (kind:Int) (ni nw:Nat) (lo hi:Int):Bool :=
 if kind=1 then decide (1<=ni) && (decide (ni<=64) && (decide (nw=0) && (decide (lo=0) && decide (hi=0))))
 else if kind=2 then decide (1<=nw) && (decide (nw<=64) && (decide (ni=0) && (decide (lo=0) && decide (hi=0))))
 else if kind=3 then decide (ni=0) && (decide (nw=0) && (ki lo && ki hi))
 else if kind=4 then decide (nw=1) && (decide (ni=0) && (decide (lo=0) && decide (hi=0)))
 else false
theorem vq {α:Type} {ok:α->Bool} {l:List α} (h:l.length=0):l.all ok=true:=by
 rw [List.length_eq_zero_iff.1 h];rfl
/-- The two ways of asking are one. -/
theorem zaq (kind:Int) (attr:ByteArray) (ints:List Int) (words:List ByteArray) (lo hi:Int) :
  kg kind attr ints words lo hi=(ko attr && (ints.all ki && (words.all jp && mz kind ints.length words.length lo hi))):=by
 unfold kg mz p9 l8
 cases ko attr
 ·rfl
 ·simp only [Bool.true_and]
  by_cases k1:kind=1
  ·simp only [if_pos k1]
   by_cases h0:words.length=0
   ·rw [vq (ok:=jp) h0,(decide_eq_decide.2 (by omega):decide ((ints.length:Int)<=64)=decide (ints.length<=64))]
    cases ints.all ki <;> simp [h0,Bool.and_assoc]
   ·cases ints.all ki <;> cases words.all jp <;> simp [h0]
  ·simp only [if_neg k1]
   by_cases k2:kind=2
   ·simp only [if_pos k2]
    by_cases h0:ints.length=0
    ·rw [vq (ok:=ki) h0,(decide_eq_decide.2 (by omega):decide ((words.length:Int)<=64)=decide (words.length<=64))]
     cases words.all jp <;> simp [h0,Bool.and_assoc]
    ·cases ints.all ki <;> cases words.all jp <;> simp [h0]
   ·simp only [if_neg k2]
    by_cases k3:kind=3
    ·simp only [if_pos k3]
     by_cases h0:ints.length=0
     ·by_cases h1:words.length=0
      ·rw [vq (ok:=ki) h0,vq (ok:=jp) h1];simp [h0,h1]
      ·cases ints.all ki <;> cases words.all jp <;> simp [h0,h1]
     ·cases ints.all ki <;> cases words.all jp <;> simp [h0]
    ·simp only [if_neg k3]
     by_cases k4:kind=4
     ·simp only [if_pos k4]
      by_cases h0:ints.length=0
      ·rw [vq (ok:=ki) h0]
       by_cases h1:words.length=1
       ·cases words.all jp <;> simp [h0,h1]
       ·have h2:¬ (1<=words.length/\(words.length:Int)<=1):=by omega
        cases words.all jp
        ·simp
        ·simp only [Bool.true_and,h1,decide_false,Bool.false_and]
         cases h3:decide (1<=words.length) && decide ((words.length:Int)<=1)
         ·rfl
         ·simp only [Bool.and_eq_true,decide_eq_true_eq] at h3;exact absurd h3 h2
      ·cases ints.all ki <;> cases words.all jp <;> simp [h0]
     ·simp [if_neg k4]
theorem Mf {α:Type} {ok:α->Bool} {l:List α} {k:Nat} {x:α} (hx:l[k]? = some x) (h:ok x=false):l.all ok=false:=by
 rw [List.all_eq_false];exact ⟨x,List.mem_of_getElem? hx,by simp [h]⟩
theorem Hr {α:Type} {ok:α->Bool} {l:List α} (h:∀ (j:Nat) (x:α),j < l.length->l[j]? = some x->ok x=true):l.all ok=true:=by
 rw [List.all_eq_true];intro x hx
 obtain ⟨j,hj⟩:=List.getElem?_of_mem hx
 exact h j x (List.getElem?_eq_some_iff.1 hj).1 hj
set_option maxHeartbeats 1000000 in
theorem Ay (kind:Int) (attr:ByteArray) (qi:Option Addr) (ni ci:Nat) (qw:Option Addr) (nw cw:Nat) (lo hi:Int) (w:World) (hn:ko attr=false) :
  Calls Tryz.prog 51 #[.agg #[.int .i64 kind,.string attr,.slice qi ni ci,.slice qw nw cw,.int .i64 lo,.int .i64 hi]] w fun e w'=>e=.returned (.bool false)/\Below w.heap.size w w':=by
 have hnm:=fun w=>yy attr w
 rw [hn] at hnm
 clear hn
 go_enter Tryz.func51,Tryz.ntmps51
 go_wp2_with (go_at_call 107;refine (hnm _).mono ?_;rintro e w' ⟨rfl,hw⟩;obtain rfl:=hw.symm;clear hw)
 go_ret
 exact ⟨rfl,(Below.refl _ _).alloc (Nat.le_refl _) _⟩
set_option maxRecDepth 100000 in
set_option maxHeartbeats 8000000 in
theorem D9 (kind:Int) (attr:ByteArray) (qi:Option Addr) (ci:Nat) (ints:List Int) (qw:Option Addr) (cw:Nat) (words:List ByteArray) (lo hi:Int) (w:World) (h1:SlOf jq 1 w qi ci ints) (h2:SlOf jy 1 w qw cw words) (l1:ints.length<=100000000000000) (l2:words.length<=100000000000000) (hn:ko attr=true) :
  Calls Tryz.prog 51 #[.agg #[.int .i64 kind,.string attr,.slice qi ints.length ci,.slice qw words.length cw,.int .i64 lo,.int .i64 hi]] w fun e w'=>e=.returned (.bool (ints.all ki && (words.all jp && mz kind ints.length words.length lo hi)))/\Below w.heap.size w w':=by
 have hnm:=fun w=>yy attr w
 rw [hn] at hnm
 obtain ⟨X,HX⟩:∃ X,w.alloc (.cells #[.int .i64 kind,.string attr,.slice qi ints.length ci,.slice qw words.length cw,.int .i64 lo,.int .i64 hi] 26)=X:=⟨_,rfl⟩
 have hX0:X.heap[w.heap.size]? = some (.cells #[.int .i64 kind,.string attr,.slice qi ints.length ci,.slice qw words.length cw,.int .i64 lo,.int .i64 hi] 26 (0,0)):=by rw [<- HX];exact jf _ _
 have hwX:Below w.heap.size w X:=by rw [<- HX];exact (Below.refl _ _).alloc (Nat.le_refl _) _
 obtain ⟨x0,x1,x2,x3,x4,x5⟩:=kx hX0
 have HWX:=d9 hwX
 have H1:=d9 (h1.below hwX)
 have H2:=d9 (h2.below hwX)
 have a1:(ints.length:Int)<=100000000000000:=by omega
 have a2:(words.length:Int)<=100000000000000:=by omega
 obtain ⟨R,HR⟩:∃ R,(ints.all ki && (words.all jp && mz kind ints.length words.length lo hi))=R:=⟨_,rfl⟩
 rw [HR]
 have HRR:=d9 HR
 clear h1 h2 hn hwX hX0 HR
 go_enter Tryz.func51,Tryz.ntmps51
 go_wp2_with (go_at_call 107;refine (hnm _).mono ?_;rintro e w' ⟨rfl,hw⟩;obtain rfl:=hw.symm;clear hw)
 clear hnm
 go_loopw [3] (fun i wr=>∃ k:Nat,k<=ints.length/\i=.int .i64 k/\(∀ (j:Nat) (x:Int),j < k->ints[j]? = some x->ki x=true)/\Hid (wr=X)) (fun i _=>ints.length - (intOf i).toNat)
 case atStart=>exact ⟨0,by omega,rfl,fun j x h=>absurd h (by omega),d9 rfl⟩
 case round =>
  obtain ⟨k,hk,rfl,hall,hwr⟩:=hrel
  obtain rfl:=(uh hwr).symm
  clear hwr
  by_cases hlt:k < ints.length
  ·obtain ⟨x,hx,_⟩:=je hlt
   obtain ⟨b,off,hq,_,g⟩:=mh (uh H1) hx
   subst hq
   have ki0:(0:Int)<=(k:Int):=by omega
   have ki1:(k:Int) < (ints.length:Int):=by omega
   have hnu:=fun w=>tq x w
   cases hok:ki x with
   | true =>
    rw [hok] at hnu
    have HN:=d9 (show ∀ (j:Nat) (y:Int),j < k + 1->ints[j]? = some y->ki y=true from fun j y hj hy=>by
     by_cases e:j=k
     ·subst e;rw [hx] at hy;cases hy;exact hok
     ·exact hall j y (by omega) hy)
    clear hall hx hok
    go_wp2_with (go_at_call 108;refine (hnu _).mono ?_;rintro e w' ⟨rfl,hw⟩;obtain rfl:=hw.symm;clear hw)
    go_roundw
    case rel=>exact ⟨k + 1,by omega,by go_num,uh HN,d9 trivial⟩
    case measure=>simp [intOf];omega
   | false =>
    rw [hok] at hnu
    have HN:=d9 (Mf hx hok)
    clear hall hx hok
    go_wp2_with (go_at_call 108;refine (hnu _).mono ?_;rintro e w' ⟨rfl,hw⟩;obtain rfl:=hw.symm;clear hw)
    go_ret
    exact ⟨jb (by rw [<- uh HRR,uh HN];rfl),uh HWX⟩
  ·have ki1:¬ (k:Int) < (ints.length:Int):=by omega
   have HI:=d9 (Hr (ok:=ki) (l:=ints) (fun j x hj hx=>hall j x (by omega) hx))
   clear hall
   go_wp2
   go_loopw [4] (fun i wr=>∃ m:Nat,m<=words.length/\i=.int .i64 m/\(∀ (j:Nat) (x:ByteArray),j < m->words[j]? = some x->jp x=true)/\Hid (wr=X)) (fun i _=>words.length - (intOf i).toNat)
   case atStart=>exact ⟨0,by omega,rfl,fun j x h=>absurd h (by omega),d9 rfl⟩
   case round =>
    obtain ⟨m,hm,rfl,hall,hwr⟩:=hrel
    obtain rfl:=(uh hwr).symm
    clear hwr
    by_cases hlt2:m < words.length
    ·obtain ⟨x,hx,_⟩:=je hlt2
     obtain ⟨b,off,hq,_,g⟩:=j6 (uh H2) hx
     subst hq
     have mi0:(0:Int)<=(m:Int):=by omega
     have mi1:(m:Int) < (words.length:Int):=by omega
     by_cases hok:x.size<=64
     ·have HN:=d9 (show ∀ (j:Nat) (y:ByteArray),j < m + 1->words[j]? = some y->jp y=true from fun j y hj hy=>by
       by_cases e:j=m
       ·subst e;rw [hx] at hy;cases hy;simp [jp,hok]
       ·exact hall j y (by omega) hy)
      have e1:¬ (64:Int) < (x.size:Int):=by omega
      clear hall hx
      go_wp2
      go_roundw
      case rel=>exact ⟨m + 1,by omega,by go_num,uh HN,d9 trivial⟩
      case measure=>simp [intOf];omega
     ·have HN:=d9 (Mf (ok:=jp) hx (by simp [jp,hok]))
      have e1:(64:Int) < (x.size:Int):=by omega
      clear hall hx
      go_wp2
      go_ret
      exact ⟨jb (by rw [<- uh HRR,uh HN,Bool.false_and,Bool.and_false]),uh HWX⟩
    ·have mi1:¬ (m:Int) < (words.length:Int):=by omega
     have HW2:=d9 (Hr (ok:=jp) (l:=words) (fun j x hj hx=>hall j x (by omega) hx))
     have HT:=d9 (show mz kind ints.length words.length lo hi=R by rw [<- uh HRR,uh HI,uh HW2];rfl)
     clear hall
     go_wp2
     go_region_held3 (fun w'=>w'.cell? ⟨w.heap.size,2,none⟩=some (.slice qi ints.length ci)/\w'.cell? ⟨w.heap.size,3,none⟩=some (.slice qw words.length cw)) (go_keep) (fail)
     all_goals
      by_cases k1:kind=1
      ·subst k1
       by_cases p0:1<=ints.length
       ·have d0:decide (1<=ints.length)=true:=by simpa using p0
        have f0:decide ((1:Int)<=(ints.length:Int))=true:=by rw [decide_eq_true_eq];omega
        by_cases p1:ints.length<=64
        ·have d1:decide (ints.length<=64)=true:=by simpa using p1
         have f1:decide ((ints.length:Int)<=64)=true:=by rw [decide_eq_true_eq];omega
         by_cases p2:words.length=0
         ·have d2:((words.length:Int) == 0)=true:=by rw [beq_iff_eq];omega
          by_cases p3:lo=0
          ·have d3:(lo == 0)=true:=by simpa using p3
           by_cases p4:hi=0
           ·have d4:(hi == 0)=true:=by simpa using p4
            go_wp2
            go_ret
            exact ⟨jb (by rw [<- uh HT];simp [mz,p0,p1,p2,p3,p4]),(uh HWX).drew⟩
           ·have d4:(hi == 0)=false:=by simpa using p4
            go_wp2
            go_ret
            exact ⟨jb (by rw [<- uh HT];simp [mz,p0,p1,p2,p3,p4]),(uh HWX).drew⟩
          ·have d3:(lo == 0)=false:=by simpa using p3
           go_wp2
           go_ret
           exact ⟨jb (by rw [<- uh HT];simp [mz,p0,p1,p2,p3]),(uh HWX).drew⟩
         ·have d2:((words.length:Int) == 0)=false:=by rw [beq_eq_false_iff_ne];omega
          go_wp2
          go_ret
          exact ⟨jb (by rw [<- uh HT];simp [mz,p0,p1,p2]),(uh HWX).drew⟩
        ·have d1:decide (ints.length<=64)=false:=by simpa using p1
         have f1:decide ((ints.length:Int)<=64)=false:=by rw [decide_eq_false_iff_not];omega
         go_wp2
         go_ret
         exact ⟨jb (by rw [<- uh HT];simp [mz,p0,p1]),(uh HWX).drew⟩
       ·have d0:decide (1<=ints.length)=false:=by simpa using p0
        have f0:decide ((1:Int)<=(ints.length:Int))=false:=by rw [decide_eq_false_iff_not];omega
        go_wp2
        go_ret
        exact ⟨jb (by rw [<- uh HT];simp [mz,p0]),(uh HWX).drew⟩
      have q1:(kind == 1)=false:=by simpa using k1
      by_cases k2:kind=2
      ·subst k2
       by_cases p0:1<=words.length
       ·have d0:decide (1<=words.length)=true:=by simpa using p0
        have f0:decide ((1:Int)<=(words.length:Int))=true:=by rw [decide_eq_true_eq];omega
        by_cases p1:words.length<=64
        ·have d1:decide (words.length<=64)=true:=by simpa using p1
         have f1:decide ((words.length:Int)<=64)=true:=by rw [decide_eq_true_eq];omega
         by_cases p2:ints.length=0
         ·have d2:((ints.length:Int) == 0)=true:=by rw [beq_iff_eq];omega
          by_cases p3:lo=0
          ·have d3:(lo == 0)=true:=by simpa using p3
           by_cases p4:hi=0
           ·have d4:(hi == 0)=true:=by simpa using p4
            go_wp2
            go_ret
            exact ⟨jb (by rw [<- uh HT];simp [mz,p0,p1,p2,p3,p4]),(uh HWX).drew⟩
           ·have d4:(hi == 0)=false:=by simpa using p4
            go_wp2
            go_ret
            exact ⟨jb (by rw [<- uh HT];simp [mz,p0,p1,p2,p3,p4]),(uh HWX).drew⟩
          ·have d3:(lo == 0)=false:=by simpa using p3
           go_wp2
           go_ret
           exact ⟨jb (by rw [<- uh HT];simp [mz,p0,p1,p2,p3]),(uh HWX).drew⟩
         ·have d2:((ints.length:Int) == 0)=false:=by rw [beq_eq_false_iff_ne];omega
          go_wp2
          go_ret
          exact ⟨jb (by rw [<- uh HT];simp [mz,p0,p1,p2]),(uh HWX).drew⟩
        ·have d1:decide (words.length<=64)=false:=by simpa using p1
         have f1:decide ((words.length:Int)<=64)=false:=by rw [decide_eq_false_iff_not];omega
         go_wp2
         go_ret
         exact ⟨jb (by rw [<- uh HT];simp [mz,p0,p1]),(uh HWX).drew⟩
       ·have d0:decide (1<=words.length)=false:=by simpa using p0
        have f0:decide ((1:Int)<=(words.length:Int))=false:=by rw [decide_eq_false_iff_not];omega
        go_wp2
        go_ret
        exact ⟨jb (by rw [<- uh HT];simp [mz,p0]),(uh HWX).drew⟩
      have q2:(kind == 2)=false:=by simpa using k2
      by_cases k3:kind=3
      ·subst k3
       by_cases p0:ints.length=0
       ·have d0:((ints.length:Int) == 0)=true:=by rw [beq_iff_eq];omega
        by_cases p1:words.length=0
        ·have d1:((words.length:Int) == 0)=true:=by rw [beq_iff_eq];omega
         by_cases p2:ki lo=true
         ·by_cases p3:ki hi=true
          ·go_wp2_with (go_at_call 108;refine (tq _ _).mono ?_;rintro e w' ⟨rfl,hw⟩;obtain rfl:=hw.symm;clear hw)
           go_ret
           exact ⟨jb (by rw [<- uh HT];simp [mz,p0,p1,p2,p3]),(uh HWX).drew⟩
          ·have d3:ki hi=false:=by simpa using p3
           go_wp2_with (go_at_call 108;refine (tq _ _).mono ?_;rintro e w' ⟨rfl,hw⟩;obtain rfl:=hw.symm;clear hw)
           go_ret
           exact ⟨jb (by rw [<- uh HT];simp [mz,p0,p1,p2,p3]),(uh HWX).drew⟩
         ·have d2:ki lo=false:=by simpa using p2
          go_wp2_with (go_at_call 108;refine (tq _ _).mono ?_;rintro e w' ⟨rfl,hw⟩;obtain rfl:=hw.symm;clear hw)
          go_ret
          exact ⟨jb (by rw [<- uh HT];simp [mz,p0,p1,p2]),(uh HWX).drew⟩
        ·have d1:((words.length:Int) == 0)=false:=by rw [beq_eq_false_iff_ne];omega
         go_wp2
         go_ret
         exact ⟨jb (by rw [<- uh HT];simp [mz,p0,p1]),(uh HWX).drew⟩
       ·have d0:((ints.length:Int) == 0)=false:=by rw [beq_eq_false_iff_ne];omega
        go_wp2
        go_ret
        exact ⟨jb (by rw [<- uh HT];simp [mz,p0]),(uh HWX).drew⟩
      have q3:(kind == 3)=false:=by simpa using k3
      by_cases k4:kind=4
      ·subst k4
       by_cases p0:words.length=1
       ·have d0:((words.length:Int) == 1)=true:=by rw [beq_iff_eq];omega
        by_cases p1:ints.length=0
        ·have d1:((ints.length:Int) == 0)=true:=by rw [beq_iff_eq];omega
         by_cases p2:lo=0
         ·have d2:(lo == 0)=true:=by simpa using p2
          by_cases p3:hi=0
          ·have d3:(hi == 0)=true:=by simpa using p3
           go_wp2
           go_ret
           exact ⟨jb (by rw [<- uh HT];simp [mz,p0,p1,p2,p3]),(uh HWX).drew⟩
          ·have d3:(hi == 0)=false:=by simpa using p3
           go_wp2
           go_ret
           exact ⟨jb (by rw [<- uh HT];simp [mz,p0,p1,p2,p3]),(uh HWX).drew⟩
         ·have d2:(lo == 0)=false:=by simpa using p2
          go_wp2
          go_ret
          exact ⟨jb (by rw [<- uh HT];simp [mz,p0,p1,p2]),(uh HWX).drew⟩
        ·have d1:((ints.length:Int) == 0)=false:=by rw [beq_eq_false_iff_ne];omega
         go_wp2
         go_ret
         exact ⟨jb (by rw [<- uh HT];simp [mz,p0,p1]),(uh HWX).drew⟩
       ·have d0:((words.length:Int) == 1)=false:=by rw [beq_eq_false_iff_ne];omega
        go_wp2
        go_ret
        exact ⟨jb (by rw [<- uh HT];simp [mz,p0]),(uh HWX).drew⟩
      have q4:(kind == 4)=false:=by simpa using k4
      go_wp2
      go_ret
      exact ⟨jb (by rw [<- uh HT];simp [mz,k1,k2,k3,k4]),(uh HWX).drew⟩
theorem mv (kind:Int) (attr:ByteArray) (qi:Option Addr) (ci:Nat) (ints:List Int) (qw:Option Addr) (cw:Nat) (words:List ByteArray) (lo hi:Int) (w:World) (h1:SlOf jq 1 w qi ci ints) (h2:SlOf jy 1 w qw cw words) (l1:ints.length<=100000000000000) (l2:words.length<=100000000000000) :
  Calls Tryz.prog 51 #[.agg #[.int .i64 kind,.string attr,.slice qi ints.length ci,.slice qw words.length cw,.int .i64 lo,.int .i64 hi]] w fun e w'=>e=.returned (.bool (kg kind attr ints words lo hi))/\Below w.heap.size w w':=by
 rw [zaq]
 cases hn:ko attr with
 | false=>exact Ay kind attr qi _ ci qw _ cw lo hi w hn
 | true=>rw [Bool.true_and];exact D9 kind attr qi ci ints qw cw words lo hi w h1 h2 l1 l2 hn
end Go.Proofs.YtimklglliffpcaaGreat
namespace Go.Proofs.YtimklglliffpcaaGreat
open Go.RowKit Go.Sort Go.Shelf
theorem zcs (u:Pv) (p:Pd) (w:World) (hu:PdIn w u p) (hs:p.small):Calls Tryz.prog 51 #[.agg #[.int .i64 u.kind,.string u.attr,.slice u.qi u.ni u.ci,.slice u.qw u.nw u.cw,.int .i64 u.lo,.int .i64 u.hi]] w fun e w'=>e=.returned (.bool p.ok)/\Below w.heap.size w w':=by
 obtain ⟨hk,ha,hi,hw,hl,hh,s1,s2⟩:=hu
 rw [hk,ha,hi,hw,hl,hh]
 exact mv p.kind p.attr u.qi u.ci p.ints u.qw u.cw p.words p.lo p.hi w s1 s2 hs.1 hs.2
end Go.Proofs.YtimklglliffpcaaGreat
