/- The orders of numbers and words, told by -1, 0, 1. -/
import Derived.Test.YtimklglliffpcaaGreatQZaa
import Derived.RangeFuncNested
import Derived.RangeFuncBound
import Derived.RangeFuncCalls
import Derived.RangeFuncLeaves
import Derived.RangeFuncBox
import Derived.Shelf.Abstract
import Derived.OwnWalkIn
import Derived.TacticsInMore
import Derived.LoopNIn
import Derived.LoopIn
import Derived.Lib.SlicesCompact
import Derived.Sort.Walk0
import Derived.Test.YtimklglliffpcaaGreatQSh
import Derived.Lib.OwnBridge
import Derived.Lib.SliceRun
namespace Go.Proofs.YtimklglliffpcaaGreat
/-- A total order, told by -1, 0, 1. -/
structure IsCmp {α:Type} (c:α->α->Int):Prop where
  rng:∀ a b,c a b=-1 ∨ c a b=0 ∨ c a b=1
  neg:∀ a b,c b a=- c a b
  eq:∀ a b,c a b=0 ↔ a=b
  trans:∀ a b d,c a b<=0->c b d<=0->c a d<=0
theorem kh:IsCmp kc where
 rng a b:=by unfold kc;split;simp;split <;> simp
 neg a b:=by unfold kc;split <;> split <;> (try split) <;> omega
 eq a b:=by unfold kc;split <;> (try split) <;> (constructor <;> intro h <;> omega)
 trans a b d:=by unfold kc;intro h1 h2;split <;> (try split) <;> (split at h1 <;> (try split at h1) <;> split at h2 <;> (try split at h2) <;> omega)
theorem nt:∀ l:List UInt8,Op.bytesLess l l=false
  | []=>rfl
  | c :: l=>by simp [Op.bytesLess,nt l]
theorem xb:∀ l m:List UInt8,Op.bytesLess l m=true->Op.bytesLess m l=false
  | _,[]=>by simp [Op.bytesLess]
  | [],_ :: _=>by simp [Op.bytesLess]
  | a :: x,b :: y=>by
    have ih:=xb x y
    simp only [Op.bytesLess,Bool.or_eq_true,Bool.and_eq_true,decide_eq_true_eq,beq_iff_eq,Bool.or_eq_false_iff,decide_eq_false_iff_not,Bool.and_eq_false_iff,beq_eq_false_iff_ne]
    rintro (h | ⟨rfl,h⟩)
    · refine ⟨fun h2=>?_,Or.inl fun h2=>?_⟩
      · exact absurd (UInt8.lt_trans h h2) (UInt8.lt_irrefl _)
      · subst h2;exact absurd h (UInt8.lt_irrefl _)
    · exact ⟨UInt8.lt_irrefl _,Or.inr (ih h)⟩
theorem q6:∀ l m:List UInt8,Op.bytesLess l m=false->l ≠ m->Op.bytesLess m l=true
  | [],[]=>by simp
  | _ :: _,[]=>by simp [Op.bytesLess]
  | [],_ :: _=>by simp [Op.bytesLess]
  | a :: x,b :: y=>by
    have ih:=q6 x y
    simp only [Op.bytesLess,Bool.or_eq_true,Bool.and_eq_true,decide_eq_true_eq,beq_iff_eq,Bool.or_eq_false_iff,decide_eq_false_iff_not,Bool.and_eq_false_iff,beq_eq_false_iff_ne]
    rintro ⟨h1,h2⟩ h3
    by_cases e:a=b
    · subst e
      refine Or.inr ⟨rfl,ih ?_ fun h=>h3 (by rw [h])⟩
      rcases h2 with h2 | h2
      · exact absurd rfl h2
      · exact h2
    · left
      rw [UInt8.lt_iff_toNat_lt] at h1 ⊢
      have:a.toNat ≠ b.toNat:=fun h=>e (UInt8.toNat_inj.1 h)
      omega
theorem xh:∀ l m n:List UInt8,Op.bytesLess l m=true->Op.bytesLess m n=true->Op.bytesLess l n=true
  | _,_,[]=>by simp [Op.bytesLess]
  | _,[],_ :: _=>by intro h;simp [Op.bytesLess] at h
  | [],_ :: _,_ :: _=>by simp [Op.bytesLess]
  | a :: x,b :: y,c :: z=>by
    have ih:=xh x y z
    simp only [Op.bytesLess,Bool.or_eq_true,Bool.and_eq_true,decide_eq_true_eq,beq_iff_eq]
    rintro (h1 | ⟨rfl,h1⟩) (h2 | ⟨rfl,h2⟩)
    · exact Or.inl (UInt8.lt_trans h1 h2)
    · exact Or.inl h1
    · exact Or.inl h2
    · exact Or.inr ⟨rfl,ih h1 h2⟩
theorem nj (a b:List UInt8):(Op.bytesLess a b=true/\ri a b=-1) ∨ (a=b/\ri a b=0) ∨ (Op.bytesLess b a=true/\ri a b=1):=by
 cases h:Op.bytesLess a b
 ·by_cases e:a=b
  ·subst e;exact Or.inr (Or.inl ⟨rfl,by unfold ri;rw [if_neg (by simp [h]),if_pos (by simp)]⟩)
  ·exact Or.inr (Or.inr ⟨q6 a b h e,by unfold ri;rw [if_neg (by simp [h]),if_neg (by simpa using e)]⟩)
 ·exact Or.inl ⟨rfl,qy h⟩
theorem Kq {a b:List UInt8} (h:Op.bytesLess b a=true):ri a b=1:=by
 rcases nj a b with ⟨h1,_⟩ | ⟨rfl,_⟩ | ⟨_,h2⟩
 ·rw [xb _ _ h] at h1;simp at h1
 ·rw [nt] at h;simp at h
 ·exact h2
theorem Mr (a:List UInt8):ri a a=0:=by
 unfold ri;rw [if_neg (by simp [nt]),if_pos (by simp)]
theorem isCmp_str:IsCmp ri where
 rng a b:=by rcases nj a b with ⟨_,h⟩ | ⟨_,h⟩ | ⟨_,h⟩ <;> simp [h]
 neg a b:=by
  rcases nj a b with ⟨h1,h⟩ | ⟨rfl,h⟩ | ⟨h1,h⟩
  ·rw [Kq h1,h];rfl
  ·rw [h];rfl
  ·rw [qy h1,h]
 eq a b:=by
  rcases nj a b with ⟨h1,h⟩ | ⟨rfl,h⟩ | ⟨h1,h⟩
  ·rw [h];refine ⟨fun h=>by omega,fun e=>?_⟩;subst e;rw [nt] at h1;simp at h1
  ·simp [h]
  ·rw [h];refine ⟨fun h=>by omega,fun e=>?_⟩;subst e;rw [nt] at h1;simp at h1
 trans a b d h1 h2:=by
  rcases nj a b with ⟨h,e⟩ | ⟨rfl,_⟩ | ⟨_,e⟩
  ·rcases nj b d with ⟨h',e'⟩ | ⟨rfl,_⟩ | ⟨_,e'⟩
   ·rw [qy (xh _ _ _ h h')];omega
   ·exact h1
   ·omega
  ·exact h2
  ·omega
/-- First by the one, then by the other. -/
theorem rc {α β:Type} {c:α->α->Int} {d:β->β->Int} (hc:IsCmp c) (hd:IsCmp d):IsCmp (fun (p q:α × β)=>if c p.1 q.1=0 then d p.2 q.2 else c p.1 q.1) where
  rng p q:=by split;exact hd.rng _ _;exact hc.rng _ _
  neg p q:=by
    have h1:=hc.neg p.1 q.1
    have h2:=hd.neg p.2 q.2
    by_cases e:c p.1 q.1=0
    · rw [if_pos e,if_pos (by omega),h2]
    · rw [if_neg e,if_neg (by omega),h1]
  eq p q:=by
    by_cases e:c p.1 q.1=0
    · rw [if_pos e,hd.eq]
      exact ⟨fun h=>Prod.ext ((hc.eq _ _).1 e) h,fun h=>by rw [h]⟩
    · rw [if_neg e]
      exact ⟨fun h=>absurd h e,fun h=>absurd ((hc.eq _ _).2 (by rw [h])) e⟩
  trans p q r:=by
    intro h1 h2
    by_cases e1:c p.1 q.1=0
    · rw [if_pos e1] at h1
      rw [(hc.eq _ _).1 e1]
      by_cases e2:c q.1 r.1=0
      · rw [if_pos e2] at h2 ⊢;exact hd.trans _ _ _ h1 h2
      · rw [if_neg e2] at h2 ⊢;exact h2
    · rw [if_neg e1] at h1
      by_cases e2:c q.1 r.1=0
      · rw [<- (hc.eq _ _).1 e2,if_neg e1];exact h1
      · rw [if_neg e2] at h2
        have h3:=hc.trans _ _ _ h1 h2
        by_cases e3:c p.1 r.1=0
        · exfalso
          have h4:=(hc.eq _ _).1 e3
          have h5:=hc.neg p.1 q.1
          rw [h4] at h5 h1 e1
          rcases hc.rng r.1 q.1 with h6 | h6 | h6 <;> omega
        · rw [if_neg e3];exact h3
/-- A key. -/
theorem Dq {a b:ByteArray} (h:a.data.toList=b.data.toList):a=b:=by
  obtain ⟨a⟩:=a
  obtain ⟨b⟩:=b
  congr 1
  exact Array.toList_inj.1 h
end Go.Proofs.YtimklglliffpcaaGreat
namespace Go.Proofs.YtimklglliffpcaaGreat
open Go.RowKit
def ki (n:Int):Bool:=decide (-2147483648<=n) && decide (n<=2147483647)
def jp (s:ByteArray):Bool:=decide (s.size<=64)
theorem Xs (n:Int):rx 1 n ⟨#[]⟩=if ki n then 0 else 1:=by
 cases h:ki n with
 | true =>
  unfold ki at h
  simp only [Bool.and_eq_true,decide_eq_true_eq] at h
  rw [if_pos rfl];exact Ce rfl h.1 h.2 ((nx _).2 rfl)
 | false =>
  unfold ki at h
  rw [if_neg (by simp)]
  refine va rfl fun h2=>?_
  simp only [Bool.and_eq_false_iff,decide_eq_false_iff_not] at h
  omega
theorem Ty (s:ByteArray):rx 2 0 s=if jp s then 0 else 1:=by
 cases h:jp s with
 | true =>
  unfold jp at h
  simp only [decide_eq_true_eq] at h
  rw [if_pos rfl];exact Cc rfl rfl (by omega)
 | false =>
  unfold jp at h
  rw [if_neg (by simp)]
  refine xu rfl fun h2=>?_
  simp only [decide_eq_false_iff_not] at h
  omega
set_option maxHeartbeats 400000 in
theorem Ld (n:Int) (w:World):Calls Tryz.prog 156 #[.int .i64 n] w fun e w'=>e=.returned (.agg #[.int .i64 1,.int .i64 n,.string ⟨#[]⟩])/\Below w.heap.size w w':=by
 go_enter Tryz.func156,Tryz.ntmps156
 go_wp2
 refine bodyPost_ret (v:=.agg #[.int .i64 1,.int .i64 n,.string ⟨#[]⟩]) (by simp [results,Tryz.results156,go_sem]) rfl ⟨rfl, ?_⟩
 exact (Below.refl _ _).alloc (Nat.le_refl _) _
set_option maxHeartbeats 400000 in
theorem Q6 (s:ByteArray) (w:World):Calls Tryz.prog 157 #[.string s] w fun e w'=>e=.returned (.agg #[.int .i64 2,.int .i64 0,.string s])/\Below w.heap.size w w':=by
 go_enter Tryz.func157,Tryz.ntmps157
 go_wp2
 refine bodyPost_ret (v:=.agg #[.int .i64 2,.int .i64 0,.string s]) (by simp [results,Tryz.results157,go_sem]) rfl ⟨rfl, ?_⟩
 exact (Below.refl _ _).alloc (Nat.le_refl _) _
set_option maxHeartbeats 400000 in
theorem tb (n:Int) (w:World):Calls Tryz.prog 112 #[.int .i64 n] w fun e w'=>e=.returned (.bool (ki n))/\Below w.heap.size w w':=by
 have hc:=fun w=>lh 1 n ⟨#[]⟩ w
 rw [Xs] at hc
 cases h:ki n
 all_goals
  simp only [h,if_true,Bool.false_eq_true,if_false] at hc
  clear h
  go_enter Tryz.func112,Tryz.ntmps112
  go_wp2_with (first
   | (go_at_call 156;refine (Ld n _).mono ?_;rintro e w1 ⟨rfl,b1⟩)
   | (go_at_call 87;refine (hc _).mono ?_;rintro e w2 ⟨rfl,b2⟩))
  go_ret
  exact ⟨rfl,d8 b1 b2⟩
set_option maxHeartbeats 400000 in
theorem Kr (s:ByteArray) (w:World):Calls Tryz.prog 114 #[.string s] w fun e w'=>e=.returned (.bool (jp s))/\Below w.heap.size w w':=by
 have hc:=fun w=>lh 2 0 s w
 rw [Ty] at hc
 cases h:jp s
 all_goals
  simp only [h,if_true,Bool.false_eq_true,if_false] at hc
  clear h
  go_enter Tryz.func114,Tryz.ntmps114
  go_wp2_with (first
   | (go_at_call 157;refine (Q6 s _).mono ?_;rintro e w1 ⟨rfl,b1⟩)
   | (go_at_call 87;refine (hc _).mono ?_;rintro e w2 ⟨rfl,b2⟩))
  go_ret
  exact ⟨rfl,d8 b1 b2⟩
/-- One member at least, no more than m, and each good. -/
def p9 {α:Type} (ok:α->Bool) (l:List α) (m:Int):Bool:=l.all ok && (decide (1<=l.length) && decide ((l.length:Int)<=m))
theorem V0 {α:Type} {ok:α->Bool} {l:List α} {k:Nat} {x:α} (hx:l[k]? = some x) (h:ok x=false) (m:Int):p9 ok l m=false:=by
 unfold p9
 have:l.all ok=false:=by
  rw [List.all_eq_false];exact ⟨x,List.mem_of_getElem? hx,by simp [h]⟩
 rw [this];rfl
theorem Mp {α:Type} {ok:α->Bool} {l:List α} (h:∀ (j:Nat) (x:α),j < l.length->l[j]? = some x->ok x=true) (m:Int):p9 ok l m=(decide (1<=l.length) && decide ((l.length:Int)<=m)):=by
 unfold p9
 have:l.all ok=true:=by
  rw [List.all_eq_true];intro x hx
  obtain ⟨j,hj⟩:=List.getElem?_of_mem hx
  exact h j x (List.getElem?_eq_some_iff.1 hj).1 hj
 rw [this];rfl
set_option maxHeartbeats 1000000 in
theorem T8 (q:Option Addr) (c:Nat) (l:List Int) (m:Int) (w:World) (h:SlOf jq 1 w q c l) (hl:l.length<=1000000000000000000) :
  Calls Tryz.prog 111 #[.slice q l.length c,.int .i64 m,.func (.func 112) #[] #[]] w fun e w'=>e=.returned (.bool (p9 ki l m))/\Below w.heap.size w w':=by
 have HA:=d9 h
 have a0:(l.length:Int)<=1000000000000000000:=by omega
 clear h
 go_enter Tryz.func111,Tryz.ntmps111
 go_wp2
 go_loopw [11] (fun i wr=>∃ k:Nat,k<=l.length/\i=.int .i64 k/\(∀ (j:Nat) (x:Int),j < k->l[j]? = some x->ki x=true)/\Below w.heap.size w wr) (fun i _=>l.length - (intOf i).toNat)
 case atStart=>exact ⟨0,by omega,rfl,fun j x h=>absurd h (by omega),Below.refl _ _⟩
 case round =>
  obtain ⟨k,hk,rfl,hall,hbel⟩:=hrel
  have HALL:=d9 hall
  have HB:=d9 hbel
  by_cases hlt:k < l.length
  ·obtain ⟨x,hx,hxd⟩:=je hlt
   obtain ⟨b,off,hq,hb,hc⟩:=mh (uh HA) hx
   subst hq
   have g:=(hbel.cell (p:=⟨b,off + k,none⟩) hb).trans hc
   have ki0:(0:Int)<=(k:Int):=by omega
   have ki1:(k:Int) < (l.length:Int):=by omega
   have hn:=fun w=>tb x w
   cases hok:ki x with
   | true =>
    rw [hok] at hn
    have HN:=d9 (show ∀ (j:Nat) (y:Int),j < k + 1->l[j]? = some y->ki y=true from fun j y hj hy=>by
     by_cases e:j=k
     ·subst e;rw [hx] at hy;cases hy;exact hok
     ·exact hall j y (by omega) hy)
    clear hall hbel hxd hx hc hok
    go_wp2_with (go_at_call 112;refine (hn _).mono ?_;rintro e w1 ⟨rfl,b1⟩)
    exact ⟨⟨k + 1,by omega,by go_num,uh HN,d8 (uh HB) b1⟩,by simp [intOf];omega⟩
   | false =>
    rw [hok] at hn
    have HN:=d9 (V0 hx hok m)
    clear hall hbel hxd hx hc hok
    go_wp2_with (go_at_call 112;refine (hn _).mono ?_;rintro e w1 ⟨rfl,b1⟩)
    go_ret
    exact ⟨jb (uh HN).symm,d8 (uh HB) b1⟩
  ·have ki1:¬ (k:Int) < (l.length:Int):=by omega
   have HN:=d9 (Mp (ok:=ki) (l:=l) (fun j x hj hx=>hall j x (by omega) hx) m)
   clear hall hbel
   by_cases h1:1<=l.length <;> by_cases h2:(l.length:Int)<=m
   all_goals
    have h3:decide ((1:Int)<=(l.length:Int))=decide (1<=l.length):=by simp;omega
    go_wp2
    go_ret
    exact ⟨jb (by rw [uh HN];simp [h1,h2]),uh HB⟩
set_option maxHeartbeats 1000000 in
theorem G4 (q:Option Addr) (c:Nat) (l:List ByteArray) (m:Int) (w:World) (h:SlOf jy 1 w q c l) (hl:l.length<=1000000000000000000) :
  Calls Tryz.prog 113 #[.slice q l.length c,.int .i64 m,.func (.func 114) #[] #[]] w fun e w'=>e=.returned (.bool (p9 jp l m))/\Below w.heap.size w w':=by
 have HA:=d9 h
 have a0:(l.length:Int)<=1000000000000000000:=by omega
 clear h
 go_enter Tryz.func113,Tryz.ntmps113
 go_wp2
 go_loopw [11] (fun i wr=>∃ k:Nat,k<=l.length/\i=.int .i64 k/\(∀ (j:Nat) (x:ByteArray),j < k->l[j]? = some x->jp x=true)/\Below w.heap.size w wr) (fun i _=>l.length - (intOf i).toNat)
 case atStart=>exact ⟨0,by omega,rfl,fun j x h=>absurd h (by omega),Below.refl _ _⟩
 case round =>
  obtain ⟨k,hk,rfl,hall,hbel⟩:=hrel
  have HALL:=d9 hall
  have HB:=d9 hbel
  by_cases hlt:k < l.length
  ·obtain ⟨x,hx,hxd⟩:=je hlt
   obtain ⟨b,off,hq,hb,hc⟩:=j6 (uh HA) hx
   subst hq
   have g:=(hbel.cell (p:=⟨b,off + k,none⟩) hb).trans hc
   have ki0:(0:Int)<=(k:Int):=by omega
   have ki1:(k:Int) < (l.length:Int):=by omega
   have hn:=fun w=>Kr x w
   cases hok:jp x with
   | true =>
    rw [hok] at hn
    have HN:=d9 (show ∀ (j:Nat) (y:ByteArray),j < k + 1->l[j]? = some y->jp y=true from fun j y hj hy=>by
     by_cases e:j=k
     ·subst e;rw [hx] at hy;cases hy;exact hok
     ·exact hall j y (by omega) hy)
    clear hall hbel hxd hx hc hok
    go_wp2_with (go_at_call 114;refine (hn _).mono ?_;rintro e w1 ⟨rfl,b1⟩)
    exact ⟨⟨k + 1,by omega,by go_num,uh HN,d8 (uh HB) b1⟩,by simp [intOf];omega⟩
   | false =>
    rw [hok] at hn
    have HN:=d9 (V0 hx hok m)
    clear hall hbel hxd hx hc hok
    go_wp2_with (go_at_call 114;refine (hn _).mono ?_;rintro e w1 ⟨rfl,b1⟩)
    go_ret
    exact ⟨jb (uh HN).symm,d8 (uh HB) b1⟩
  ·have ki1:¬ (k:Int) < (l.length:Int):=by omega
   have HN:=d9 (Mp (ok:=jp) (l:=l) (fun j x hj hx=>hall j x (by omega) hx) m)
   clear hall hbel
   by_cases h1:1<=l.length <;> by_cases h2:(l.length:Int)<=m
   all_goals
    have h3:decide ((1:Int)<=(l.length:Int))=decide (1<=l.length):=by simp;omega
    go_wp2
    go_ret
    exact ⟨jb (by rw [uh HN];simp [h1,h2]),uh HB⟩
def l8 (ni nw:Nat) (lo hi:Int):Bool:=decide (ni=0) && (decide (nw=0) && (decide (lo=0) && decide (hi=0)))
set_option maxHeartbeats 1000000 in
theorem su (kind:Int) (attr:ByteArray) (qi:Option Addr) (ni ci:Nat) (qw:Option Addr) (nw cw:Nat) (lo hi:Int) (w:World) :
  Calls Tryz.prog 115 #[.agg #[.int .i64 kind,.string attr,.slice qi ni ci,.slice qw nw cw,.int .i64 lo,.int .i64 hi]] w fun e w'=>e=.returned (.bool (l8 ni nw lo hi))/\Below w.heap.size w w':=by
 by_cases h1:ni=0 <;> by_cases h2:nw=0 <;> by_cases h3:lo=0 <;> by_cases h4:hi=0
 all_goals
  have i1:=h1;have i2:=h2;have i3:=h3;have i4:=h4
  try subst h1
  try subst h2
  try subst h3
  try subst h4
  go_enter Tryz.func115,Tryz.ntmps115
  go_wp2
  go_ret
  exact ⟨jb (by simp [l8, *]),(Below.refl _ _).alloc (Nat.le_refl _) _⟩
end Go.Proofs.YtimklglliffpcaaGreat
namespace Go.Proofs.YtimklglliffpcaaGreat
open Go.RowKit
/-- Is the predicate in form? -/
def kg (kind:Int) (attr:ByteArray) (ints:List Int) (words:List ByteArray) (lo hi:Int):Bool :=
  ko attr && (if kind=1 then p9 ki ints 64 && l8 0 words.length lo hi else if kind=2 then p9 jp words 64 && l8 ints.length 0 lo hi else if kind=3 then (ki lo && ki hi) && l8 ints.length words.length 0 0 else if kind=4 then p9 jp words 1 && l8 ints.length 0 lo hi else false)
theorem C9 {s:ByteArray} (h:s.size=0):s=⟨#[]⟩:=WideShapes.bytes_inj (List.length_eq_zero_iff.1 (by simpa using h))
def py (b:Bool):Int:=if b then 0 else 1
/-- The box of a predicate, behind calls. -/
theorem Qm {w w1:World} {kind:Int} {attr:ByteArray} {qi:Option Addr} {ni ci:Nat} {qw:Option Addr} {nw cw:Nat} {lo hi:Int} (hb:Below (w.alloc (.cells #[.int .i64 kind,.string attr,.slice qi ni ci,.slice qw nw cw,.int .i64 lo,.int .i64 hi] 26)).heap.size (w.alloc (.cells #[.int .i64 kind,.string attr,.slice qi ni ci,.slice qw nw cw,.int .i64 lo,.int .i64 hi] 26)) w1) :
    w.heap.size < w1.heap.size/\(w1.cell? ⟨w.heap.size,0,none⟩=some (.int .i64 kind)/\w1.cell? ⟨w.heap.size,1,none⟩=some (.string attr)/\w1.cell? ⟨w.heap.size,2,none⟩=some (.slice qi ni ci)/\w1.cell? ⟨w.heap.size,3,none⟩=some (.slice qw nw cw)/\w1.cell? ⟨w.heap.size,4,none⟩=some (.int .i64 lo)/\w1.cell? ⟨w.heap.size,5,none⟩=some (.int .i64 hi))/\(w1.frozen? ⟨w.heap.size,2,none⟩=false/\w1.frozen? ⟨w.heap.size,3,none⟩=false/\w1.frozen? ⟨w.heap.size,4,none⟩=false/\w1.frozen? ⟨w.heap.size,5,none⟩=false):=by
  have hs:=hb.size
  obtain ⟨hc,hf⟩:=Gi hb
  have hlt:w.heap.size < (w.alloc (.cells #[.int .i64 kind,.string attr,.slice qi ni ci,.slice qw nw cw,.int .i64 lo,.int .i64 hi] 26)).heap.size:=by simp
  refine ⟨by simp at hs;omega,⟨?_, ?_, ?_, ?_, ?_, ?_⟩,⟨?_, ?_, ?_, ?_⟩⟩
  iterate 6 (rw [hc _ _ hlt];go_simp)
  iterate 4 (rw [hf _ _ hlt];go_simp)
set_option maxHeartbeats 1000000 in
theorem Rh (kind:Int) (attr:ByteArray) (qi:Option Addr) (ni ci:Nat) (qw:Option Addr) (nw cw:Nat) (lo hi:Int) (w:World) :
  Calls Tryz.prog 144 #[.agg #[.int .i64 kind,.string attr,.slice qi ni ci,.slice qw nw cw,.int .i64 lo,.int .i64 hi]] w fun e w'=>e=.returned (.bool (decide (kind=0) && (decide (attr.size=0) && l8 ni nw lo hi)))/\Below w.heap.size w w':=by
 by_cases h1:kind=0
 ·subst h1
  cases h2:attr.toList.isEmpty with
  | true =>
   have h3:attr.size=0:=(nx attr).1 h2
   obtain rfl:=C9 h3
   clear h2 h3
   go_enter Tryz.func144,Tryz.ntmps144
   go_wp2_with (go_at_call 115;refine (su 0 ⟨#[]⟩ qi ni ci qw nw cw lo hi _).mono ?_;rintro e w1 ⟨rfl,b1⟩)
   go_ret
   exact ⟨jb (by rw [show decide ((⟨#[]⟩:ByteArray).size=0)=true from rfl];simp),d8 ((Below.refl _ _).alloc (Nat.le_refl _) _) b1⟩
  | false =>
   have h3:¬ attr.size=0:=fun h=>by rw [(nx attr).2 h] at h2;cases h2
   go_enter Tryz.func144,Tryz.ntmps144
   go_wp2
   go_ret
   exact ⟨jb (by simp [h3]),(Below.refl _ _).alloc (Nat.le_refl _) _⟩
 ·have h2:(kind == 0)=false:=by simpa using h1
  go_enter Tryz.func144,Tryz.ntmps144
  go_wp2
  go_ret
  exact ⟨jb (by simp [h1]),(Below.refl _ _).alloc (Nat.le_refl _) _⟩
set_option maxHeartbeats 2000000 in
theorem Y6 (attr:ByteArray) (qi:Option Addr) (ci:Nat) (ints:List Int) (qw:Option Addr) (cw:Nat) (words:List ByteArray) (lo hi:Int) (w:World) (h1:SlOf jq 1 w qi ci ints) (l1:ints.length<=1000000000000000000) (hn:ko attr=true) :
  Calls Tryz.prog 54 #[.agg #[.int .i64 1,.string attr,.slice qi ints.length ci,.slice qw words.length cw,.int .i64 lo,.int .i64 hi]] w fun e w'=>e=.returned (.int .i64 (py (p9 ki ints 64 && l8 0 words.length lo hi)))/\Below w.heap.size w w':=by
 have hnm:=fun w=>ti attr w
 rw [hn] at hnm
 have B0:=d9 ((Below.refl w.heap.size w).alloc (Nat.le_refl _) (.cells #[.int .i64 1,.string attr,.slice qi ints.length ci,.slice qw words.length cw,.int .i64 lo,.int .i64 hi] 26))
 have hmm:=T8 qi ci ints 64 _ (h1.below (uh B0)) l1
 have hem:=fun w=>su 1 attr none 0 0 qw words.length cw lo hi w
 clear h1 hn
 cases hg:p9 ki ints 64 with
 | true =>
  cases he:l8 0 words.length lo hi
  all_goals
   rw [hg] at hmm
   rw [he] at hem
   clear hg he
   go_enter Tryz.func54,Tryz.ntmps54
   go_wp2_with (first
    | (go_at_call 110;refine (hnm _).mono ?_;rintro e w' ⟨rfl,hw⟩;obtain rfl:=hw.symm;clear hw)
    | (go_at_call 111;refine (hmm).mono ?_;rintro e w1 ⟨rfl,b1⟩;obtain ⟨z1,⟨d0,d1,d2,d3,d4,d5⟩,⟨f2,f3,f4,f5⟩⟩:=Qm b1;have B1:=d9 b1;clear b1)
    | (go_at_call 115;refine (hem _).mono ?_;rintro e w2 ⟨rfl,b2⟩))
   go_ret
   exact ⟨rfl,d8 ((d8 (uh B0) (uh B1)).setCell (Nat.le_refl _) _) b2⟩
 | false =>
  rw [hg] at hmm
  clear hg hem
  go_enter Tryz.func54,Tryz.ntmps54
  go_wp2_with (first
   | (go_at_call 110;refine (hnm _).mono ?_;rintro e w' ⟨rfl,hw⟩;obtain rfl:=hw.symm;clear hw)
   | (go_at_call 111;refine (hmm).mono ?_;rintro e w1 ⟨rfl,b1⟩;obtain ⟨z1,⟨d0,d1,d2,d3,d4,d5⟩,⟨f2,f3,f4,f5⟩⟩:=Qm b1;have B1:=d9 b1;clear b1))
  go_ret
  exact ⟨rfl,(d8 (uh B0) (uh B1)).setCell (Nat.le_refl _) _⟩
set_option maxHeartbeats 2000000 in
theorem Y9 (attr:ByteArray) (qi:Option Addr) (ci:Nat) (ints:List Int) (qw:Option Addr) (cw:Nat) (words:List ByteArray) (lo hi:Int) (w:World) (h2:SlOf jy 1 w qw cw words) (l2:words.length<=1000000000000000000) (hn:ko attr=true) :
  Calls Tryz.prog 54 #[.agg #[.int .i64 2,.string attr,.slice qi ints.length ci,.slice qw words.length cw,.int .i64 lo,.int .i64 hi]] w fun e w'=>e=.returned (.int .i64 (py (p9 jp words 64 && l8 ints.length 0 lo hi)))/\Below w.heap.size w w':=by
 have hnm:=fun w=>ti attr w
 rw [hn] at hnm
 have B0:=d9 ((Below.refl w.heap.size w).alloc (Nat.le_refl _) (.cells #[.int .i64 2,.string attr,.slice qi ints.length ci,.slice qw words.length cw,.int .i64 lo,.int .i64 hi] 26))
 have hmm:=G4 qw cw words 64 _ (h2.below (uh B0)) l2
 have hem:=fun w=>su 2 attr qi ints.length ci none 0 0 lo hi w
 clear h2 hn
 cases hg:p9 jp words 64 with
 | true =>
  cases he:l8 ints.length 0 lo hi
  all_goals
   rw [hg] at hmm
   rw [he] at hem
   clear hg he
   go_enter Tryz.func54,Tryz.ntmps54
   go_wp2_with (first
    | (go_at_call 110;refine (hnm _).mono ?_;rintro e w' ⟨rfl,hw⟩;obtain rfl:=hw.symm;clear hw)
    | (go_at_call 113;refine (hmm).mono ?_;rintro e w1 ⟨rfl,b1⟩;obtain ⟨z1,⟨d0,d1,d2,d3,d4,d5⟩,⟨f2,f3,f4,f5⟩⟩:=Qm b1;have B1:=d9 b1;clear b1)
    | (go_at_call 115;refine (hem _).mono ?_;rintro e w2 ⟨rfl,b2⟩))
   go_ret
   exact ⟨rfl,d8 ((d8 (uh B0) (uh B1)).setCell (Nat.le_refl _) _) b2⟩
 | false =>
  rw [hg] at hmm
  clear hg hem
  go_enter Tryz.func54,Tryz.ntmps54
  go_wp2_with (first
   | (go_at_call 110;refine (hnm _).mono ?_;rintro e w' ⟨rfl,hw⟩;obtain rfl:=hw.symm;clear hw)
   | (go_at_call 113;refine (hmm).mono ?_;rintro e w1 ⟨rfl,b1⟩;obtain ⟨z1,⟨d0,d1,d2,d3,d4,d5⟩,⟨f2,f3,f4,f5⟩⟩:=Qm b1;have B1:=d9 b1;clear b1))
  go_ret
  exact ⟨rfl,(d8 (uh B0) (uh B1)).setCell (Nat.le_refl _) _⟩
set_option maxHeartbeats 2000000 in
theorem Ze (attr:ByteArray) (qi:Option Addr) (ci:Nat) (ints:List Int) (qw:Option Addr) (cw:Nat) (words:List ByteArray) (lo hi:Int) (w:World) (h2:SlOf jy 1 w qw cw words) (l2:words.length<=1000000000000000000) (hn:ko attr=true) :
  Calls Tryz.prog 54 #[.agg #[.int .i64 4,.string attr,.slice qi ints.length ci,.slice qw words.length cw,.int .i64 lo,.int .i64 hi]] w fun e w'=>e=.returned (.int .i64 (py (p9 jp words 1 && l8 ints.length 0 lo hi)))/\Below w.heap.size w w':=by
 have hnm:=fun w=>ti attr w
 rw [hn] at hnm
 have B0:=d9 ((Below.refl w.heap.size w).alloc (Nat.le_refl _) (.cells #[.int .i64 4,.string attr,.slice qi ints.length ci,.slice qw words.length cw,.int .i64 lo,.int .i64 hi] 26))
 have hmm:=G4 qw cw words 1 _ (h2.below (uh B0)) l2
 have hem:=fun w=>su 4 attr qi ints.length ci none 0 0 lo hi w
 clear h2 hn
 cases hg:p9 jp words 1 with
 | true =>
  cases he:l8 ints.length 0 lo hi
  all_goals
   rw [hg] at hmm
   rw [he] at hem
   clear hg he
   go_enter Tryz.func54,Tryz.ntmps54
   go_wp2_with (first
    | (go_at_call 110;refine (hnm _).mono ?_;rintro e w' ⟨rfl,hw⟩;obtain rfl:=hw.symm;clear hw)
    | (go_at_call 113;refine (hmm).mono ?_;rintro e w1 ⟨rfl,b1⟩;obtain ⟨z1,⟨d0,d1,d2,d3,d4,d5⟩,⟨f2,f3,f4,f5⟩⟩:=Qm b1;have B1:=d9 b1;clear b1)
    | (go_at_call 115;refine (hem _).mono ?_;rintro e w2 ⟨rfl,b2⟩))
   go_ret
   exact ⟨rfl,d8 ((d8 (uh B0) (uh B1)).setCell (Nat.le_refl _) _) b2⟩
 | false =>
  rw [hg] at hmm
  clear hg hem
  go_enter Tryz.func54,Tryz.ntmps54
  go_wp2_with (first
   | (go_at_call 110;refine (hnm _).mono ?_;rintro e w' ⟨rfl,hw⟩;obtain rfl:=hw.symm;clear hw)
   | (go_at_call 113;refine (hmm).mono ?_;rintro e w1 ⟨rfl,b1⟩;obtain ⟨z1,⟨d0,d1,d2,d3,d4,d5⟩,⟨f2,f3,f4,f5⟩⟩:=Qm b1;have B1:=d9 b1;clear b1))
  go_ret
  exact ⟨rfl,(d8 (uh B0) (uh B1)).setCell (Nat.le_refl _) _⟩
set_option maxHeartbeats 2000000 in
theorem Zq (attr:ByteArray) (qi:Option Addr) (ni ci:Nat) (qw:Option Addr) (nw cw:Nat) (lo hi:Int) (w:World) (hn:ko attr=true) :
  Calls Tryz.prog 54 #[.agg #[.int .i64 3,.string attr,.slice qi ni ci,.slice qw nw cw,.int .i64 lo,.int .i64 hi]] w fun e w'=>e=.returned (.int .i64 (py ((ki lo && ki hi) && l8 ni nw 0 0)))/\Below w.heap.size w w':=by
 have hnm:=fun w=>ti attr w
 rw [hn] at hnm
 have B0:=d9 ((Below.refl w.heap.size w).alloc (Nat.le_refl _) (.cells #[.int .i64 3,.string attr,.slice qi ni ci,.slice qw nw cw,.int .i64 lo,.int .i64 hi] 26))
 have hem:=fun w=>su 3 attr qi ni ci qw nw cw 0 0 w
 have hlo:=fun w=>tb lo w
 have hhi:=fun w=>tb hi w
 clear hn
 cases h1:ki lo with
 | true =>
  rw [h1] at hlo
  cases h2:ki hi with
  | true =>
   rw [h2] at hhi
   cases he:l8 ni nw 0 0
   all_goals
    rw [he] at hem
    clear h1 h2 he
    go_enter Tryz.func54,Tryz.ntmps54
    go_wp2_with (first
     | (go_at_call 110;refine (hnm _).mono ?_;rintro e w' ⟨rfl,hw⟩;obtain rfl:=hw.symm;clear hw)
     | (go_at_call 112;have hB:=uh B1;clear hB;refine (hhi _).mono ?_;rintro e w2 ⟨rfl,b2⟩;obtain ⟨z1,⟨d0,d1,d2,d3,d4,d5⟩,⟨f2,f3,f4,f5⟩⟩:=Qm (d8 (uh B1) b2);have B2:=d9 (d8 (uh B1) b2);clear b2)
     | (go_at_call 112;refine (hlo _).mono ?_;rintro e w1 ⟨rfl,b1⟩;obtain ⟨z1,⟨d0,d1,d2,d3,d4,d5⟩,⟨f2,f3,f4,f5⟩⟩:=Qm b1;have B1:=d9 b1;clear b1)
     | (go_at_call 115;refine (hem _).mono ?_;rintro e w3 ⟨rfl,b3⟩))
    go_ret
    exact ⟨rfl,d8 (((d8 (uh B0) (uh B2)).setCell (Nat.le_refl _) _).setCell (Nat.le_refl _) _) b3⟩
  | false =>
   rw [h2] at hhi
   clear h1 h2 hem
   go_enter Tryz.func54,Tryz.ntmps54
   go_wp2_with (first
    | (go_at_call 110;refine (hnm _).mono ?_;rintro e w' ⟨rfl,hw⟩;obtain rfl:=hw.symm;clear hw)
    | (go_at_call 112;have hB:=uh B1;clear hB;refine (hhi _).mono ?_;rintro e w2 ⟨rfl,b2⟩;obtain ⟨z1,⟨d0,d1,d2,d3,d4,d5⟩,⟨f2,f3,f4,f5⟩⟩:=Qm (d8 (uh B1) b2);have B2:=d9 (d8 (uh B1) b2);clear b2)
    | (go_at_call 112;refine (hlo _).mono ?_;rintro e w1 ⟨rfl,b1⟩;obtain ⟨z1,⟨d0,d1,d2,d3,d4,d5⟩,⟨f2,f3,f4,f5⟩⟩:=Qm b1;have B1:=d9 b1;clear b1))
   go_ret
   exact ⟨rfl,((d8 (uh B0) (uh B2)).setCell (Nat.le_refl _) _).setCell (Nat.le_refl _) _⟩
 | false =>
  rw [h1] at hlo
  clear h1 hem hhi
  go_enter Tryz.func54,Tryz.ntmps54
  go_wp2_with (first
   | (go_at_call 110;refine (hnm _).mono ?_;rintro e w' ⟨rfl,hw⟩;obtain rfl:=hw.symm;clear hw)
   | (go_at_call 112;refine (hlo _).mono ?_;rintro e w1 ⟨rfl,b1⟩;obtain ⟨z1,⟨d0,d1,d2,d3,d4,d5⟩,⟨f2,f3,f4,f5⟩⟩:=Qm b1;have B1:=d9 b1;clear b1))
  go_ret
  exact ⟨rfl,((d8 (uh B0) (uh B1)).setCell (Nat.le_refl _) _).setCell (Nat.le_refl _) _⟩
set_option maxHeartbeats 2000000 in
theorem Zh (kind:Int) (attr:ByteArray) (qi:Option Addr) (ni ci:Nat) (qw:Option Addr) (nw cw:Nat) (lo hi:Int) (w:World) (hn:ko attr=true) (k1:¬ kind=1) (k2:¬ kind=2) (k3:¬ kind=3) (k4:¬ kind=4) :
  Calls Tryz.prog 54 #[.agg #[.int .i64 kind,.string attr,.slice qi ni ci,.slice qw nw cw,.int .i64 lo,.int .i64 hi]] w fun e w'=>e=.returned (.int .i64 (py false))/\Below w.heap.size w w':=by
 have hnm:=fun w=>ti attr w
 rw [hn] at hnm
 have e1:(kind == 1)=false:=by simpa using k1
 have e2:(kind == 2)=false:=by simpa using k2
 have e3:(kind == 3)=false:=by simpa using k3
 have e4:(kind == 4)=false:=by simpa using k4
 clear hn
 go_enter Tryz.func54,Tryz.ntmps54
 go_wp2_with (go_at_call 110;refine (hnm _).mono ?_;rintro e w' ⟨rfl,hw⟩;obtain rfl:=hw.symm;clear hw)
 go_ret
 exact ⟨rfl,(Below.refl _ _).alloc (Nat.le_refl _) _⟩
set_option maxHeartbeats 2000000 in
theorem Gc (kind:Int) (attr:ByteArray) (qi:Option Addr) (ni ci:Nat) (qw:Option Addr) (nw cw:Nat) (lo hi:Int) (w:World) (hn:ko attr=false) :
  Calls Tryz.prog 54 #[.agg #[.int .i64 kind,.string attr,.slice qi ni ci,.slice qw nw cw,.int .i64 lo,.int .i64 hi]] w fun e w'=>e=.returned (.int .i64 (py false))/\Below w.heap.size w w':=by
 have hnm:=fun w=>ti attr w
 rw [hn] at hnm
 clear hn
 go_enter Tryz.func54,Tryz.ntmps54
 go_wp2_with (go_at_call 110;refine (hnm _).mono ?_;rintro e w' ⟨rfl,hw⟩;obtain rfl:=hw.symm;clear hw)
 go_ret
 exact ⟨rfl,(Below.refl _ _).alloc (Nat.le_refl _) _⟩
theorem kw (kind:Int) (attr:ByteArray) (qi:Option Addr) (ci:Nat) (ints:List Int) (qw:Option Addr) (cw:Nat) (words:List ByteArray) (lo hi:Int) (w:World) (h1:SlOf jq 1 w qi ci ints) (h2:SlOf jy 1 w qw cw words) (l1:ints.length<=1000000000000000000) (l2:words.length<=1000000000000000000) :
  Calls Tryz.prog 54 #[.agg #[.int .i64 kind,.string attr,.slice qi ints.length ci,.slice qw words.length cw,.int .i64 lo,.int .i64 hi]] w fun e w'=>e=.returned (.int .i64 (py (kg kind attr ints words lo hi)))/\Below w.heap.size w w':=by
 unfold kg
 cases hn:ko attr with
 | false=>exact Gc kind attr qi _ ci qw _ cw lo hi w hn
 | true =>
  rw [Bool.true_and]
  by_cases k1:kind=1
  ·subst k1;rw [if_pos rfl];exact Y6 attr qi ci ints qw cw words lo hi w h1 l1 hn
  by_cases k2:kind=2
  ·subst k2;rw [if_neg k1,if_pos rfl];exact Y9 attr qi ci ints qw cw words lo hi w h2 l2 hn
  by_cases k3:kind=3
  ·subst k3;rw [if_neg k1,if_neg k2,if_pos rfl];exact Zq attr qi _ ci qw _ cw lo hi w hn
  by_cases k4:kind=4
  ·subst k4;rw [if_neg k1,if_neg k2,if_neg k3,if_pos rfl];exact Ze attr qi ci ints qw cw words lo hi w h2 l2 hn
  rw [if_neg k1,if_neg k2,if_neg k3,if_neg k4]
  exact Zh kind attr qi _ ci qw _ cw lo hi w hn k1 k2 k3 k4
end Go.Proofs.YtimklglliffpcaaGreat
namespace Go.Proofs.YtimklglliffpcaaGreat
open Go.RowKit Go.Sort Go.Shelf
theorem jd {w w':World} (h:Below w.drew.heap.size w.drew w'):Below w.heap.size w w':=⟨h.os,h.tape,h.output,h.size,h.block⟩
def Fr:Fence:={ fn:=fun _=>True }
end Go.Proofs.YtimklglliffpcaaGreat
namespace Go.Proofs.YtimklglliffpcaaGreat
open Go.RowKit Go.Sort Go.Shelf
attribute [local go_sem] Oper.semAt_some
theorem Yp {w:World} {q:Option Addr} {c:Nat} {l:List Int} {j:Nat} {x:Int} (h:SlOf jq 1 w q c l) (hj:l[j]? = some x):∃ b off,q=some ⟨b,off,none⟩/\b < w.heap.size/\w.cell? ⟨b,off + j,none⟩=some (.int .i64 x):=by
 obtain ⟨b,off,hq,hb,hc⟩:=h.2.2.2.at hj
 exact ⟨b,off,hq,hb,by have:=hc 0 (by omega);rw [Nat.mul_one] at this;exact this⟩
set_option maxRecDepth 100000 in
set_option maxHeartbeats 2000000 in
theorem X6 (F:Fence) (n:Nat) (h53:F.fn 160) (hro:F.round=none) (hn:1<=n) (l Bs n₀:Nat) (p:Option Addr) (c:Nat) (zs:List Int) (hz:zs.length<=100000000000000) (J Jx:List Int->World->Prop)
    (W:World)
    (hY:∀ pre x W,J pre W->pre.length < zs.length->YieldAt F (n - 1) Tryz.prog l #[.int .i64 x] W fun e W' =>
      (e=.returned (.bool true)/\J (pre ++ [x]) W'/\Below n₀ W W') ∨ (e=.returned (.bool false)/\Jx (pre ++ [x]) W'))
    (hBs:W.cell? ⟨Bs,0,none⟩=some (.slice p zs.length c)) (hc:∀ j x,zs[j]? = some x->∃ b off,p=some ⟨b,off,none⟩/\b < n₀/\W.cell? ⟨b,off + j,none⟩=some (.int .i64 x)) (h0:J [] W) :
    CallsIn F n Tryz.prog 160 #[.func (.yield l) #[] #[],.pointer (some ⟨Bs,0,none⟩)] W fun e W'=>(∃ v,e=.returned v) /\
      ((∃ ys,ys=zs/\J ys W') ∨ (∃ pre,pre <+: zs/\Jx pre W')):=by
  have hz0:(zs.length:Int)<=100000000000000:=by omega
  refine callsIn_of_wp Tryz.func160 rfl h53 ?_ hro
  simp only [Tryz.ntmps160,List.size_toArray,List.length_cons,List.length_nil,Nat.reduceAdd,Nat.reduceSub,Array.replicate_succ,Array.replicate_zero,List.push_toArray,List.append_toArray,List.nil_append,List.cons_append]
  gi_wp2
  gi_loopw [7] (fun i wr=>∃ k:Nat,k<=zs.length/\i=.int .i64 k/\J (zs.take k) wr/\Below n₀ W wr)
    (fun i _=>zs.length - (intOf i).toNat)
  case atStart=>exact ⟨0,Nat.zero_le _,rfl,h0,Below.refl _ _⟩
  case round =>
    obtain ⟨k,hk,rfl,hJs,hnx⟩:=hrel
    by_cases hlt:k < zs.length
    · obtain ⟨x,hx,_⟩:=je hlt
      obtain ⟨b,off,hp,hb,c0⟩:=hc k x hx
      have d0:=(hnx.cell (p:=⟨b,off + k,none⟩) hb).trans c0
      obtain ⟨fn,tmps,assign,body,hy,hR⟩:=hY _ x _ hJs (by rw [List.length_take];omega)
      have hn1:=d9 hnx
      have ki0:(0:Int)<=(k:Int):=by omega
      have ki1:(k:Int) < (zs.length:Int):=by omega
      have HX:=d9 (jh hx)
      subst hp
      clear c0 hc hx hnx
      gi_wp2
      refine hR.mono ?_
      rintro e W3 (⟨rfl,hJ3,hk3⟩ | ⟨rfl,hJx3⟩)
      · gi_wp2
        go_roundw
        case rel=>exact ⟨k + 1,by omega,by go_num,by rw [uh HX];exact hJ3,(uh hn1).trans hk3⟩
        case measure=>simp [intOf];omega
      · gi_wp2
        refine bodyPost_ret (results_none rfl _ _ _) rfl ?_
        exact ⟨⟨_,rfl⟩,.inr ⟨_,by rw [<- uh HX];exact List.take_prefix _ _,hJx3⟩⟩
    · obtain rfl:k=zs.length:=by omega
      have ki1:¬ (zs.length:Int) < (zs.length:Int):=by omega
      gi_wp2
      go_end0
      exact ⟨⟨_,rfl⟩,.inl (by rw [List.take_length] at hJs;exact hJs)⟩
theorem Kw (F:Fence) (n:Nat) (h53:F.fn 160) (hro:F.round=none) (hn:1<=n) (Bs n₀:Nat) (p:Option Addr) (c:Nat) (zs:List Int) (hz:zs.length<=100000000000000) (w:World) (hBs:Bs < w.heap.size) (hn₀:n₀<=w.heap.size)
  (hcell:w.cell? ⟨Bs,0,none⟩=some (.slice p zs.length c)) (hc:∀ j x,zs[j]? = some x->∃ b off,p=some ⟨b,off,none⟩/\b < n₀/\w.cell? ⟨b,off + j,none⟩=some (.int .i64 x)) :
  SeqStopsK F n Tryz.prog 160 #[.pointer (some ⟨Bs,0,none⟩)] (fun x:Int=>#[.int .i64 x]) (Below n₀) (fun ys=>ys=zs) (fun pre=>pre <+: zs) zs.length w:=fun l J Jx W hW _ _ hY h0=>by
 refine X6 F n h53 hro hn l Bs n₀ p c zs hz J Jx W hY ((hW.cell (p:=⟨Bs,0,none⟩) hBs).trans hcell) (fun j x hj=>?_) h0
 obtain ⟨b,off,hp,hb,c0⟩:=hc j x hj
 exact ⟨b,off,hp,hb,(hW.cell (p:=⟨b,off + j,none⟩) (by exact Nat.lt_of_lt_of_le hb hn₀)).trans c0⟩
theorem vl (x:Int):(flatK jq 1 [x].toArray).toList=[.int .i64 x]:=by
 apply List.ext_getElem?
 intro j
 by_cases hj:j < 1
 ·have:=lj (enc:=jq) (k:=1) (l:=[x]) (j:=0) (x:=x) rfl j hj
  rw [Nat.zero_mul,Nat.zero_add] at this
  rw [this]
  have hm:j=0:=by omega
  rw [hm];rfl
 ·rw [List.getElem?_eq_none (by simp [flatK];omega),List.getElem?_eq_none (by simp;omega)]
theorem Ko (l:List Int) (x:Int):(flatK jq 1 (l ++ [x]).toArray).toList=(flatK jq 1 l.toArray).toList ++ [.int .i64 x]:=by rw [ma jq 1 (by decide),vl]
theorem zj {w:World} {b:Nat} {x:Int} (h:w.heap[b]? = some (.cells #[.int .i64 x] 3 (0,0))):∀ (j:Nat) (u:Value),[Value.int .i64 x][j]? = some u->w.cell? ((⟨b,0,none⟩:Addr).add j)=some u:=by
 intro j u hj
 rw [nz,Nat.zero_add]
 have hc:w.cell? ⟨b,j,none⟩=(#[.int .i64 x]:Array Value)[j]?:=(by unfold World.cell?;simp [h])
 rw [hc]
 simpa using hj
set_option maxRecDepth 100000 in
set_option maxHeartbeats 2000000 in
theorem Zl (F:Fence) (n:Nat) (h60:F.fn 186) (h53:F.fn 160) (hro:F.round=none) (hn:3<=n) (Bs:Nat) (p:Option Addr) (c:Nat) (zs:List Int) (hz:zs.length * 8<=140737488355328) (w:World) (hBs:Bs < w.heap.size)
    (hcell:w.cell? ⟨Bs,0,none⟩=some (.slice p zs.length c)) (hc:SlOf jq 1 w p c zs) :
    CallsIn F n Tryz.prog 186 #[.slice none 0 0,.func (.func 160) #[] #[.pointer (some ⟨Bs,0,none⟩)]] w fun e w'=>(∃ q cap,e=.returned (.slice q zs.length cap)/\OwnK jq 3 1 w.heap.size w' q cap zs)/\Below w.heap.size w w':=by
  have h1:1<=n:=by omega
  obtain ⟨i0,hi,hz0,hz1,hz2⟩:=info_parts Tryz.info3
  refine callsIn_of_wp_marks Tryz.func186 rfl h60 ?_ hro
  simp only [Tryz.ntmps186,List.size_toArray,List.length_cons,List.length_nil,Nat.reduceAdd,Nat.reduceSub,Array.replicate_succ,Array.replicate_zero,List.push_toArray,List.append_toArray,List.nil_append,List.cons_append]
  gi_wp2
  have bS:=Boxed.new w 23 (.slice none 0 0)
  have hB0:Below w.heap.size w (w.alloc (.cells #[.slice none 0 0] 23)):=(Below.refl _ w).alloc (Nat.le_refl _) _
  have hsz:(w.alloc (.cells #[.slice none 0 0] 23)).heap.size=w.heap.size + 1:=by simp
  have hcell':=(hB0.cell (p:=⟨Bs,0,none⟩) hBs).trans hcell
  have hc':∀ j x,zs[j]? = some x->∃ b off,p=some ⟨b,off,none⟩/\b < w.heap.size/\(w.alloc (.cells #[.slice none 0 0] 23)).cell? ⟨b,off + j,none⟩=some (.int .i64 x):=fun j x hj=>by
    obtain ⟨b,off,hp,hb,c0⟩:=Yp hc hj
    exact ⟨b,off,hp,hb,(hB0.cell (p:=⟨b,off + j,none⟩) hb).trans c0⟩
  obtain ⟨W0,hW0⟩:∃ W0,w.alloc (.cells #[.slice none 0 0] 23)=W0:=⟨_,rfl⟩
  rw [hW0] at bS hB0 hsz hcell' hc' ⊢
  clear hW0 hcell hc
  refine wpIn_rangeFunc_ownH hro h1 (gf:=160) (lb:=#[.pointer (some ⟨Bs,0,none⟩)]) rfl h53 (enters_of Tryz.func160 (by kernel_rfl) rfl)
    (Kw F (n - 1) h53 hro (by omega) Bs w.heap.size p c zs (by omega) W0 (by omega) (by omega) hcell' hc') belowK_t (belowK_b (by omega)) (Below.refl _ _) (fun _=>rfl)
    (fun pre W=>(∃ v,Boxed W w.heap.size 23 v/\W.ownsRow w.heap.size 3 1 v pre.length (flatK jq 1 pre.toArray).toList/\True)/\Below w.heap.size w W)
    (fun _ _ _=>False)
    (OwnFrom.and (Own.from (holdsRow_own w.heap.size w.heap.size 23 3 1 (fun pre:List Int=>pre.length) (fun pre=>(flatK jq 1 pre.toArray).toList) (fun _ _=>True)) _) (ownFrom_below (Nat.le_refl _) (by omega)))
    (fun _ _ _ _ _ hs _ _=>hs)
    ⟨⟨_,bS,by simpa [flatK] using World.ownsRow_nil W0 w.heap.size 3 1,trivial⟩,hB0⟩
    (fun x a' _=>a'={ tmps:=#[.slice none 0 0,.func (.func 160) #[] #[.pointer (some ⟨Bs,0,none⟩)],.pointer (some ⟨w.heap.size,0,none⟩),undef,.slice none 0 0,.int .i64 x,.func (.func 160) #[] #[.pointer (some ⟨Bs,0,none⟩)],.int .i64 x,undef,undef,undef,undef,undef],defers:=[] })
    (fun _ _ _ _ _ _ hs _ _=>hs)
    ?assign ?body ?done ?stop
  case assign =>
    rintro l pre x W K hi hK
    gi_wp2
    exact hK _ _ (KeepsFrom.refl _ _) (Below.refl _ _) hi rfl
  case body =>
    rintro l pre x a' W hl ⟨r,hr⟩ ⟨⟨v,bv,hrow,_⟩,hB1⟩ rfl hlt
    have cB:=bv.cell
    obtain ⟨q,cap,rfl,_⟩:=OwnK.shape hrow
    have hsW:=hB1.size
    gi_wp2_with (gi_at_builtin;refine wpListIn_append_own _ rfl _ _ 23 rfl w.heap.size 3 i0 (.int .i64 0) 1 8 Tryz.underlying23 hi hz0 hz1 hz2 rfl (by decide) _ _ _ rfl (hrow.alloc _) ⟨W.heap.size,0,none⟩ 1 1 [.int .i64 x] rfl rfl (zj (World.alloc_heap_new W _)) (by simp [Value.oneCell']) (by unfold maxLen;omega) (by omega) (by simp;omega) ?_;intro v' w1 hown' hgrow _;obtain ⟨g',cap',rfl⟩:=ownsRow_succ hown';obtain ⟨hv1,hv2,hr2,hk2,hb2⟩:=bv.appended (by decide) hrow hB1.size (Nat.le_refl _) hown' hgrow;have hc1:=hv1.cell;have hf1:=hv1.frozen)
    exact ⟨hk2.from _,hb2,⟨_,hv2,(by rw [Ko,List.length_append];exact hr2),trivial⟩,hB1.trans hb2⟩
  case done =>
    rintro D ys W hD rfl ⟨⟨v,bv,hrow,_⟩,hB1⟩ hK
    have cB:=bv.cell
    obtain ⟨q,cap,rfl,_⟩:=OwnK.shape hrow
    gi_wp2
    refine ⟨by simp,.inl ⟨_,_,rfl,run_takeDeferred hK, ?_⟩⟩
    exact ⟨_,results_tmp rfl _ _ _,⟨q,cap,rfl,ownsRow_putObj hrow _ hK rfl⟩,hB1.trans (belowK_b (w:=w) (Nat.le_refl _) W D _ _ (by omega) hK rfl rfl)⟩
  case stop =>
    rintro D c pre W _ _ h _
    exact h.elim
theorem zds (Bs:Nat) (p:Option Addr) (c:Nat) (zs:List Int) (hz:zs.length * 8<=140737488355328) (w:World) (hBs:Bs < w.heap.size) (hcell:w.cell? ⟨Bs,0,none⟩=some (.slice p zs.length c)) (hc:SlOf jq 1 w p c zs) :
  Calls Tryz.prog 186 #[.slice none 0 0,.func (.func 160) #[] #[.pointer (some ⟨Bs,0,none⟩)]] w fun e w'=>(∃ q cap,e=.returned (.slice q zs.length cap)/\OwnK jq 3 1 w.heap.size w' q cap zs)/\Below w.heap.size w w' :=
 (Zl Fr 5 trivial trivial rfl (by decide) Bs p c zs hz w hBs hcell hc).calls fun _ _ h=>by cases h
theorem Lp (q:Option Addr) (n c:Nat) (w:World) :
  Calls Tryz.prog 118 #[.slice q n c] w fun e w'=>e=.returned (.func (.func 160) #[] #[.pointer (some ⟨w.heap.size,0,none⟩)])/\w'=w.alloc (.cells #[.slice q n c] 23):=by
 go_enter Tryz.func118,Tryz.ntmps118
 go_wp2
 go_ret
 exact ⟨rfl,rfl⟩
theorem Q9 (Bs:Nat) (p:Option Addr) (c:Nat) (zs:List Int) (hz:zs.length * 8<=140737488355328) (w:World) (hBs:Bs < w.heap.size) (hcell:w.cell? ⟨Bs,0,none⟩=some (.slice p zs.length c)) (hc:SlOf jq 1 w p c zs) :
  Calls Tryz.prog 158 #[.func (.func 160) #[] #[.pointer (some ⟨Bs,0,none⟩)]] w fun e w'=>(∃ q cap,e=.returned (.slice q zs.length cap)/\OwnK jq 3 1 w.heap.size w' q cap zs)/\Below w.heap.size w w':=by
 have h:=zds Bs p c zs hz w hBs hcell hc
 clear hcell hc
 go_enter Tryz.func158,Tryz.ntmps158
 go_wp2_with (go_at_call 186;refine h.mono ?_;rintro e w1 ⟨⟨q,cap,rfl,ho⟩,hb⟩)
 go_ret
 exact ⟨⟨q,cap,rfl,ho⟩,hb⟩
end Go.Proofs.YtimklglliffpcaaGreat
namespace Go.Proofs.YtimklglliffpcaaGreat
open Go.RowKit Go.Sort Go.Shelf
attribute [local go_sem] Oper.semAt_some
theorem Y7 {w:World} {q:Option Addr} {c:Nat} {l:List ByteArray} {j:Nat} {x:ByteArray} (h:SlOf jy 1 w q c l) (hj:l[j]? = some x):∃ b off,q=some ⟨b,off,none⟩/\b < w.heap.size/\w.cell? ⟨b,off + j,none⟩=some (.string x):=by
 obtain ⟨b,off,hq,hb,hc⟩:=h.2.2.2.at hj
 exact ⟨b,off,hq,hb,by have:=hc 0 (by omega);rw [Nat.mul_one] at this;exact this⟩
set_option maxRecDepth 100000 in
set_option maxHeartbeats 2000000 in
theorem Y0 (F:Fence) (n:Nat) (h53:F.fn 163) (hro:F.round=none) (hn:1<=n) (l Bs n₀:Nat) (p:Option Addr) (c:Nat) (zs:List ByteArray) (hz:zs.length<=100000000000000) (J Jx:List ByteArray->World->Prop)
    (W:World)
    (hY:∀ pre x W,J pre W->pre.length < zs.length->YieldAt F (n - 1) Tryz.prog l #[.string x] W fun e W' =>
      (e=.returned (.bool true)/\J (pre ++ [x]) W'/\Below n₀ W W') ∨ (e=.returned (.bool false)/\Jx (pre ++ [x]) W'))
    (hBs:W.cell? ⟨Bs,0,none⟩=some (.slice p zs.length c)) (hc:∀ j x,zs[j]? = some x->∃ b off,p=some ⟨b,off,none⟩/\b < n₀/\W.cell? ⟨b,off + j,none⟩=some (.string x)) (h0:J [] W) :
    CallsIn F n Tryz.prog 163 #[.func (.yield l) #[] #[],.pointer (some ⟨Bs,0,none⟩)] W fun e W'=>(∃ v,e=.returned v) /\
      ((∃ ys,ys=zs/\J ys W') ∨ (∃ pre,pre <+: zs/\Jx pre W')):=by
  have hz0:(zs.length:Int)<=100000000000000:=by omega
  refine callsIn_of_wp Tryz.func163 rfl h53 ?_ hro
  simp only [Tryz.ntmps163,List.size_toArray,List.length_cons,List.length_nil,Nat.reduceAdd,Nat.reduceSub,Array.replicate_succ,Array.replicate_zero,List.push_toArray,List.append_toArray,List.nil_append,List.cons_append]
  gi_wp2
  gi_loopw [7] (fun i wr=>∃ k:Nat,k<=zs.length/\i=.int .i64 k/\J (zs.take k) wr/\Below n₀ W wr)
    (fun i _=>zs.length - (intOf i).toNat)
  case atStart=>exact ⟨0,Nat.zero_le _,rfl,h0,Below.refl _ _⟩
  case round =>
    obtain ⟨k,hk,rfl,hJs,hnx⟩:=hrel
    by_cases hlt:k < zs.length
    · obtain ⟨x,hx,_⟩:=je hlt
      obtain ⟨b,off,hp,hb,c0⟩:=hc k x hx
      have d0:=(hnx.cell (p:=⟨b,off + k,none⟩) hb).trans c0
      obtain ⟨fn,tmps,assign,body,hy,hR⟩:=hY _ x _ hJs (by rw [List.length_take];omega)
      have hn1:=d9 hnx
      have ki0:(0:Int)<=(k:Int):=by omega
      have ki1:(k:Int) < (zs.length:Int):=by omega
      have HX:=d9 (jh hx)
      subst hp
      clear c0 hc hx hnx
      gi_wp2
      refine hR.mono ?_
      rintro e W3 (⟨rfl,hJ3,hk3⟩ | ⟨rfl,hJx3⟩)
      · gi_wp2
        go_roundw
        case rel=>exact ⟨k + 1,by omega,by go_num,by rw [uh HX];exact hJ3,(uh hn1).trans hk3⟩
        case measure=>simp [intOf];omega
      · gi_wp2
        refine bodyPost_ret (results_none rfl _ _ _) rfl ?_
        exact ⟨⟨_,rfl⟩,.inr ⟨_,by rw [<- uh HX];exact List.take_prefix _ _,hJx3⟩⟩
    · obtain rfl:k=zs.length:=by omega
      have ki1:¬ (zs.length:Int) < (zs.length:Int):=by omega
      gi_wp2
      go_end0
      exact ⟨⟨_,rfl⟩,.inl (by rw [List.take_length] at hJs;exact hJs)⟩
theorem J5 (F:Fence) (n:Nat) (h53:F.fn 163) (hro:F.round=none) (hn:1<=n) (Bs n₀:Nat) (p:Option Addr) (c:Nat) (zs:List ByteArray) (hz:zs.length<=100000000000000) (w:World) (hBs:Bs < w.heap.size) (hn₀:n₀<=w.heap.size)
  (hcell:w.cell? ⟨Bs,0,none⟩=some (.slice p zs.length c)) (hc:∀ j x,zs[j]? = some x->∃ b off,p=some ⟨b,off,none⟩/\b < n₀/\w.cell? ⟨b,off + j,none⟩=some (.string x)) :
  SeqStopsK F n Tryz.prog 163 #[.pointer (some ⟨Bs,0,none⟩)] (fun x:ByteArray=>#[.string x]) (Below n₀) (fun ys=>ys=zs) (fun pre=>pre <+: zs) zs.length w:=fun l J Jx W hW _ _ hY h0=>by
 refine Y0 F n h53 hro hn l Bs n₀ p c zs hz J Jx W hY ((hW.cell (p:=⟨Bs,0,none⟩) hBs).trans hcell) (fun j x hj=>?_) h0
 obtain ⟨b,off,hp,hb,c0⟩:=hc j x hj
 exact ⟨b,off,hp,hb,(hW.cell (p:=⟨b,off + j,none⟩) (by exact Nat.lt_of_lt_of_le hb hn₀)).trans c0⟩
theorem vj (x:ByteArray):(flatK jy 1 [x].toArray).toList=[.string x]:=by
 apply List.ext_getElem?
 intro j
 by_cases hj:j < 1
 ·have:=lj (enc:=jy) (k:=1) (l:=[x]) (j:=0) (x:=x) rfl j hj
  rw [Nat.zero_mul,Nat.zero_add] at this
  rw [this]
  have hm:j=0:=by omega
  rw [hm];rfl
 ·rw [List.getElem?_eq_none (by simp [flatK];omega),List.getElem?_eq_none (by simp;omega)]
theorem Jn (l:List ByteArray) (x:ByteArray):(flatK jy 1 (l ++ [x]).toArray).toList=(flatK jy 1 l.toArray).toList ++ [.string x]:=by rw [ma jy 1 (by decide),vj]
theorem zu {w:World} {b:Nat} {x:ByteArray} (h:w.heap[b]? = some (.cells #[.string x] 9 (0,0))):∀ (j:Nat) (u:Value),[Value.string x][j]? = some u->w.cell? ((⟨b,0,none⟩:Addr).add j)=some u:=by
 intro j u hj
 rw [nz,Nat.zero_add]
 have hc:w.cell? ⟨b,j,none⟩=(#[.string x]:Array Value)[j]?:=(by unfold World.cell?;simp [h])
 rw [hc]
 simpa using hj
set_option maxRecDepth 100000 in
set_option maxHeartbeats 2000000 in
theorem Yn (F:Fence) (n:Nat) (h60:F.fn 188) (h53:F.fn 163) (hro:F.round=none) (hn:3<=n) (Bs:Nat) (p:Option Addr) (c:Nat) (zs:List ByteArray) (hz:zs.length * 16<=140737488355328) (w:World) (hBs:Bs < w.heap.size)
    (hcell:w.cell? ⟨Bs,0,none⟩=some (.slice p zs.length c)) (hc:SlOf jy 1 w p c zs) :
    CallsIn F n Tryz.prog 188 #[.slice none 0 0,.func (.func 163) #[] #[.pointer (some ⟨Bs,0,none⟩)]] w fun e w'=>(∃ q cap,e=.returned (.slice q zs.length cap)/\OwnK jy 9 1 w.heap.size w' q cap zs)/\Below w.heap.size w w':=by
  have h1:1<=n:=by omega
  obtain ⟨i0,hi,hz0,hz1,hz2⟩:=info_parts Tryz.info9
  refine callsIn_of_wp_marks Tryz.func188 rfl h60 ?_ hro
  simp only [Tryz.ntmps188,List.size_toArray,List.length_cons,List.length_nil,Nat.reduceAdd,Nat.reduceSub,Array.replicate_succ,Array.replicate_zero,List.push_toArray,List.append_toArray,List.nil_append,List.cons_append]
  gi_wp2
  have bS:=Boxed.new w 24 (.slice none 0 0)
  have hB0:Below w.heap.size w (w.alloc (.cells #[.slice none 0 0] 24)):=(Below.refl _ w).alloc (Nat.le_refl _) _
  have hsz:(w.alloc (.cells #[.slice none 0 0] 24)).heap.size=w.heap.size + 1:=by simp
  have hcell':=(hB0.cell (p:=⟨Bs,0,none⟩) hBs).trans hcell
  have hc':∀ j x,zs[j]? = some x->∃ b off,p=some ⟨b,off,none⟩/\b < w.heap.size/\(w.alloc (.cells #[.slice none 0 0] 24)).cell? ⟨b,off + j,none⟩=some (.string x):=fun j x hj=>by
    obtain ⟨b,off,hp,hb,c0⟩:=Y7 hc hj
    exact ⟨b,off,hp,hb,(hB0.cell (p:=⟨b,off + j,none⟩) hb).trans c0⟩
  obtain ⟨W0,hW0⟩:∃ W0,w.alloc (.cells #[.slice none 0 0] 24)=W0:=⟨_,rfl⟩
  rw [hW0] at bS hB0 hsz hcell' hc' ⊢
  clear hW0 hcell hc
  refine wpIn_rangeFunc_ownH hro h1 (gf:=163) (lb:=#[.pointer (some ⟨Bs,0,none⟩)]) rfl h53 (enters_of Tryz.func163 (by kernel_rfl) rfl)
    (J5 F (n - 1) h53 hro (by omega) Bs w.heap.size p c zs (by omega) W0 (by omega) (by omega) hcell' hc') belowK_t (belowK_b (by omega)) (Below.refl _ _) (fun _=>rfl)
    (fun pre W=>(∃ v,Boxed W w.heap.size 24 v/\W.ownsRow w.heap.size 9 1 v pre.length (flatK jy 1 pre.toArray).toList/\True)/\Below w.heap.size w W)
    (fun _ _ _=>False)
    (OwnFrom.and (Own.from (holdsRow_own w.heap.size w.heap.size 24 9 1 (fun pre:List ByteArray=>pre.length) (fun pre=>(flatK jy 1 pre.toArray).toList) (fun _ _=>True)) _) (ownFrom_below (Nat.le_refl _) (by omega)))
    (fun _ _ _ _ _ hs _ _=>hs)
    ⟨⟨_,bS,by simpa [flatK] using World.ownsRow_nil W0 w.heap.size 9 1,trivial⟩,hB0⟩
    (fun x a' _=>a'={ tmps:=#[.slice none 0 0,.func (.func 163) #[] #[.pointer (some ⟨Bs,0,none⟩)],.pointer (some ⟨w.heap.size,0,none⟩),undef,.slice none 0 0,.string x,.func (.func 163) #[] #[.pointer (some ⟨Bs,0,none⟩)],.string x,undef,undef,undef,undef,undef],defers:=[] })
    (fun _ _ _ _ _ _ hs _ _=>hs)
    ?assign ?body ?done ?stop
  case assign =>
    rintro l pre x W K hi hK
    gi_wp2
    exact hK _ _ (KeepsFrom.refl _ _) (Below.refl _ _) hi rfl
  case body =>
    rintro l pre x a' W hl ⟨r,hr⟩ ⟨⟨v,bv,hrow,_⟩,hB1⟩ rfl hlt
    have cB:=bv.cell
    obtain ⟨q,cap,rfl,_⟩:=OwnK.shape hrow
    have hsW:=hB1.size
    gi_wp2_with (gi_at_builtin;refine wpListIn_append_own _ rfl _ _ 24 rfl w.heap.size 9 i0 (.string ⟨#[]⟩) 1 16 Tryz.underlying24 hi hz0 hz1 hz2 rfl (by decide) _ _ _ rfl (hrow.alloc _) ⟨W.heap.size,0,none⟩ 1 1 [.string x] rfl rfl (zu (World.alloc_heap_new W _)) (by simp [Value.oneCell']) (by unfold maxLen;omega) (by omega) (by simp;omega) ?_;intro v' w1 hown' hgrow _;obtain ⟨g',cap',rfl⟩:=ownsRow_succ hown';obtain ⟨hv1,hv2,hr2,hk2,hb2⟩:=bv.appended (by decide) hrow hB1.size (Nat.le_refl _) hown' hgrow;have hc1:=hv1.cell;have hf1:=hv1.frozen)
    exact ⟨hk2.from _,hb2,⟨_,hv2,(by rw [Jn,List.length_append];exact hr2),trivial⟩,hB1.trans hb2⟩
  case done =>
    rintro D ys W hD rfl ⟨⟨v,bv,hrow,_⟩,hB1⟩ hK
    have cB:=bv.cell
    obtain ⟨q,cap,rfl,_⟩:=OwnK.shape hrow
    gi_wp2
    refine ⟨by simp,.inl ⟨_,_,rfl,run_takeDeferred hK, ?_⟩⟩
    exact ⟨_,results_tmp rfl _ _ _,⟨q,cap,rfl,ownsRow_putObj hrow _ hK rfl⟩,hB1.trans (belowK_b (w:=w) (Nat.le_refl _) W D _ _ (by omega) hK rfl rfl)⟩
  case stop =>
    rintro D c pre W _ _ h _
    exact h.elim
theorem zdp (Bs:Nat) (p:Option Addr) (c:Nat) (zs:List ByteArray) (hz:zs.length * 16<=140737488355328) (w:World) (hBs:Bs < w.heap.size) (hcell:w.cell? ⟨Bs,0,none⟩=some (.slice p zs.length c)) (hc:SlOf jy 1 w p c zs) :
  Calls Tryz.prog 188 #[.slice none 0 0,.func (.func 163) #[] #[.pointer (some ⟨Bs,0,none⟩)]] w fun e w'=>(∃ q cap,e=.returned (.slice q zs.length cap)/\OwnK jy 9 1 w.heap.size w' q cap zs)/\Below w.heap.size w w' :=
 (Yn Fr 5 trivial trivial rfl (by decide) Bs p c zs hz w hBs hcell hc).calls fun _ _ h=>by cases h
theorem N4 (q:Option Addr) (n c:Nat) (w:World) :
  Calls Tryz.prog 121 #[.slice q n c] w fun e w'=>e=.returned (.func (.func 163) #[] #[.pointer (some ⟨w.heap.size,0,none⟩)])/\w'=w.alloc (.cells #[.slice q n c] 24):=by
 go_enter Tryz.func121,Tryz.ntmps121
 go_wp2
 go_ret
 exact ⟨rfl,rfl⟩
theorem Ta (Bs:Nat) (p:Option Addr) (c:Nat) (zs:List ByteArray) (hz:zs.length * 16<=140737488355328) (w:World) (hBs:Bs < w.heap.size) (hcell:w.cell? ⟨Bs,0,none⟩=some (.slice p zs.length c)) (hc:SlOf jy 1 w p c zs) :
  Calls Tryz.prog 161 #[.func (.func 163) #[] #[.pointer (some ⟨Bs,0,none⟩)]] w fun e w'=>(∃ q cap,e=.returned (.slice q zs.length cap)/\OwnK jy 9 1 w.heap.size w' q cap zs)/\Below w.heap.size w w':=by
 have h:=zdp Bs p c zs hz w hBs hcell hc
 clear hcell hc
 go_enter Tryz.func161,Tryz.ntmps161
 go_wp2_with (go_at_call 188;refine h.mono ?_;rintro e w1 ⟨⟨q,cap,rfl,ho⟩,hb⟩)
 go_ret
 exact ⟨⟨q,cap,rfl,ho⟩,hb⟩
end Go.Proofs.YtimklglliffpcaaGreat
namespace Go.Proofs.YtimklglliffpcaaGreat
theorem Po {α:Type} [Inhabited α] [DecidableEq α] (le lt:α->α->Prop) (hr:∀ a,le a a) (ha:∀ a b,le a b->le b a->a=b) (hl:∀ a b,le a b->a ≠ b->lt a b) (zs:List α) (hs:zs.Pairwise le) :
  (∀ x,x ∈ Lib.compact zs ↔ x ∈ zs)/\(Lib.compact zs).Pairwise lt:=by
 have hget:∀ j (h:j < zs.length),zs.toArray[j]! = zs[j]:=fun j h=>by simp [h]
 have hle:∀ i j (hi:i < zs.length) (hj:j < zs.length),i<=j->le zs[i] zs[j]:=fun i j hi hj hij=>by
  by_cases e:i=j
  ·subst e;exact hr _
  ·exact List.pairwise_iff_getElem.1 hs i j hi hj (by omega)
 have key:∀ m,m<=zs.length->(∀ x,x ∈ Lib.compactUpTo zs.toArray m ↔ x ∈ zs.take m)/\(Lib.compactUpTo zs.toArray m).Pairwise lt:=by
  intro m
  induction m with
  | zero=>intro _;simp [Lib.compactUpTo]
  | succ m ih =>
   intro hm
   obtain ⟨i1,i2⟩:=ih (by omega)
   have hml:m < zs.length:=by omega
   have ht:zs.take (m + 1)=zs.take m ++ [zs[m]]:=List.take_succ_eq_append_getElem hml
   rw [Lib.compactUpTo_succ,hget m hml]
   cases hk:Lib.keeps zs.toArray m with
   | true =>
    rw [if_pos rfl]
    refine ⟨fun x=>by rw [ht,List.mem_append,List.mem_append,i1],List.pairwise_append.2 ⟨i2,List.pairwise_singleton _ _,fun x hx y hy=>?_⟩⟩
    obtain rfl:y=zs[m]:=by simpa using hy
    rw [i1] at hx
    obtain ⟨i,hi,rfl⟩:=List.mem_take_iff_getElem.1 hx
    have him:i < m:=by omega
    refine hl _ _ (hle i m (by omega) hml (by omega)) fun e=>?_
    unfold Lib.keeps at hk
    simp only [decide_eq_true_eq] at hk
    rcases hk with hk | hk
    ·omega
    ·rw [hget m hml,hget (m - 1) (by omega)] at hk
     apply hk
     have h1:=hle i (m - 1) (by omega) (by omega) (by omega)
     have h2:=hle (m - 1) m (by omega) hml (by omega)
     rw [e] at h1
     exact ha _ _ h1 h2
   | false =>
    rw [if_neg (by simp),List.append_nil]
    refine ⟨fun x=>?_,i2⟩
    rw [i1,ht,List.mem_append]
    refine ⟨Or.inl,fun h=>?_⟩
    rcases h with h | h
    ·exact h
    ·obtain rfl:x=zs[m]:=by simpa using h
     unfold Lib.keeps at hk
     simp only [decide_eq_false_iff_not,not_or,Classical.not_not] at hk
     rw [hget m hml,hget (m - 1) (by omega)] at hk
     rw [hk.2]
     exact List.mem_take_iff_getElem.2 ⟨m - 1,by omega,rfl⟩
 have:=key zs.length (Nat.le_refl _)
 rw [List.take_length] at this
 exact this
theorem yh {α:Type} [Inhabited α] [DecidableEq α] (zs:List α):(Lib.compact zs).length<=zs.length:=by
 unfold Lib.compact Lib.compactUpTo
 rw [List.length_map]
 exact Nat.le_trans (List.length_filter_le _ _) (by simp)
/-- Numbers sorted, each once. -/
def mx (l:List Int):List Int:=Lib.compact (l.mergeSort fun x y=>decide (x<=y))
theorem nh (l:List Int):(∀ x,x ∈ mx l ↔ x ∈ l)/\(mx l).Pairwise (· < ·)/\(mx l).length<=l.length:=by
 have h:=List.pairwise_mergeSort (le:=fun x y:Int=>decide (x<=y)) (fun a b c h1 h2=>by simp only [decide_eq_true_eq] at *;omega) (fun a b=>by simp only [Bool.or_eq_true,decide_eq_true_eq];omega) l
 have hs:(l.mergeSort fun x y=>decide (x<=y)).Pairwise (·<=·):=h.imp fun {a b} hab=>by simpa using hab
 have hp:(l.mergeSort fun x y=>decide (x<=y)).Perm l:=List.mergeSort_perm _ _
 obtain ⟨h1,h2⟩:=Po (·<=·) (· < ·) (fun a=>Int.le_refl a) (fun a b h1 h2=>by omega) (fun a b h1 h2=>by omega) _ hs
 refine ⟨fun x=>(h1 x).trans hp.mem_iff,h2, ?_⟩
 have:=yh (l.mergeSort fun x y=>decide (x<=y))
 rw [hp.length_eq] at this
 exact this
/-- Words sorted, each once. -/
def mq (l:List ByteArray):List ByteArray:=(Lib.compact ((l.map (·.data.toList)).mergeSort fun x y=>decide (x<=y))).map fun s=>⟨s.toArray⟩
def ltS (a b:ByteArray):Prop:=ri a.data.toList b.data.toList < 0
theorem mj (l:List ByteArray):(∀ x,x ∈ mq l ↔ x ∈ l)/\(mq l).Pairwise ltS/\(mq l).length<=l.length:=by
 have hless:∀ a b:List UInt8,a<=b ↔ Op.bytesLess b a=false:=fun a b=>by
  rw [bytesLess_eq,decide_eq_false_iff_not];exact Iff.rfl
 have h:=List.pairwise_mergeSort (le:=fun x y:List UInt8=>decide (x<=y)) (fun a b c h1 h2=>by
   simp only [decide_eq_true_eq,hless] at *
   cases hc:Op.bytesLess c a with
   | false=>rfl
   | true =>
    cases hb:Op.bytesLess b c with
    | true=>rw [xh _ _ _ hb hc] at h1;cases h1
    | false =>
     by_cases e:b=c
     ·subst e;rw [h1] at hc;cases hc
     ·rw [q6 _ _ hb e] at h2;cases h2) (fun a b=>by
   simp only [Bool.or_eq_true,decide_eq_true_eq,hless]
   cases hc:Op.bytesLess b a with
   | false=>exact Or.inl rfl
   | true=>exact Or.inr (xb _ _ hc)) (l.map (·.data.toList))
 have hs:((l.map (·.data.toList)).mergeSort fun x y=>decide (x<=y)).Pairwise (fun a b=>Op.bytesLess b a=false):=h.imp fun {a b} hab=>(hless a b).1 (by simpa using hab)
 have hp:((l.map (·.data.toList)).mergeSort fun x y=>decide (x<=y)).Perm (l.map (·.data.toList)):=List.mergeSort_perm _ _
 obtain ⟨h1,h2⟩:=Po (fun a b:List UInt8=>Op.bytesLess b a=false) (fun a b=>Op.bytesLess a b=true) (fun a=>nt a) (fun a b h1 h2=>Classical.byContradiction fun e=>by rw [q6 _ _ h2 e] at h1;cases h1) (fun a b h1 h2=>q6 _ _ h1 (fun e=>h2 e.symm)) _ hs
 refine ⟨fun x=>?_, ?_, ?_⟩
 ·unfold mq
  rw [List.mem_map]
  constructor
  ·rintro ⟨s,hs1,rfl⟩
   have:=(hp.mem_iff).1 ((h1 s).1 hs1)
   obtain ⟨y,hy,rfl⟩:=List.mem_map.1 this
   exact hy
  ·intro hx
   exact ⟨x.data.toList,(h1 _).2 ((hp.mem_iff).2 (List.mem_map.2 ⟨x,hx,rfl⟩)),rfl⟩
 ·unfold mq
  rw [List.pairwise_map]
  exact h2.imp fun {a b} hab=>by unfold ltS;rw [qy (by simpa using hab)];decide
 ·unfold mq
  rw [List.length_map]
  have:=yh ((l.map (·.data.toList)).mergeSort fun x y=>decide (x<=y))
  rw [hp.length_eq,List.length_map] at this
  exact this
end Go.Proofs.YtimklglliffpcaaGreat
namespace Go.Proofs.YtimklglliffpcaaGreat
open Go.RowKit Go.Sort Go.Shelf
theorem Qd {α:Type} [Inhabited α] {enc:α->List Value} {e:TypeId} {k B c:Nat} {w:World} {q:Option Addr} {l:List α} (h:OwnK enc e k B w q c l) {a:Addr} (he:q=some a):B<=a.block:=by
 rcases h.2 with ⟨h1,_⟩ | ⟨g,cap',cur,hv,hB,hblk,_⟩
 ·injection h1 with h1;rw [he] at h1;cases h1
 ·injection hv with h1
  rw [he] at h1;cases h1
  exact hB
theorem SlOf.set {α:Type} [Inhabited α] {enc:α->List Value} {k c:Nat} {w:World} {q:Option Addr} {l:List α} (h:SlOf enc k w q c l) {b:Nat} (hne:∀ a,q=some a->a.block ≠ b) (o:Nat) (v:Value):SlOf enc k (w.setCell ⟨b,o,Option.none⟩ v) q c l:=by
 refine ⟨h.1,h.2.1,h.2.2.1,fun h0=>?_⟩
 obtain ⟨b',off,hq,hb,hc⟩:=h.2.2.2 h0
 refine ⟨b',off,hq,by simpa using hb,fun j u hj=>?_⟩
 rw [World.cell?_setCell_other w ⟨b,o,Option.none⟩ ⟨b',off + j,Option.none⟩ v (by intro g;injection g with g1;exact hne _ hq g1.symm)]
 exact hc j u hj
theorem zbf (l:List Int):(flatK jq 1 l.toArray).toList=l.map (Value.int .i64):=by
 induction l with
 | nil=>simp [flatK]
 | cons x l ih =>
  rw [show x :: l=[x] ++ l from rfl,ma jq 1 (by decide),vl,ih];rfl
theorem slI_of_holds {w:World} {g cap:Nat} {l:List Int} {m:List Int} (hg:g < w.heap.size) (hc:l.length<=cap) (hm:cap<=maxLen) (h:Holds (Value.int .i64) w g 0 (l ++ m).toArray):SlOf jq 1 w (some ⟨g,0,none⟩) cap l:=by
 refine ⟨(fun h=>by cases h),hc,hm,fun _=>⟨g,0,rfl,hg,fun j u hj=>?_⟩⟩
 rw [zbf,List.getElem?_map] at hj
 obtain ⟨x,hx,rfl⟩:=Option.map_eq_some_iff.1 hj
 have hl:=(List.getElem?_eq_some_iff.1 hx).1
 have hx2:(l ++ m)[j]? = some x:=by rw [List.getElem?_append_left hl];exact hx
 rw [(h j (by simp;omega)).1,De hx2]
theorem Dt {α:Type} [Inhabited α] {enc:α->Value} (w:World) (g n:Nat) (d:Array α) (os:Array Obj) (hg:g < w.heap.size):Below g w (grow (putRow enc (Sort.ahead w n) g 0 d) os):=by
 refine ⟨rfl,rfl,rfl,by simp [grow,putRow,mapBlock,Sort.ahead],fun j hj=>?_⟩
 simp only [grow,putRow,mapBlock,Sort.ahead]
 rw [Array.getElem?_append_left (by simp;omega)]
 simp [Array.getElem?_modify,show g ≠ j by omega]
theorem A2 {α:Type} [Inhabited α] {enc:α->Value} (w:World) (g n:Nat) (d:Array α):Below g w (putRow enc (Sort.ahead w n) g 0 d):=by
 refine ⟨rfl,rfl,rfl,by simp [putRow,mapBlock,Sort.ahead],fun j hj=>?_⟩
 simp only [putRow,mapBlock,Sort.ahead]
 simp [Array.getElem?_modify,show g ≠ j by omega]
theorem Zj (l:List ByteArray):(flatK jy 1 l.toArray).toList=(l.map (·.data.toList)).map encStr:=by
 induction l with
 | nil=>simp [flatK]
 | cons x l ih =>
  rw [show x :: l=[x] ++ l from rfl,ma jy 1 (by decide),vj,ih];rfl
theorem Ra (l:List ByteArray):(mq l).map (·.data.toList)=Lib.compact ((l.map (·.data.toList)).mergeSort fun x y=>decide (x<=y)):=by
 unfold mq
 rw [List.map_map]
 exact List.map_id _
theorem slS_of_holds {w:World} {g cap:Nat} {l:List ByteArray} {m:List ByteArray} (hg:g < w.heap.size) (hc:l.length<=cap) (hm:cap<=maxLen) (h:Holds encStr w g 0 ((l ++ m).map (·.data.toList)).toArray):SlOf jy 1 w (some ⟨g,0,none⟩) cap l:=by
 refine ⟨(fun h=>by cases h),hc,hm,fun _=>⟨g,0,rfl,hg,fun j u hj=>?_⟩⟩
 rw [Zj,List.getElem?_map] at hj
 obtain ⟨x,hx,rfl⟩:=Option.map_eq_some_iff.1 hj
 have hl:j < l.length:=by have:=(List.getElem?_eq_some_iff.1 hx).1;simpa using this
 have hx2:((l ++ m).map (·.data.toList))[j]? = some x:=by rw [List.map_append,List.getElem?_append_left (by simpa using hl)];exact hx
 rw [(h j (by simp;omega)).1,De hx2]
theorem Z2 (B:Nat) (q:Option Addr) (cap:Nat) (l:List Int) (w:World) (hl:l.length < 4611686018427387904) (h:OwnK jq 3 1 B w q cap l) :
  Calls Tryz.prog 159 #[.slice q l.length cap] w fun e w'=>e=.returned (.tuple #[])/\Below B w w'/\((l=[]/\SlOf jq 1 w' q cap l/\∀ a,q=some a->B<=a.block) ∨ ∃ g,q=some ⟨g,0,none⟩/\B<=g/\g < w'.heap.size/\l.length<=cap/\cap<=maxLen/\Holds (Value.int .i64) w' g 0 (l.mergeSort fun x y=>decide (x<=y)).toArray):=by
 by_cases h0:l.length=0
 ·obtain rfl:l=[]:=List.length_eq_zero_iff.1 h0
  have hcon:=Any.slices_Sort_int_none Tryz.sortI q cap w
  change Calls Tryz.prog 159 _ _ _ at hcon
  exact hcon.mono fun e w' ⟨he,hw⟩=>⟨he,by rw [hw];exact Below.refl _ _,Or.inl ⟨rfl,by rw [hw];exact h.ls,fun a e=>Qd h e⟩⟩
 ·have hrow:w.ownsRow B 3 1 (.slice q l.length cap) l.length (l.map (Value.int .i64)):=by have:=h;unfold OwnK at this;rw [zbf] at this;exact this
  have hne:(Value.slice q l.length cap) ≠ .slice none 0 0:=fun e=>by injection e with _ e2;omega
  obtain ⟨g,cap',hv,hB,hg,hnc,hm,_,hH⟩:=Lib.holds_of_ownsRow hrow hne
  injection hv with h1 h2 h3
  subst h1 h3
  have hcon:=Any.slices_Sort_int Tryz.sortI g 0 cap l w hH hg hl
  change Calls Tryz.prog 159 _ _ _ at hcon
  have hp:(l.mergeSort fun x y=>decide (x<=y)).Perm l:=List.mergeSort_perm _ _
  skip
  refine hcon.mono fun e w' ⟨he,n,os,hw⟩=>⟨he, ?_,Or.inr ⟨g,rfl,hB, ?_,hnc,hm, ?_⟩⟩
  ·rw [hw];exact (Dt w g n _ os hg).mono hB
  ·rw [hw];simp [grow];omega
  ·rw [hw]
   exact holds_grow _ _ _ _ _ _ (by simpa using hg) (holds_putRow _ _ _ _ l.toArray _ (holds_ahead _ _ _ _ _ _ hH) (by simp))
set_option maxRecDepth 100000 in
theorem Qa (Bs:Nat) (p:Option Addr) (c:Nat) (l:List Int) (hz:l.length * 8<=140737488355328) (w:World) (hBs:Bs < w.heap.size) (hcell:w.cell? ⟨Bs,0,none⟩=some (.slice p l.length c)) (hc:SlOf jq 1 w p c l) :
  Calls Tryz.prog 117 #[.func (.func 160) #[] #[.pointer (some ⟨Bs,0,none⟩)]] w fun e w'=>(∃ q cap,e=.returned (.slice q l.length cap)/\((l=[]/\SlOf jq 1 w' q cap l/\∀ a,q=some a->w.heap.size<=a.block) ∨ ∃ g,q=some ⟨g,0,none⟩/\w.heap.size<=g/\g < w'.heap.size/\l.length<=cap/\cap<=maxLen/\Holds (Value.int .i64) w' g 0 (l.mergeSort fun x y=>decide (x<=y)).toArray))/\Below w.heap.size w w':=by
 have h:=Q9 Bs p c l hz w hBs hcell hc
 clear hcell hc
 go_enter Tryz.func117,Tryz.ntmps117
 go_wp2_with (first
  | (go_at_call 158;refine h.mono ?_;rintro e w1 ⟨⟨q,cap,rfl,ho⟩,hb⟩;have HO:=d9 ho;have HB:=d9 hb;clear ho hb)
  | (go_at_call 159;refine (Z2 w.heap.size q cap l _ (by omega) (uh HO)).mono ?_;rintro e w2 ⟨rfl,hb2,hh2⟩;have HB2:=d9 hb2;have HH2:=d9 hh2;clear hb2 hh2))
 go_ret
 exact ⟨⟨q,cap,rfl,uh HH2⟩,(uh HB).trans (uh HB2)⟩
theorem Yh (B:Nat) (q:Option Addr) (cap:Nat) (l:List ByteArray) (w:World) (hl:l.length < 4611686018427387904) (h:OwnK jy 9 1 B w q cap l) :
  Calls Tryz.prog 162 #[.slice q l.length cap] w fun e w'=>e=.returned (.tuple #[])/\Below B w w'/\((l=[]/\SlOf jy 1 w' q cap l/\∀ a,q=some a->B<=a.block) ∨ ∃ g,q=some ⟨g,0,none⟩/\B<=g/\g < w'.heap.size/\l.length<=cap/\cap<=maxLen/\Holds encStr w' g 0 ((l.map (·.data.toList)).mergeSort fun x y=>decide (x<=y)).toArray):=by
 by_cases h0:l.length=0
 ·obtain rfl:l=[]:=List.length_eq_zero_iff.1 h0
  have hcon:=Any.slices_Sort_string_none Tryz.sortS q cap w
  change Calls Tryz.prog 162 _ _ _ at hcon
  exact hcon.mono fun e w' ⟨he,hw⟩=>⟨he,by rw [hw];exact Below.refl _ _,Or.inl ⟨rfl,by rw [hw];exact h.ls,fun a e=>Qd h e⟩⟩
 ·have hrow:w.ownsRow B 9 1 (.slice q l.length cap) (l.map (·.data.toList)).length ((l.map (·.data.toList)).map encStr):=by have:=h;unfold OwnK at this;rw [Zj] at this;rw [List.length_map];exact this
  have hlen:(l.map (·.data.toList)).length=l.length:=by simp
  rw [<- hlen] at hl
  have hne:(Value.slice q l.length cap) ≠ .slice none 0 0:=fun e=>by injection e with _ e2;omega
  obtain ⟨g,cap',hv,hB,hg,hnc,hm,_,hH⟩:=Lib.holds_of_ownsRow hrow hne
  injection hv with h1 h2 h3
  subst h1 h3
  have hcon:=Any.slices_Sort_string Tryz.sortS g 0 cap (l.map (·.data.toList)) w hH hg hl
  change Calls Tryz.prog 162 _ _ _ at hcon
  have hp:((l.map (·.data.toList)).mergeSort fun x y=>decide (x<=y)).Perm (l.map (·.data.toList)):=List.mergeSort_perm _ _
  rw [hlen] at hcon hnc
  refine hcon.mono fun e w' ⟨he,n,os,hw⟩=>⟨he, ?_,Or.inr ⟨g,rfl,hB, ?_,hnc,hm, ?_⟩⟩
  ·rw [hw];exact (Dt w g n _ os hg).mono hB
  ·rw [hw];simp [grow];omega
  ·rw [hw]
   exact holds_grow _ _ _ _ _ _ (by simpa using hg) (holds_putRow _ _ _ _ (l.map (·.data.toList)).toArray _ (holds_ahead _ _ _ _ _ _ hH) (by simp))
set_option maxRecDepth 100000 in
theorem Pb (Bs:Nat) (p:Option Addr) (c:Nat) (l:List ByteArray) (hz:l.length * 16<=140737488355328) (w:World) (hBs:Bs < w.heap.size) (hcell:w.cell? ⟨Bs,0,none⟩=some (.slice p l.length c)) (hc:SlOf jy 1 w p c l) :
  Calls Tryz.prog 120 #[.func (.func 163) #[] #[.pointer (some ⟨Bs,0,none⟩)]] w fun e w'=>(∃ q cap,e=.returned (.slice q l.length cap)/\((l=[]/\SlOf jy 1 w' q cap l/\∀ a,q=some a->w.heap.size<=a.block) ∨ ∃ g,q=some ⟨g,0,none⟩/\w.heap.size<=g/\g < w'.heap.size/\l.length<=cap/\cap<=maxLen/\Holds encStr w' g 0 ((l.map (·.data.toList)).mergeSort fun x y=>decide (x<=y)).toArray))/\Below w.heap.size w w':=by
 have h:=Ta Bs p c l hz w hBs hcell hc
 clear hcell hc
 go_enter Tryz.func120,Tryz.ntmps120
 go_wp2_with (first
  | (go_at_call 161;refine h.mono ?_;rintro e w1 ⟨⟨q,cap,rfl,ho⟩,hb⟩;have HO:=d9 ho;have HB:=d9 hb;clear ho hb)
  | (go_at_call 162;refine (Yh w.heap.size q cap l _ (by omega) (uh HO)).mono ?_;rintro e w2 ⟨rfl,hb2,hh2⟩;have HB2:=d9 hb2;have HH2:=d9 hh2;clear hb2 hh2))
 go_ret
 exact ⟨⟨q,cap,rfl,uh HH2⟩,(uh HB).trans (uh HB2)⟩
end Go.Proofs.YtimklglliffpcaaGreat
namespace Go.Proofs.YtimklglliffpcaaGreat
open Go.RowKit Go.Sort
theorem OwnK.from {α:Type} [Inhabited α] {enc:α->List Value} {k B:Nat} {e:TypeId} {w:World} {q:Option Addr} {cap:Nat} {l:List α} (h:OwnK enc e k B w q cap l):∀ a,q=some a->B<=a.block:=by
 intro a ha
 rcases h.2 with ⟨h0,_⟩ | ⟨g,cp,cur,hv,hB,_⟩
 ·injection h0 with h1;rw [ha] at h1;cases h1
 ·injection hv with h1;rw [ha] at h1;cases h1;exact hB
/-- The tree of v lies in memory, all of it in blocks from B on. -/
inductive NdFrom (w:World) (B:Nat):Nv->Nd->Prop
  | mk {kind:Int} {attr:ByteArray} {ints:List Int} {words:List ByteArray} {lo hi op:Int} {kids:List Nd} {qi:Option Addr} {ci:Nat} {qw:Option Addr} {cw:Nat} {qk:Option Addr} {ck:Nat} {vs:List Nv} :
      SlOf jq 1 w qi ci ints->SlOf jy 1 w qw cw words->SlOf rb 8 w qk ck vs->(∀ a,qi=some a->B<=a.block)->(∀ a,qw=some a->B<=a.block)->(∀ a,qk=some a->B<=a.block)->vs.length=kids.length->(∀ (j:Nat) (v:Nv) (x:Nd),vs[j]? = some v->kids[j]? = some x->NdFrom w B v x) ->
      NdFrom w B ⟨kind,attr,qi,ints.length,ci,qw,words.length,cw,lo,hi,op,qk,kids.length,ck⟩ (.mk kind attr ints words lo hi op kids)
theorem NdFrom.toIn {w:World} {B:Nat} {v:Nv} {t:Nd} (h:NdFrom w B v t):NdIn w v t:=by
 induction h with
 | mk hi hw hk _ _ _ hl hr ih=>exact .mk hi hw hk hl fun j v x hj hx=>ih j v x hj hx
theorem NdFrom.mono {w:World} {B B':Nat} {v:Nv} {t:Nd} (h:NdFrom w B v t) (hB:B'<=B):NdFrom w B' v t:=by
 induction h with
 | mk hi hw hk h1 h2 h3 hl hr ih=>exact .mk hi hw hk (fun a e=>Nat.le_trans hB (h1 a e)) (fun a e=>Nat.le_trans hB (h2 a e)) (fun a e=>Nat.le_trans hB (h3 a e)) hl fun j v x hj hx=>ih j v x hj hx
/-- A later world that has the same cells from B on. -/
def SameUp (B:Nat) (w w':World):Prop:=w.heap.size<=w'.heap.size/\∀ b o,B<=b->b < w.heap.size->w'.cell? ⟨b,o,none⟩=w.cell? ⟨b,o,none⟩
theorem SlOf.up {α:Type} [Inhabited α] {enc:α->List Value} {k B:Nat} {w w':World} {q:Option Addr} {c:Nat} {l:List α} (h:SlOf enc k w q c l) (hq:∀ a,q=some a->B<=a.block) (hu:SameUp B w w'):SlOf enc k w' q c l:=by
 refine ⟨h.1,h.2.1,h.2.2.1,fun h0=>?_⟩
 obtain ⟨b,off,rfl,hB,hA⟩:=h.2.2.2 h0
 exact ⟨b,off,rfl,Nat.lt_of_lt_of_le hB hu.1,fun j u hj=>(hu.2 b (off + j) (hq _ rfl) hB).trans (hA j u hj)⟩
theorem NdFrom.up {w w':World} {B:Nat} {v:Nv} {t:Nd} (h:NdFrom w B v t) (hu:SameUp B w w'):NdFrom w' B v t:=by
 induction h with
 | mk hi hw hk h1 h2 h3 hl hr ih=>exact .mk (hi.up h1 hu) (hw.up h2 hu) (hk.up h3 hu) h1 h2 h3 hl fun j v x hj hx=>ih j v x hj hx
theorem SameUp.of {B:Nat} {w w':World} (h:Below w.heap.size w w'):SameUp B w w':=⟨h.size,fun b o _ hb=>h.cell (p:=⟨b,o,none⟩) hb⟩
theorem SameUp.trans {B:Nat} {x y z:World} (h:SameUp B x y) (k:SameUp B y z):SameUp B x z:=⟨Nat.le_trans h.1 k.1,fun b o h1 h2=>(k.2 b o h1 (Nat.lt_of_lt_of_le h2 h.1)).trans (h.2 b o h1 h2)⟩
theorem SameUp.grown {B g:Nat} {w w':World} (h:w.grownBy w' (some g)) (hg:g < B):SameUp B w w':=⟨h.size,fun b o h1 h2=>World.cell?_of_block (w:=w) (a:=⟨b,o,none⟩) (h.block b h2 (fun e=>by cases e;omega))⟩
theorem NdFrom.keep {w w':World} {B:Nat} {v:Nv} {t:Nd} (h:NdFrom w B v t) (hb:Below w.heap.size w w'):NdFrom w' B v t:=h.up (SameUp.of hb)
theorem NdFrom.make {w:World} {B:Nat} {kind:Int} {attr:ByteArray} {ints:List Int} {words:List ByteArray} {lo hi op:Int} {kids:List Nd} {qi:Option Addr} {ci:Nat} {qw:Option Addr} {cw:Nat} {qk:Option Addr} {ck:Nat} {vs:List Nv}
 (h1:SlOf jq 1 w qi ci ints) (f1:∀ a,qi=some a->B<=a.block) (h2:SlOf jy 1 w qw cw words) (f2:∀ a,qw=some a->B<=a.block) (h3:SlOf rb 8 w qk ck vs) (f3:∀ a,qk=some a->B<=a.block) (hl:vs.length=kids.length) (hr:∀ (j:Nat) (v:Nv) (x:Nd),vs[j]? = some v->kids[j]? = some x->NdFrom w B v x) :
 NdFrom w B ⟨kind,attr,qi,ints.length,ci,qw,words.length,cw,lo,hi,op,qk,kids.length,ck⟩ (.mk kind attr ints words lo hi op kids):=.mk h1 h2 h3 f1 f2 f3 hl hr
set_option maxRecDepth 100000 in
set_option maxHeartbeats 1000000 in
theorem Je (q:Option Addr) (c:Nat) (l:List Int) (w:World) (h:SlOf jq 1 w q c l) (hl:l.length<=1000000000000) :
  Calls Tryz.prog 97 #[.slice q l.length c] w fun e w'=>∃ q' c',e=.returned (.slice q' l.length c')/\OwnK jq 3 1 w.heap.size w' q' c' l/\Below w.heap.size w w':=by
 cases q with
 | none =>
  obtain ⟨h0,rfl⟩:=h.1 rfl
  obtain rfl:l=[]:=List.length_eq_zero_iff.1 h0
  have heq:=fun (w:World)=>Lib.run_eql_slice_nil (P:=Tryz.prog) w 23 3 none 0 0 0 0 Tryz.underlying23
  clear h h0
  go_enter Tryz.func97,Tryz.ntmps97
  go_wp2
  go_ret
  exact ⟨none,0,rfl,OwnK.nil _ _,Below.refl _ _⟩
 | some a =>
  have HS:=d9 h
  have heq:=fun (w:World)=>Lib.run_eql_slice_nil (P:=Tryz.prog) w 23 3 (some a) l.length c 0 0 Tryz.underlying23
  clear h
  go_enter Tryz.func97,Tryz.ntmps97
  go_wp2_with (at_builtin;refine jm Kf rfl _ _ rfl w.heap.size (some ⟨w.heap.size,0,none⟩) 0 [] (some a) c l 0 l.length l.length rfl rfl (by omega) rfl rfl (OwnK.made _ _ (Nat.le_refl _)) ((uh HS).below ((Below.refl _ _).alloc (Nat.le_refl _) _)).src (by unfold maxLen;omega) (by omega) (by simp) ?_;intro q2 c2 w2 hown2 hb2 _ hg2)
  go_ret
  exact ⟨q2,c2,rfl,by simpa using hown2,((Below.refl _ _).alloc (Nat.le_refl _) _).trans hb2⟩
set_option maxRecDepth 100000 in
set_option maxHeartbeats 1000000 in
theorem Pi (q:Option Addr) (c:Nat) (l:List ByteArray) (w:World) (h:SlOf jy 1 w q c l) (hl:l.length<=1000000000000) :
  Calls Tryz.prog 176 #[.slice q l.length c] w fun e w'=>∃ q' c',e=.returned (.slice q' l.length c')/\OwnK jy 9 1 w.heap.size w' q' c' l/\Below w.heap.size w w':=by
 cases q with
 | none =>
  obtain ⟨h0,rfl⟩:=h.1 rfl
  obtain rfl:l=[]:=List.length_eq_zero_iff.1 h0
  have heq:=fun (w:World)=>Lib.run_eql_slice_nil (P:=Tryz.prog) w 24 9 none 0 0 0 0 Tryz.underlying24
  clear h h0
  go_enter Tryz.func176,Tryz.ntmps176
  go_wp2
  go_ret
  exact ⟨none,0,rfl,OwnK.nil _ _,Below.refl _ _⟩
 | some a =>
  have HS:=d9 h
  have heq:=fun (w:World)=>Lib.run_eql_slice_nil (P:=Tryz.prog) w 24 9 (some a) l.length c 0 0 Tryz.underlying24
  clear h
  go_enter Tryz.func176,Tryz.ntmps176
  go_wp2_with (at_builtin;refine jm Ju rfl _ _ rfl w.heap.size (some ⟨w.heap.size,0,none⟩) 0 [] (some a) c l 0 l.length l.length rfl rfl (by omega) rfl rfl (OwnK.made _ _ (Nat.le_refl _)) ((uh HS).below ((Below.refl _ _).alloc (Nat.le_refl _) _)).src (by unfold maxLen;omega) (by omega) (by simp) ?_;intro q2 c2 w2 hown2 hb2 _ hg2)
  go_ret
  exact ⟨q2,c2,rfl,by simpa using hown2,((Below.refl _ _).alloc (Nat.le_refl _) _).trans hb2⟩
set_option maxRecDepth 100000 in
set_option maxHeartbeats 1000000 in
theorem zbg (q:Option Addr) (c:Nat) (l:List Nv) (w:World) (h:SlOf rb 8 w q c l) (hl:l.length<=1000000000000) :
  Calls Tryz.prog 181 #[.slice q l.length c] w fun e w'=>∃ q' c',e=.returned (.slice q' l.length c')/\OwnK rb 56 8 w.heap.size w' q' c' l/\Below w.heap.size w w':=by
 cases q with
 | none =>
  obtain ⟨h0,rfl⟩:=h.1 rfl
  obtain rfl:l=[]:=List.length_eq_zero_iff.1 h0
  have heq:=fun (w:World)=>Lib.run_eql_slice_nil (P:=Tryz.prog) w 54 56 none 0 0 0 0 Tryz.underlying54
  clear h h0
  go_enter Tryz.func181,Tryz.ntmps181
  go_wp2
  go_ret
  exact ⟨none,0,rfl,OwnK.nil _ _,Below.refl _ _⟩
 | some a =>
  have HS:=d9 h
  have heq:=fun (w:World)=>Lib.run_eql_slice_nil (P:=Tryz.prog) w 54 56 (some a) l.length c 0 0 Tryz.underlying54
  clear h
  go_enter Tryz.func181,Tryz.ntmps181
  go_wp2_with (at_builtin;refine jm Zo rfl _ _ rfl w.heap.size (some ⟨w.heap.size,0,none⟩) 0 [] (some a) c l 0 l.length l.length rfl rfl (by omega) rfl rfl (OwnK.made _ _ (Nat.le_refl _)) ((uh HS).below ((Below.refl _ _).alloc (Nat.le_refl _) _)).src (by unfold maxLen;omega) (by omega) (by simp) ?_;intro q2 c2 w2 hown2 hb2 _ hg2)
  go_ret
  exact ⟨q2,c2,rfl,by simpa using hown2,((Below.refl _ _).alloc (Nat.le_refl _) _).trans hb2⟩
end Go.Proofs.YtimklglliffpcaaGreat
namespace Go.Proofs.YtimklglliffpcaaGreat
open Go.RowKit
theorem Rz (t:Nd):1<=Md t:=by cases t;simp only [Md];omega
theorem pl (l:List Nd):l.length<=Aw l:=by
 induction l with
 | nil=>simp
 | cons x l ih=>have:=Rz x;simp only [Aw,List.length_cons];omega
end Go.Proofs.YtimklglliffpcaaGreat
namespace Go.Proofs.YtimklglliffpcaaGreat
open Go.RowKit
theorem Gt {α:Type} {l m:List α} {k:Nat} {x:α} (h:l.take k=m.take k) (hx:l[k]? = some x) (hy:m[k]? = some x):l.take (k + 1)=m.take (k + 1):=by
 rw [jh hx,jh hy,h]
theorem V8 {α:Type} {l m:List α} {k:Nat} {x y:α} (hx:l[k]? = some x) (hy:m[k]? = some y) (h:x ≠ y):l ≠ m:=fun e=>by subst e;rw [hx] at hy;cases hy;exact h rfl
theorem NdsOf.cells {w wr:World} {q:Option Addr} {c:Nat} {l:List Nd} {j:Nat} {x:Nd} (h:NdsOf w q c l) (hj:l[j]? = some x) (hbel:Below w.heap.size w wr) :
  ∃ b off v,q=some ⟨b,off,none⟩/\b < wr.heap.size/\NdIn wr v x/\(wr.cell? ⟨b,off + j * 8,none⟩=some (.int .i64 v.kind)/\wr.cell? ⟨b,off + j * 8 + 1,none⟩=some (.string v.attr)/\wr.cell? ⟨b,off + j * 8 + 2,none⟩=some (.slice v.qi v.ni v.ci)/\wr.cell? ⟨b,off + j * 8 + 3,none⟩=some (.slice v.qw v.nw v.cw)/\wr.cell? ⟨b,off + j * 8 + 4,none⟩=some (.int .i64 v.lo)/\wr.cell? ⟨b,off + j * 8 + 5,none⟩=some (.int .i64 v.hi)/\wr.cell? ⟨b,off + j * 8 + 6,none⟩=some (.int .i64 v.op)/\wr.cell? ⟨b,off + j * 8 + 7,none⟩=some (.slice v.qk v.nk v.ck)):=by
 obtain ⟨b,off,v,hq,hb,hin,c⟩:=(h.below hbel).at hj
 exact ⟨b,off,v,hq,hb,hin,c⟩
end Go.Proofs.YtimklglliffpcaaGreat
namespace Go.Proofs.YtimklglliffpcaaGreat
open Go.RowKit Go.Sort
theorem yp (l:List Nv) (j:Nat) (x:Nv) (h:l[j]? = some x) (c:Nat) (hc:c < 8):(flatK rb 8 l.toArray).toList[j * 8 + c]? = some ((rb x)[c]!):=lj h c hc
theorem Db (l:List Nv):(flatK rb 8 l.toArray).toList.length=l.length * 8:=by simp
theorem Mj (l:List Nv) (k:Nat) (v:Nv) (hk:k < l.length):(flatK rb 8 (l.set k v).toArray).toList=(((((((((flatK rb 8 l.toArray).toList).set (k * 8) (.int .i64 v.kind)).set (k * 8 + 1) (.string v.attr)).set (k * 8 + 2) (.slice v.qi v.ni v.ci)).set (k * 8 + 3) (.slice v.qw v.nw v.cw)).set (k * 8 + 4) (.int .i64 v.lo)).set (k * 8 + 5) (.int .i64 v.hi)).set (k * 8 + 6) (.int .i64 v.op)).set (k * 8 + 7) (.slice v.qk v.nk v.ck):=by
 apply List.ext_getElem?
 intro i
 by_cases hi:i < l.length * 8
 ·have hq:i / 8 < l.length:=by omega
  have hi2:i=i / 8 * 8 + i % 8:=by omega
  by_cases h:i / 8=k
  ·have h1:(l.set k v)[k]? = some v:=by rw [List.getElem?_set_self hk]
   have h2:=yp (l.set k v) k v h1 (i % 8) (by omega)
   have hlen:=Db l
   rw [h] at hi2
   have hm:i % 8=0 ∨ i % 8=1 ∨ i % 8=2 ∨ i % 8=3 ∨ i % 8=4 ∨ i % 8=5 ∨ i % 8=6 ∨ i % 8=7:=by omega
   rcases hm with e | e | e | e | e | e | e | e
   all_goals
    rw [e] at hi2 h2
    rw [hi2,h2]
    simp [List.getElem?_set,rb]
    omega
  ·obtain ⟨x,hx,_⟩:=je hq
   have h1:(l.set k v)[i / 8]? = some x:=by rw [List.getElem?_set_ne (by omega)];exact hx
   have h2:=yp (l.set k v) (i / 8) x h1 (i % 8) (by omega)
   have h3:=yp l (i / 8) x hx (i % 8) (by omega)
   rw [<- hi2] at h2 h3
   rw [h2]
   rw [List.getElem?_set_ne (by omega),List.getElem?_set_ne (by omega),List.getElem?_set_ne (by omega),List.getElem?_set_ne (by omega),List.getElem?_set_ne (by omega),List.getElem?_set_ne (by omega),List.getElem?_set_ne (by omega),List.getElem?_set_ne (by omega),h3]
 ·rw [List.getElem?_eq_none (by rw [Db];simp;omega),List.getElem?_eq_none (by simp;omega)]
/-- A node stored into a row of the call's own. -/
theorem Q8 {B g c:Nat} {w:World} {l:List Nv} {k:Nat} (h:OwnK rb 56 8 B w (some ⟨g,0,none⟩) c l) (hk:k < l.length) (v:Nv) :
    OwnK rb 56 8 B (((((((((w).setCell ⟨g,k * 8,none⟩ (.int .i64 v.kind)).setCell ⟨g,k * 8 + 1,none⟩ (.string v.attr)).setCell ⟨g,k * 8 + 2,none⟩ (.slice v.qi v.ni v.ci)).setCell ⟨g,k * 8 + 3,none⟩ (.slice v.qw v.nw v.cw)).setCell ⟨g,k * 8 + 4,none⟩ (.int .i64 v.lo)).setCell ⟨g,k * 8 + 5,none⟩ (.int .i64 v.hi)).setCell ⟨g,k * 8 + 6,none⟩ (.int .i64 v.op)).setCell ⟨g,k * 8 + 7,none⟩ (.slice v.qk v.nk v.ck)) (some ⟨g,0,none⟩) c (l.set k v)/\SameUp (g + 1) w (((((((((w).setCell ⟨g,k * 8,none⟩ (.int .i64 v.kind)).setCell ⟨g,k * 8 + 1,none⟩ (.string v.attr)).setCell ⟨g,k * 8 + 2,none⟩ (.slice v.qi v.ni v.ci)).setCell ⟨g,k * 8 + 3,none⟩ (.slice v.qw v.nw v.cw)).setCell ⟨g,k * 8 + 4,none⟩ (.int .i64 v.lo)).setCell ⟨g,k * 8 + 5,none⟩ (.int .i64 v.hi)).setCell ⟨g,k * 8 + 6,none⟩ (.int .i64 v.op)).setCell ⟨g,k * 8 + 7,none⟩ (.slice v.qk v.nk v.ck)):=by
  unfold OwnK at h
  have h0:=World.ownsRow.stored h (k * 8) (.int .i64 v.kind)
  have h1:=World.ownsRow.stored h0.1 (k * 8 + 1) (.string v.attr)
  have h2:=World.ownsRow.stored h1.1 (k * 8 + 2) (.slice v.qi v.ni v.ci)
  have h3:=World.ownsRow.stored h2.1 (k * 8 + 3) (.slice v.qw v.nw v.cw)
  have h4:=World.ownsRow.stored h3.1 (k * 8 + 4) (.int .i64 v.lo)
  have h5:=World.ownsRow.stored h4.1 (k * 8 + 5) (.int .i64 v.hi)
  have h6:=World.ownsRow.stored h5.1 (k * 8 + 6) (.int .i64 v.op)
  have h7:=World.ownsRow.stored h6.1 (k * 8 + 7) (.slice v.qk v.nk v.ck)
  refine ⟨?_, ?_⟩
  · unfold OwnK
    rw [Mj l k v hk,List.length_set]
    exact h7.1
  · exact (((((((SameUp.grown h0.2 (by omega)).trans (SameUp.grown h1.2 (by omega))).trans (SameUp.grown h2.2 (by omega))).trans (SameUp.grown h3.2 (by omega))).trans (SameUp.grown h4.2 (by omega))).trans (SameUp.grown h5.2 (by omega))).trans (SameUp.grown h6.2 (by omega))).trans (SameUp.grown h7.2 (by omega))
theorem Js {B g:Nat} {a w:World} (h:Below B a w) (hg:B<=g) (k:Nat) (v:Nv):Below B a (((((((((w).setCell ⟨g,k * 8,none⟩ (.int .i64 v.kind)).setCell ⟨g,k * 8 + 1,none⟩ (.string v.attr)).setCell ⟨g,k * 8 + 2,none⟩ (.slice v.qi v.ni v.ci)).setCell ⟨g,k * 8 + 3,none⟩ (.slice v.qw v.nw v.cw)).setCell ⟨g,k * 8 + 4,none⟩ (.int .i64 v.lo)).setCell ⟨g,k * 8 + 5,none⟩ (.int .i64 v.hi)).setCell ⟨g,k * 8 + 6,none⟩ (.int .i64 v.op)).setCell ⟨g,k * 8 + 7,none⟩ (.slice v.qk v.nk v.ck)):=((((((((h).setCell hg _).setCell hg _).setCell hg _).setCell hg _).setCell hg _).setCell hg _).setCell hg _).setCell hg _
/-- What clone has to do at a tree. -/
def Ns (x:Nd):Prop:=∀ (v:Nv) (w:World),NdIn w v x->wtN x<=1000000000->Calls Tryz.prog 148 #[v.val] w fun e w'=>∃ v',e=.returned v'.val/\NdFrom w' w.heap.size v' x/\Below w.heap.size w w'
theorem OwnK.cases {B c:Nat} {w:World} {q:Option Addr} {l:List Nv} (h:OwnK rb 56 8 B w q c l):(q=none/\l=[]/\c=0) ∨ ∃ g,q=some ⟨g,0,none⟩/\B<=g/\g < w.heap.size/\∀ o,w.frozen? ⟨g,o,none⟩=false:=by
 rcases h.2 with ⟨h0,hl⟩ | ⟨g,cp,cur,hv,hB,hblk,_⟩
 ·injection h0 with h1 h2 h3
  exact Or.inl ⟨h1,List.length_eq_zero_iff.1 h2,h3⟩
 ·injection hv with h1
  exact Or.inr ⟨g,h1,hB,(Array.getElem?_eq_some_iff.1 hblk).1,fun o=>gy hblk⟩
theorem OwnK.cells {B g c:Nat} {w:World} {l:List Nv} {j:Nat} {v:Nv} (h:OwnK rb 56 8 B w (some ⟨g,0,none⟩) c l) (hj:l[j]? = some v):w.cell? ⟨g,j * 8,none⟩=some (.int .i64 v.kind)/\w.cell? ⟨g,j * 8 + 1,none⟩=some (.string v.attr)/\w.cell? ⟨g,j * 8 + 2,none⟩=some (.slice v.qi v.ni v.ci)/\w.cell? ⟨g,j * 8 + 3,none⟩=some (.slice v.qw v.nw v.cw)/\w.cell? ⟨g,j * 8 + 4,none⟩=some (.int .i64 v.lo)/\w.cell? ⟨g,j * 8 + 5,none⟩=some (.int .i64 v.hi)/\w.cell? ⟨g,j * 8 + 6,none⟩=some (.int .i64 v.op)/\w.cell? ⟨g,j * 8 + 7,none⟩=some (.slice v.qk v.nk v.ck):=by
 obtain ⟨b,off,hq,_,hc⟩:=h.ls.2.2.2.at hj
 cases hq
 have hh:=fun c hc'=>hc c hc'
 simp only [Nat.zero_add] at hh
 exact ⟨hh 0 (by omega),hh 1 (by omega),hh 2 (by omega),hh 3 (by omega),hh 4 (by omega),hh 5 (by omega),hh 6 (by omega),hh 7 (by omega)⟩
theorem OwnK.free {B g c:Nat} {w:World} {l:List Nv} (h:OwnK rb 56 8 B w (some ⟨g,0,none⟩) c l):g < w.heap.size/\∀ o,w.frozen? ⟨g,o,none⟩=false:=by
 rcases h.cases with ⟨h0,_⟩ | ⟨g',h1,_,h2,h3⟩
 ·cases h0
 ·cases h1;exact ⟨h2,h3⟩
theorem rj {w:World} {N:Nat} {a0 a1 a2 a3 a4 a5 a6 a7:Value} {T:TypeId} (h:w.heap[N]? = some (.cells #[a0,a1,a2,a3,a4,a5,a6,a7] T (0,0))):w.cell? ⟨N,0,none⟩=some a0/\w.cell? ⟨N,1,none⟩=some a1/\w.cell? ⟨N,2,none⟩=some a2/\w.cell? ⟨N,3,none⟩=some a3/\w.cell? ⟨N,4,none⟩=some a4/\w.cell? ⟨N,5,none⟩=some a5/\w.cell? ⟨N,6,none⟩=some a6/\w.cell? ⟨N,7,none⟩=some a7:=by
 refine ⟨?_, ?_, ?_, ?_, ?_, ?_, ?_, ?_⟩ <;> (unfold World.cell?;simp [h])
/-- What cloneAll answers. -/
def Xt (B:Nat) (w':World) (kids:List Nd) (e:Ending):Prop:=∃ q' c' vs',e=.returned (.slice q' kids.length c')/\OwnK rb 56 8 B w' q' c' vs'/\vs'.length=kids.length/\∀ (j:Nat) (v:Nv) (x:Nd),vs'[j]? = some v->kids[j]? = some x->NdFrom w' B v x
set_option maxHeartbeats 4000000 in
theorem yb (q:Option Addr) (c:Nat) (kids:List Nd) (w:World) (hk:NdsOf w q c kids) (ih:∀ x ∈ kids,Ns x) (hwt:wtL kids<=1000000000) :
  Calls Tryz.prog 149 #[.slice q kids.length c] w fun e w'=>Xt w.heap.size w' kids e/\Below w.heap.size w w':=by
 obtain ⟨vs,hs,hvl,hin⟩:=hk
 have hln:=pl kids
 have hln2:=po kids
 have hcl:=zbg q c vs w hs (by omega)
 rw [hvl] at hcl
 have IH:=d9 ih
 have HIN:=d9 hin
 have a0:(kids.length:Int)<=1000000000:=by omega
 clear ih hin hs
 go_enter Tryz.func149,Tryz.ntmps149
 go_wp2_with (go_at_call 181;refine hcl.mono ?_;rintro e w1 ⟨q1,c1,rfl,o1,b1⟩;have O1:=d9 o1;have B1:=d9 b1;clear o1 b1)
 clear hcl
 rcases (uh O1).cases with ⟨rfl,rfl,rfl⟩ | ⟨g,rfl,hgB,hg,hfz⟩
 ·have h0:kids=[]:=List.length_eq_zero_iff.1 (by simpa using hvl.symm)
  subst h0
  simp only [List.length_nil,Int.natCast_zero] at *
  go_loopw [10] (fun i wr=>i=.int .i64 0/\Hid (wr=w1)) (fun _ _=>0)
  case atStart=>exact ⟨rfl,d9 rfl⟩
  case round =>
   obtain ⟨rfl,hwr⟩:=hrel
   obtain rfl:=(uh hwr).symm
   go_wp2
   go_ret
   exact ⟨⟨none,0,[],rfl,OwnK.nil _ _,rfl,fun j v x h=>by simp at h⟩,uh B1⟩
 ·clear hfz
  go_loopw [10] (fun i wr=>∃ (k:Nat) (us:List Nv),k<=kids.length/\i=.int .i64 k/\us.length=k/\OwnK rb 56 8 w.heap.size wr (some ⟨g,0,none⟩) c1 (us ++ vs.drop k)/\(∀ (j:Nat) (v:Nv) (x:Nd),us[j]? = some v->kids[j]? = some x->NdFrom wr (g + 1) v x)/\Below w.heap.size w wr/\g < wr.heap.size) (fun i _=>kids.length - (intOf i).toNat)
  case atStart=>exact ⟨0,[],by omega,rfl,rfl,by simpa using uh O1,fun j v x h=>by simp at h,uh B1,hg⟩
  case round =>
   obtain ⟨k,us,hkk,rfl,hus,hown,hfr,hbel,hgr⟩:=hrel
   clear O1 B1 hg
   obtain ⟨U,rfl⟩:∃ U,U=wr:=⟨_,rfl⟩
   by_cases hlt:k < kids.length
   ·obtain ⟨x,hx,hxd⟩:=je hlt
    obtain ⟨v,hv,hvd⟩:=je (l:=vs) (k:=k) (by omega)
    have hvk:(us ++ vs.drop k)[k]? = some v:=by
     rw [List.getElem?_append_right (by omega),hus,Nat.sub_self,hvd];rfl
    obtain ⟨y0,y1,y2,y3,y4,y5,y6,y7⟩:=hown.cells hvk
    have ki0:(0:Int)<=(k:Int):=by omega
    have ki1:(k:Int) < (kids.length:Int):=by omega
    have hxm:x ∈ kids:=List.mem_of_getElem? hx
    have hxs:=qc hxm
    obtain ⟨Y,HY⟩:∃ Y,U.alloc (.cells #[.int .i64 v.kind,.string v.attr,.slice v.qi v.ni v.ci,.slice v.qw v.nw v.cw,.int .i64 v.lo,.int .i64 v.hi,.int .i64 v.op,.slice v.qk v.nk v.ck] 56)=Y:=⟨_,rfl⟩
    have hM:Y.heap[U.heap.size]? = some (.cells #[.int .i64 v.kind,.string v.attr,.slice v.qi v.ni v.ci,.slice v.qw v.nw v.cw,.int .i64 v.lo,.int .i64 v.hi,.int .i64 v.op,.slice v.qk v.nk v.ck] 56 (0,0)):=by rw [<- HY];simp [World.alloc,-World.alloc_eq]
    have hUY:Below U.heap.size U Y:=by rw [<- HY];exact (Below.refl _ _).alloc (Nat.le_refl _) _
    obtain ⟨m0,m1,m2,m3,m4,m5,m6,m7⟩:=rj hM
    have hYs:=hUY.size
    have hws:=hbel.size
    have hcx:=uh IH x hxm v Y (((uh HIN k v x hv hx).keep hbel).keep hUY) (by omega)
    simp only [Nv.val] at hcx
    have HOY:=d9 (hown.below hUY)
    have HUY:=d9 hUY
    have HB:=d9 hbel
    have HFR:=d9 hfr
    have HUS:=d9 hus
    have HVD:=d9 hvd
    have HXX:=d9 hx
    have HL:=d9 (show k < (us ++ vs.drop k).length by rw [List.length_append,hus,List.length_drop];omega)
    clear hown hfr hbel hUY hus hvd hx hxd hvk hM hv hxm
    go_wp2_with (go_at_call 148;refine hcx.mono ?_;rintro e w2 ⟨v',rfl,f2,b2⟩;have HO2:=d9 ((uh HOY).below b2);have F2:=d9 f2;have B2:=d9 b2;obtain ⟨z0,z1,z2,z3,z4,z5,z6,z7⟩:=(uh HO2).cells (j:=k) (v:=v) (by rw [List.getElem?_append_right (by have:=uh HUS;omega),uh HUS,Nat.sub_self,uh HVD];rfl);obtain ⟨hgg,hff⟩:=(uh HO2).free;clear f2 b2)
    obtain ⟨o3,u3⟩:=Q8 (uh HO2) (uh HL) v'
    have hset:(us ++ vs.drop k).set k v'=(us ++ [v']) ++ vs.drop (k + 1):=by
     rw [List.set_append_right _ _ (by have:=uh HUS;omega),uh HUS,Nat.sub_self,uh HVD];simp
    rw [hset] at o3
    refine ⟨⟨k + 1,us ++ [v'],by omega,congrArg (Value.int .i64) (by omega),by rw [List.length_append,uh HUS];rfl,o3, ?_,Js ((uh HB).trans (((uh HUY).mono hws).trans ((uh B2).mono (by omega)))) hgB k v',by simpa using hgg⟩,by simp [intOf];omega⟩
    intro j y z hj hz
    by_cases hjk:j < k
    ·rw [List.getElem?_append_left (by have:=uh HUS;omega)] at hj
     exact (((uh HFR j y z hj hz).keep (uh HUY)).keep (uh B2)).up u3
    ·have hj2:=(List.getElem?_eq_some_iff.1 hj).1
     rw [List.length_append,uh HUS] at hj2
     obtain rfl:j=k:=by simp at hj2;omega
     rw [List.getElem?_append_right (by have:=uh HUS;omega),uh HUS,Nat.sub_self] at hj
     rw [uh HXX] at hz
     cases hj
     cases hz
     exact ((uh F2).mono (by omega)).up u3
   ·have ki1:¬ (k:Int) < (kids.length:Int):=by omega
    have HO:=d9 hown
    have HFR:=d9 hfr
    have HB:=d9 hbel
    clear hown hfr hbel
    go_wp2
    go_ret
    refine ⟨⟨some ⟨g,0,none⟩,c1,us,rfl, ?_,by omega,fun j y z hj hz=>(uh HFR j y z hj hz).mono (by omega)⟩,uh HB⟩
    have:=uh HO
    rw [List.drop_of_length_le (by omega),List.append_nil] at this
    exact this
theorem jf (w:World) (o:Obj):(w.alloc o).heap[w.heap.size]? = some o:=by simp [World.alloc,-World.alloc_eq]
theorem SameUp.set {B:Nat} {a w:World} (h:SameUp B a w) {p:Addr} (hp:p.block < B) (u:Value):SameUp B a (w.setCell p u) :=
 h.trans ⟨by simp,fun b o h1 _=>World.cell?_of_block (w:=w) (a:=⟨b,o,none⟩) (Below.heap_setCell w p u b (by show b ≠ p.block;omega))⟩
set_option maxHeartbeats 4000000 in
theorem Ry (kind:Int) (attr:ByteArray) (qi:Option Addr) (ci:Nat) (ints:List Int) (qw:Option Addr) (cw:Nat) (words:List ByteArray) (lo hi op:Int) (qk:Option Addr) (ck:Nat) (kids:List Nd) (w:World) (h1:SlOf jq 1 w qi ci ints) (h2:SlOf jy 1 w qw cw words) (hk:NdsOf w qk ck kids) (ih:∀ x ∈ kids,Ns x) (l1:ints.length<=1000000000) (l2:words.length<=1000000000) (l3:wtL kids<=1000000000) :
  Calls Tryz.prog 148 #[.agg #[.int .i64 kind,.string attr,.slice qi ints.length ci,.slice qw words.length cw,.int .i64 lo,.int .i64 hi,.int .i64 op,.slice qk kids.length ck]] w fun e w'=>∃ v',e=.returned v'.val/\NdFrom w' w.heap.size v' (.mk kind attr ints words lo hi op kids)/\Below w.heap.size w w':=by
 obtain ⟨X,HX⟩:∃ X,(w.alloc (.cells #[.int .i64 kind,.string attr,.slice qi ints.length ci,.slice qw words.length cw,.int .i64 lo,.int .i64 hi,.int .i64 op,.slice qk kids.length ck] 56)).alloc (.cells #[.int .i64 0,.string ⟨#[]⟩,.slice none 0 0,.slice none 0 0,.int .i64 0,.int .i64 0,.int .i64 0,.slice none 0 0] 56)=X:=⟨_,rfl⟩
 have hXs:X.heap.size=w.heap.size + 2:=by rw [<- HX];simp
 have hwX:Below w.heap.size w X:=by rw [<- HX];exact ((Below.refl _ _).alloc (Nat.le_refl _) _).alloc (by simp) _
 have hX0:X.heap[w.heap.size]? = some (.cells #[.int .i64 kind,.string attr,.slice qi ints.length ci,.slice qw words.length cw,.int .i64 lo,.int .i64 hi,.int .i64 op,.slice qk kids.length ck] 56 (0,0)):=by rw [<- HX,Below.heap_alloc _ _ _ (by simp)];simp [World.alloc,-World.alloc_eq]
 have hX1:X.heap[w.heap.size + 1]? = some (.cells #[.int .i64 0,.string ⟨#[]⟩,.slice none 0 0,.slice none 0 0,.int .i64 0,.int .i64 0,.int .i64 0,.slice none 0 0] 56 (0,0)):=by rw [<- HX,show w.heap.size + 1=(w.alloc (.cells #[.int .i64 kind,.string attr,.slice qi ints.length ci,.slice qw words.length cw,.int .i64 lo,.int .i64 hi,.int .i64 op,.slice qk kids.length ck] 56)).heap.size by simp];exact jf _ _
 obtain ⟨x0,x1,x2,x3,x4,x5,x6,x7⟩:=rj hX0
 obtain ⟨y0,y1,y2,y3,y4,y5,y6,y7⟩:=rj hX1
 have xf:∀ o,X.frozen? ⟨w.heap.size,o,none⟩=false:=fun o=>gy hX0
 have yf:∀ o,X.frozen? ⟨w.heap.size + 1,o,none⟩=false:=fun o=>gy hX1
 have c1:=Je qi ci ints X (h1.below hwX) (by omega)
 have c2:=fun w' (hb:Below w.heap.size w w')=>Pi qw cw words w' (h2.below hb) (by omega)
 have c3:=fun w' (hb:Below w.heap.size w w')=>yb qk ck kids w' (hk.below hb) ih l3
 have HWX:=d9 hwX
 clear h1 h2 hk ih hwX hX0 hX1
 go_enter Tryz.func148,Tryz.ntmps148
 go_wp2_with (first
  | (go_at_call 97;refine c1.mono ?_;rintro e w1 ⟨q1,k1,rfl,o1,b1⟩;obtain ⟨hc1,hf1⟩:=Gi b1;have hz1:w.heap.size + 1 < w1.heap.size:=(by have:=b1.size;omega);have hz1':w.heap.size < w1.heap.size:=(by omega);rw [hXs] at hc1 hf1;have O1:=d9 o1;have B1:=d9 b1;clear o1 b1)
  | (go_at_call 176;refine (c2 _ (by exact (d8 (uh HWX) (uh B1)).setCell (Nat.le_refl _) _)).mono ?_;rintro e w2 ⟨q2,k2,rfl,o2,b2⟩;obtain ⟨hc2,hf2⟩:=Gi b2;simp only [World.size_setCell] at hc2 hf2;have hz2:w.heap.size + 1 < w2.heap.size:=(by have:=b2.size;simp at this;omega);have hz2':w.heap.size < w2.heap.size:=(by omega);have O2:=d9 o2;have B2:=d9 b2;clear o2 b2)
  | (go_at_call 149;refine (c3 _ (by exact (d8 ((d8 (uh HWX) (uh B1)).setCell (Nat.le_refl _) _) (uh B2)).setCell (Nat.le_refl _) _)).mono ?_;rintro e w3 ⟨⟨q3,k3,vs3,rfl,o3,l3',f3⟩,b3⟩;obtain ⟨hc3,hf3⟩:=Gi b3;have hz3:w.heap.size + 1 < w3.heap.size:=(by have:=b3.size;simp at this;omega);have hz3':w.heap.size < w3.heap.size:=(by omega);have O3:=d9 o3;have B3:=d9 b3;have F3:=d9 f3;have L3:=d9 l3';clear o3 b3 f3 l3'))
 refine bodyPost_ret (v:=.agg #[.int .i64 kind,.string attr,.slice q1 ints.length k1,.slice q2 words.length k2,.int .i64 lo,.int .i64 hi,.int .i64 op,.slice q3 kids.length k3]) (by simp [results,Tryz.results148,go_sem, *]) rfl ?_
 have s1:=(uh B1).size
 have s2:=(uh B2).size
 have s3:=(uh B3).size
 simp only [World.size_setCell] at s2 s3
 have u0:∀ (W:World),SameUp (w.heap.size + 2) W W:=fun W=>SameUp.of (Below.refl _ _)
 have u3:=(((((((((u0 w3).set (p:=⟨w.heap.size,7,none⟩) (by simp) (.slice q3 kids.length k3)).set (p:=⟨w.heap.size + 1,0,none⟩) (by simp) (.int .i64 kind)).set (p:=⟨w.heap.size + 1,1,none⟩) (by simp) (.string attr)).set (p:=⟨w.heap.size + 1,2,none⟩) (by simp) (.slice q1 ints.length k1)).set (p:=⟨w.heap.size + 1,3,none⟩) (by simp) (.slice q2 words.length k2)).set (p:=⟨w.heap.size + 1,4,none⟩) (by simp) (.int .i64 lo)).set (p:=⟨w.heap.size + 1,5,none⟩) (by simp) (.int .i64 hi)).set (p:=⟨w.heap.size + 1,6,none⟩) (by simp) (.int .i64 op)).set (p:=⟨w.heap.size + 1,7,none⟩) (by simp) (.slice q3 kids.length k3)
 have u2:=(((u0 w2).set (p:=⟨w.heap.size,3,none⟩) (by simp) (.slice q2 words.length k2)).trans (SameUp.of (uh B3))).trans u3
 have u1:=(((u0 w1).set (p:=⟨w.heap.size,2,none⟩) (by simp) (.slice q1 ints.length k1)).trans (SameUp.of (uh B2))).trans u2
 have g1:∀ a,q1=some a->w.heap.size + 2<=a.block:=fun a e=>by have:=(uh O1).from a e;omega
 have g2:∀ a,q2=some a->w.heap.size + 2<=a.block:=fun a e=>by have:=(uh O2).from a e;simp only [World.size_setCell] at this;omega
 have g3:∀ a,q3=some a->w.heap.size + 2<=a.block:=fun a e=>by have:=(uh O3).from a e;simp only [World.size_setCell] at this;omega
 refine ⟨⟨kind,attr,q1,ints.length,k1,q2,words.length,k2,lo,hi,op,q3,kids.length,k3⟩,rfl, ?_, ?_⟩
 ·have hf:∀ (j:Nat) (v:Nv) (x:Nd),vs3[j]? = some v->kids[j]? = some x->NdFrom _ (w.heap.size + 2) v x:=fun j v x hj hx=>((uh F3 j v x hj hx).mono (by simp only [World.size_setCell];omega)).up u3
  exact (NdFrom.make ((uh O1).ls.up g1 u1) g1 ((uh O2).ls.up g2 u2) g2 ((uh O3).ls.up g3 u3) g3 (uh L3) hf).mono (by omega)
 ·exact ((((((((((d8 ((d8 ((d8 (uh HWX) (uh B1)).setCell (Nat.le_refl _) _) (uh B2)).setCell (Nat.le_refl _) _) (uh B3)).setCell (Nat.le_refl _) _).setCell (Nat.le_succ _) _).setCell (Nat.le_succ _) _).setCell (Nat.le_succ _) _).setCell (Nat.le_succ _) _).setCell (Nat.le_succ _) _).setCell (Nat.le_succ _) _).setCell (Nat.le_succ _) _).setCell (Nat.le_succ _) _)
theorem Ew:∀ x,Ns x:=by
 intro t
 induction t using Nd.ind with
 | h kind attr ints words lo hi op kids ih =>
  intro v w hin hwt
  obtain ⟨qi,ci,qw,cw,qk,ck,rfl,h1,h2,hk⟩:=hin.parts
  simp only [wtN] at hwt
  have hwl:=pz words
  exact Ry kind attr qi ci ints qw cw words lo hi op qk ck kids w h1 h2 hk ih (by omega) (by omega) (by omega)
end Go.Proofs.YtimklglliffpcaaGreat
namespace Go.Proofs.YtimklglliffpcaaGreat
open Go.RowKit Go.Sort
/-- A tree in new memory. -/
def NewT (B:Nat) (w':World) (t:Nd) (e:Ending):Prop:=∃ v',e=.returned v'.val/\NdFrom w' B v' t
def Yz:Nd:=.mk 0 ⟨#[]⟩ [] [] 0 0 0 []
def At (op:Int) (kids:List Nd):Nd:=match kids with
 | []=>Yz
 | [x]=>x
 | _=>.mk 0 ⟨#[]⟩ [] [] 0 0 op kids
theorem Km (op:Int) {kids:List Nd} (h:2<=kids.length):At op kids=.mk 0 ⟨#[]⟩ [] [] 0 0 op kids:=by
 match kids,h with
 | _ :: _ :: _,_=>rfl
theorem li {B:Nat}:∀ a:Addr,(none:Option Addr)=some a->B<=a.block:=fun _ h=>by cases h
set_option maxHeartbeats 1000000 in
theorem By (kind:Int) (attr:ByteArray) (qi:Option Addr) (ni ci:Nat) (qw:Option Addr) (nw cw:Nat) (lo hi:Int) (w:World) :
  Calls Tryz.prog 96 #[.agg #[.int .i64 kind,.string attr,.slice qi ni ci,.slice qw nw cw,.int .i64 lo,.int .i64 hi]] w fun e w'=>e=.returned (.agg #[.int .i64 kind,.string attr,.slice qi ni ci,.slice qw nw cw,.int .i64 lo,.int .i64 hi,.int .i64 1,.slice none 0 0])/\Below w.heap.size w w':=by
 go_enter Tryz.func96,Tryz.ntmps96
 go_wp2
 refine bodyPost_ret (v:=.agg #[.int .i64 kind,.string attr,.slice qi ni ci,.slice qw nw cw,.int .i64 lo,.int .i64 hi,.int .i64 1,.slice none 0 0]) (by simp [results,Tryz.results96,go_sem]) rfl ⟨rfl, ?_⟩
 exact ((Below.refl _ _).alloc (Nat.le_refl _) _).alloc (by simp) _
theorem j4 {B g:Nat} {a w:World} (h:Below B a w) (hg:B<=g) (a0 a1 a2 a3 a4 a5 a6 a7:Value):Below B a ((((((((w.setCell ⟨g,0,none⟩ a0).setCell ⟨g,1,none⟩ a1).setCell ⟨g,2,none⟩ a2).setCell ⟨g,3,none⟩ a3).setCell ⟨g,4,none⟩ a4).setCell ⟨g,5,none⟩ a5).setCell ⟨g,6,none⟩ a6).setCell ⟨g,7,none⟩ a7) :=
 (((((((h.setCell hg _).setCell hg _).setCell hg _).setCell hg _).setCell hg _).setCell hg _).setCell hg _).setCell hg _
theorem mo {B g:Nat} (w:World) (hg:g < B) (a0 a1 a2 a3 a4 a5 a6 a7:Value):SameUp B w ((((((((w.setCell ⟨g,0,none⟩ a0).setCell ⟨g,1,none⟩ a1).setCell ⟨g,2,none⟩ a2).setCell ⟨g,3,none⟩ a3).setCell ⟨g,4,none⟩ a4).setCell ⟨g,5,none⟩ a5).setCell ⟨g,6,none⟩ a6).setCell ⟨g,7,none⟩ a7) :=
 (((((((((SameUp.of (Below.refl _ _)).set hg _).set hg _).set hg _).set hg _).set hg _).set hg _).set hg _).set hg _)
/-- The cell of a result, behind calls. -/
theorem Z6 {w w1:World} (hb:Below (w.alloc (.cells #[.int .i64 0,.string ⟨#[]⟩,.slice none 0 0,.slice none 0 0,.int .i64 0,.int .i64 0,.int .i64 0,.slice none 0 0] 56)).heap.size (w.alloc (.cells #[.int .i64 0,.string ⟨#[]⟩,.slice none 0 0,.slice none 0 0,.int .i64 0,.int .i64 0,.int .i64 0,.slice none 0 0] 56)) w1) :
    w.heap.size < w1.heap.size/\(w1.cell? ⟨w.heap.size,0,none⟩=some (.int .i64 0)/\w1.cell? ⟨w.heap.size,1,none⟩=some (.string ⟨#[]⟩)/\w1.cell? ⟨w.heap.size,2,none⟩=some (.slice none 0 0)/\w1.cell? ⟨w.heap.size,3,none⟩=some (.slice none 0 0)/\w1.cell? ⟨w.heap.size,4,none⟩=some (.int .i64 0)/\w1.cell? ⟨w.heap.size,5,none⟩=some (.int .i64 0)/\w1.cell? ⟨w.heap.size,6,none⟩=some (.int .i64 0)/\w1.cell? ⟨w.heap.size,7,none⟩=some (.slice none 0 0))/\∀ o,w1.frozen? ⟨w.heap.size,o,none⟩=false:=by
  have hs:=hb.size
  have hlt:w.heap.size < (w.alloc (.cells #[.int .i64 0,.string ⟨#[]⟩,.slice none 0 0,.slice none 0 0,.int .i64 0,.int .i64 0,.int .i64 0,.slice none 0 0] 56)).heap.size:=by simp
  have hh:=(hb.block _ hlt).trans (jf w _)
  exact ⟨by simp at hs;omega,rj hh,fun o=>gy hh⟩
set_option maxHeartbeats 2000000 in
theorem Vc (attr:ByteArray) (q:Option Addr) (c:Nat) (l:List Int) (w:World) (h:SlOf jq 1 w q c l) (hl:l.length<=1000000000000) :
  Calls Tryz.prog 43 #[.string attr,.slice q l.length c] w fun e w'=>NewT w.heap.size w' (.mk 1 attr l [] 0 0 1 []) e/\Below w.heap.size w w':=by
 have hc:=Je q c l _ (h.below ((Below.refl w.heap.size w).alloc (Nat.le_refl _) (.cells #[.int .i64 0,.string ⟨#[]⟩,.slice none 0 0,.slice none 0 0,.int .i64 0,.int .i64 0,.int .i64 0,.slice none 0 0] 56))) hl
 clear h hl
 have B0:=d9 ((Below.refl w.heap.size w).alloc (Nat.le_refl _) (.cells #[.int .i64 0,.string ⟨#[]⟩,.slice none 0 0,.slice none 0 0,.int .i64 0,.int .i64 0,.int .i64 0,.slice none 0 0] 56))
 go_enter Tryz.func43,Tryz.ntmps43
 go_wp2_with (first
  | (go_at_call 97;refine hc.mono ?_;rintro e w1 ⟨q1,k1,rfl,o1,b1⟩;have O1:=d9 o1;have B1:=d9 b1;clear o1 b1)
  | (go_at_call 96;refine (By _ _ _ _ _ _ _ _ _ _ _).mono ?_;rintro e w2 ⟨rfl,b2⟩;obtain ⟨z1,⟨r0,r1,r2,r3,r4,r5,r6,r7⟩,rf⟩:=Z6 (d8 (uh B1) b2);have B2:=d9 b2;clear b2))
 refine bodyPost_ret (v:=.agg #[.int .i64 1,.string attr,.slice q1 l.length k1,.slice none 0 0,.int .i64 0,.int .i64 0,.int .i64 1,.slice none 0 0]) (by simp [results,Tryz.results43,go_sem, *]) rfl ?_
 have s1:=(uh B1).size
 simp at s1
 have f1:∀ a,q1=some a->w.heap.size + 1<=a.block:=fun a e=>by have:=(uh O1).from a e;simp at this;omega
 refine ⟨⟨⟨1,attr,q1,l.length,k1,none,0,0,0,0,1,none,0,0⟩,rfl, ?_⟩,j4 (d8 (d8 (uh B0) (uh B1)) (uh B2)) (Nat.le_refl _) _ _ _ _ _ _ _ _⟩
 exact (NdFrom.make (kids:=[]) (vs:=[]) ((uh O1).ls.up f1 ((SameUp.of (uh B2)).trans (mo (B:=w.heap.size + 1) (g:=w.heap.size) _ (Nat.lt_succ_self _) _ _ _ _ _ _ _ _))) f1 (SlOf.none _) li (SlOf.none _) li rfl (fun j v x h=>by simp at h)).mono (Nat.le_succ _)
end Go.Proofs.YtimklglliffpcaaGreat
namespace Go.Proofs.YtimklglliffpcaaGreat
open Go.RowKit Go.Sort
theorem LsOf.take {α:Type} [Inhabited α] {enc:α->List Value} {k:Nat} {w:World} {q:Option Addr} {l m:List α} (hk:0 < k) (h:LsOf enc k w q (l ++ m)):LsOf enc k w q l:=fun h0=>by
 obtain ⟨b,off,hq,hb,hA⟩:=h (by simp;omega)
 refine ⟨b,off,hq,hb,fun j u hj=>hA j u ?_⟩
 rw [ma enc k hk,List.getElem?_append_left (List.getElem?_eq_some_iff.1 hj).1];exact hj
theorem zdr {B:Nat} {w:World} {q:Option Addr} {cap:Nat} {l:List Int} (h:OwnK jq 3 1 B w q cap (l ++ [-77,-78])):∃ g,q=some ⟨g,0,none⟩:=by
 rcases h.2 with ⟨h0,_⟩ | ⟨g,cp,cur,hv,_⟩
 ·injection h0 with _ h1;simp at h1
 ·injection hv with h1;exact ⟨g,h1⟩
theorem zco (n:Nat) (h:n * 8<=140737488355328):∃ cur:Array Value,cur.size=n * 1/\∀ W:World,(Instr.makeSlice 23 (.int .i64 0) (.int .i64 (n:Int))).run Tryz.prog W=.ok (.slice (some ⟨W.heap.size,0,none⟩) 0 n) (W.alloc (.cells cur 3)):=by
 obtain ⟨i0,hi,hz0,hz1,hz2⟩:=info_parts Tryz.info3
 refine ⟨madeCells (Value.cells (.int .i64 0)) (n * i0.size),by rw [size_madeCells,hz1],fun W=>?_⟩
 have:=run_make (P:=Tryz.prog) W 23 3 i0 _ Tryz.underlying23 hi hz0 .i64 .i64 0 (n:Int) (Int.le_refl _) (by omega) (by rw [hz2];omega) (by omega)
 simpa only [Int.toNat_zero,Int.toNat_natCast] using this
theorem zdd {B:Nat} {w:World} {n:Nat} {cur:Array Value} (hB:B<=w.heap.size) (hn:n<=maxLen) (hs:cur.size=n * 1):OwnK jq 3 1 B (w.alloc (.cells cur 3)) (some ⟨w.heap.size,0,none⟩) n []:=by
 have:(flatK jq 1 ([]:List Int).toArray).toList=[]:=by simp [flatK]
 unfold OwnK;rw [this];exact World.ownsRow_made w cur n hB hn hs
theorem zdg {w:World} {M:Nat} {x y:Int} (h:w.heap[M]? = some (.cells #[.int .i64 x,.int .i64 y] 3 (0,0))):Cg jq 1 w (some ⟨M,0,none⟩) 2 [x,y]:=by
 refine ⟨(fun h=>by cases h),fun ad hq j u hj=>?_⟩
 cases hq
 rw [nz,Nat.zero_add]
 have hs:=(List.getElem?_eq_some_iff.1 hj).1
 simp at hs
 have hc:w.cell? ⟨M,j,none⟩=(#[.int .i64 x,.int .i64 y]:Array Value)[j]?:=(by unfold World.cell?;simp [h])
 rw [hc]
 obtain rfl | rfl:j=0 ∨ j=1:=by omega
 ·exact (lj (enc:=jq) (k:=1) (l:=[x,y]) (j:=0) (x:=x) rfl 0 (by omega)).symm.trans hj
 ·exact (lj (enc:=jq) (k:=1) (l:=[x,y]) (j:=1) (x:=y) rfl 0 (by omega)).symm.trans hj
def spI:List Int:=[-77,-78]
set_option maxHeartbeats 1000000 in
set_option maxRecDepth 100000 in
theorem zd0 (q:Option Addr) (c:Nat) (l:List Int) (w:World) (h:SlOf jq 1 w q c l) (hl:l.length * 8 + 64<=140737488355328) :
  Calls Tryz.prog 48 #[.slice q l.length c] w fun e w'=>(∃ g cp,e=.returned (.slice (some ⟨g,0,none⟩) l.length cp)/\OwnK jq 3 1 w.heap.size w' (some ⟨g,0,none⟩) cp (l ++ spI)/\l.length + 2<=cp)/\Below w.heap.size w w':=by
 have HS:=d9 h
 have l0:(0:Int)<=(l.length:Int):=by omega
 obtain ⟨cur,hcs,hmk⟩:=zco (l.length + 2) (by omega)
 have hmk':∀ W:World,(Instr.makeSlice 23 (.int .i64 0) (.int .i64 ((l.length:Int) + 2))).run Tryz.prog W=.ok (.slice (some ⟨W.heap.size,0,none⟩) 0 (l.length + 2)) (W.alloc (.cells cur 3)):=fun W=>by have:=hmk W;rwa [Int.natCast_add] at this
 have Hcs:=d9 hcs
 clear h hmk hcs
 go_enter Tryz.func48,Tryz.ntmps48
 go_wp2_with (first
  | (at_builtin;refine jm Kf rfl _ _ rfl w.heap.size q8 cp8 l (some ⟨w8.heap.size,0,none⟩) 2 spI l.length 2 (l.length + 2) rfl rfl rfl rfl rfl ((uh Hown8).below ((Below.refl _ _).alloc (Nat.le_refl _) _)) (zdg (jf _ _)) (by unfold maxLen;omega) (by omega) (by have:=(uh B8).size;simp;omega) ?_;intro q9 cp9 w9 hown9 hb9 hnn9 _;obtain ⟨g9,hg9⟩:=zdr hown9;subst hg9;have hc9:=hown9.ls.2.1;have c9:(l.length:Int)<=(cp9:Int):=(by simp [spI] at hc9;omega);have Hown9:=d9 hown9;have B9:=d9 (((uh B8).alloc (uh B8).size _).trans hb9);clear hown9 hb9 hnn9)
  | (at_builtin;refine jm Kf rfl _ _ rfl w.heap.size (some ⟨w.heap.size,0,none⟩) (l.length + 2) [] q c l 0 l.length l.length rfl rfl (by simp) rfl rfl (zdd (Nat.le_refl _) (by unfold maxLen;omega) (uh Hcs)) ((uh HS).below ((Below.refl _ _).alloc (Nat.le_refl _) _)).src (by unfold maxLen;omega) (by omega) (by simp) ?_;intro q8 cp8 w8 hown8 hb8 _ _;have Hown8:=d9 hown8;have B8:=d9 (((Below.refl w.heap.size w).alloc (Nat.le_refl _) (.cells cur 3)).trans hb8);clear hown8 hb8))
 go_ret
 exact ⟨⟨g9,cp9,rfl,uh Hown9,by simp [spI] at hc9;exact hc9⟩,uh B9⟩
theorem zdv {B:Nat} {w:World} {q:Option Addr} {cap:Nat} {l:List ByteArray} (h:OwnK jy 9 1 B w q cap (l ++ [⟨#[115,112,97,114,101]⟩,⟨#[114,111,111,109]⟩])):∃ g,q=some ⟨g,0,none⟩:=by
 rcases h.2 with ⟨h0,_⟩ | ⟨g,cp,cur,hv,_⟩
 ·injection h0 with _ h1;simp at h1
 ·injection hv with h1;exact ⟨g,h1⟩
theorem zch (n:Nat) (h:n * 16<=140737488355328):∃ cur:Array Value,cur.size=n * 1/\∀ W:World,(Instr.makeSlice 24 (.int .i64 0) (.int .i64 (n:Int))).run Tryz.prog W=.ok (.slice (some ⟨W.heap.size,0,none⟩) 0 n) (W.alloc (.cells cur 9)):=by
 obtain ⟨i0,hi,hz0,hz1,hz2⟩:=info_parts Tryz.info9
 refine ⟨madeCells (Value.cells (.string ⟨#[]⟩)) (n * i0.size),by rw [size_madeCells,hz1],fun W=>?_⟩
 have:=run_make (P:=Tryz.prog) W 24 9 i0 _ Tryz.underlying24 hi hz0 .i64 .i64 0 (n:Int) (Int.le_refl _) (by omega) (by rw [hz2];omega) (by omega)
 simpa only [Int.toNat_zero,Int.toNat_natCast] using this
theorem zdj {B:Nat} {w:World} {n:Nat} {cur:Array Value} (hB:B<=w.heap.size) (hn:n<=maxLen) (hs:cur.size=n * 1):OwnK jy 9 1 B (w.alloc (.cells cur 9)) (some ⟨w.heap.size,0,none⟩) n []:=by
 have:(flatK jy 1 ([]:List ByteArray).toArray).toList=[]:=by simp [flatK]
 unfold OwnK;rw [this];exact World.ownsRow_made w cur n hB hn hs
theorem zdz {w:World} {M:Nat} {x y:ByteArray} (h:w.heap[M]? = some (.cells #[.string x,.string y] 9 (0,0))):Cg jy 1 w (some ⟨M,0,none⟩) 2 [x,y]:=by
 refine ⟨(fun h=>by cases h),fun ad hq j u hj=>?_⟩
 cases hq
 rw [nz,Nat.zero_add]
 have hs:=(List.getElem?_eq_some_iff.1 hj).1
 simp at hs
 have hc:w.cell? ⟨M,j,none⟩=(#[.string x,.string y]:Array Value)[j]?:=(by unfold World.cell?;simp [h])
 rw [hc]
 obtain rfl | rfl:j=0 ∨ j=1:=by omega
 ·exact (lj (enc:=jy) (k:=1) (l:=[x,y]) (j:=0) (x:=x) rfl 0 (by omega)).symm.trans hj
 ·exact (lj (enc:=jy) (k:=1) (l:=[x,y]) (j:=1) (x:=y) rfl 0 (by omega)).symm.trans hj
def spS:List ByteArray:=[⟨#[115,112,97,114,101]⟩,⟨#[114,111,111,109]⟩]
set_option maxHeartbeats 1000000 in
set_option maxRecDepth 100000 in
theorem zdw (q:Option Addr) (c:Nat) (l:List ByteArray) (w:World) (h:SlOf jy 1 w q c l) (hl:l.length * 16 + 64<=140737488355328) :
  Calls Tryz.prog 49 #[.slice q l.length c] w fun e w'=>(∃ g cp,e=.returned (.slice (some ⟨g,0,none⟩) l.length cp)/\OwnK jy 9 1 w.heap.size w' (some ⟨g,0,none⟩) cp (l ++ spS)/\l.length + 2<=cp)/\Below w.heap.size w w':=by
 have HS:=d9 h
 have l0:(0:Int)<=(l.length:Int):=by omega
 obtain ⟨cur,hcs,hmk⟩:=zch (l.length + 2) (by omega)
 have hmk':∀ W:World,(Instr.makeSlice 24 (.int .i64 0) (.int .i64 ((l.length:Int) + 2))).run Tryz.prog W=.ok (.slice (some ⟨W.heap.size,0,none⟩) 0 (l.length + 2)) (W.alloc (.cells cur 9)):=fun W=>by have:=hmk W;rwa [Int.natCast_add] at this
 have Hcs:=d9 hcs
 clear h hmk hcs
 go_enter Tryz.func49,Tryz.ntmps49
 go_wp2_with (first
  | (at_builtin;refine jm Ju rfl _ _ rfl w.heap.size q8 cp8 l (some ⟨w8.heap.size,0,none⟩) 2 spS l.length 2 (l.length + 2) rfl rfl rfl rfl rfl ((uh Hown8).below ((Below.refl _ _).alloc (Nat.le_refl _) _)) (zdz (jf _ _)) (by unfold maxLen;omega) (by omega) (by have:=(uh B8).size;simp;omega) ?_;intro q9 cp9 w9 hown9 hb9 hnn9 _;obtain ⟨g9,hg9⟩:=zdv hown9;subst hg9;have hc9:=hown9.ls.2.1;have c9:(l.length:Int)<=(cp9:Int):=(by simp [spS] at hc9;omega);have Hown9:=d9 hown9;have B9:=d9 (((uh B8).alloc (uh B8).size _).trans hb9);clear hown9 hb9 hnn9)
  | (at_builtin;refine jm Ju rfl _ _ rfl w.heap.size (some ⟨w.heap.size,0,none⟩) (l.length + 2) [] q c l 0 l.length l.length rfl rfl (by simp) rfl rfl (zdj (Nat.le_refl _) (by unfold maxLen;omega) (uh Hcs)) ((uh HS).below ((Below.refl _ _).alloc (Nat.le_refl _) _)).src (by unfold maxLen;omega) (by omega) (by simp) ?_;intro q8 cp8 w8 hown8 hb8 _ _;have Hown8:=d9 hown8;have B8:=d9 (((Below.refl w.heap.size w).alloc (Nat.le_refl _) (.cells cur 9)).trans hb8);clear hown8 hb8))
 go_ret
 exact ⟨⟨g9,cp9,rfl,uh Hown9,by simp [spS] at hc9;exact hc9⟩,uh B9⟩
end Go.Proofs.YtimklglliffpcaaGreat
