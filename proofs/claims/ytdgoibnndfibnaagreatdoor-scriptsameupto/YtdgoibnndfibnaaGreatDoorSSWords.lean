/- Lines of a script: their words. Plain. -/
import Derived.Test.YtdgoibnndfibnaaGreatDoorSZac
import Derived.Test.YtdgoibnndfibnaaGreatDoorSUnq
namespace Go.Proofs.YtdgoibnndfibnaaGreatDoor
abbrev Bs:=List UInt8
/-- Where the first word of a line ends; q: within quotation marks. -/
def wEnd:Bool->Bs->Nat
  | _,[]=>0
  | q,[c]=>if c=32/\q=false then 0 else 1
  | q,c :: d :: r=>if c=92 then 2 + wEnd q r else if c=34 then 1 + wEnd (!q) (d :: r) else if c=32/\q=false then 0 else 1 + wEnd q (d :: r)
theorem wEnd_cons {q:Bool} {c:UInt8} (h:c ≠ 92) (r:Bs):wEnd q (c :: r)=if c=34 then 1 + wEnd (!q) r else if c=32/\q=false then 0 else 1 + wEnd q r:=by
 cases r with
 | nil =>
  unfold wEnd
  by_cases h1:c=34
  ·subst h1;simp
  ·rw [if_neg h1]
 | cons d r=>rw [wEnd,if_neg h]
theorem wEnd_esc (q:Bool) (d:UInt8) (r:Bs):wEnd q (92 :: d :: r)=2 + wEnd q r:=by rw [wEnd,if_pos rfl]
theorem wEnd_le:∀ (q:Bool) (l:Bs),wEnd q l<=l.length
 | _,[]=>by simp [wEnd]
 | q,[c]=>by unfold wEnd;split <;> simp
 | q,c :: d :: r=>by
  have h1:=wEnd_le q r
  have h2:=wEnd_le (!q) (d :: r)
  have h3:=wEnd_le q (d :: r)
  unfold wEnd
  simp only [List.length_cons] at *
  split
  ·omega
  ·split
   ·omega
   ·split <;> omega
/-- From the state q a piece leads to the state q', and no word ends in it. -/
def Pass (q:Bool) (l:Bs) (q':Bool):Prop:=∀ r,wEnd q (l ++ r)=l.length + wEnd q' r
theorem Pass.nil (q:Bool):Pass q [] q:=fun r=>by simp
theorem Pass.app {q q1 q2:Bool} {a b:Bs} (h:Pass q a q1) (h2:Pass q1 b q2):Pass q (a ++ b) q2:=fun r=>by
 rw [List.append_assoc,h,h2,List.length_append];omega
theorem Pass.one {q:Bool} {c:UInt8} (h1:c ≠ 92) (h2:c ≠ 34) (h3:c ≠ 32 ∨ q=true):Pass q [c] q:=fun r=>by
 have:¬ (c=32/\q=false):=by rintro ⟨rfl,rfl⟩;rcases h3 with h3 | h3 <;> simp at h3
 rw [List.singleton_append,wEnd_cons h1,if_neg h2,if_neg this];rfl
theorem Pass.mark (q:Bool):Pass q [34] (!q):=fun r=>by rw [List.singleton_append,wEnd_cons (by decide),if_pos rfl];rfl
theorem Pass.pair (q:Bool) (d:UInt8):Pass q [92,d] q:=fun r=>by
 show wEnd q (92 :: d :: r)=_
 rw [wEnd_esc];rfl
theorem Pass.cons {q q1 q2:Bool} {c:UInt8} {l:Bs} (h:Pass q [c] q1) (h2:Pass q1 l q2):Pass q (c :: l) q2:=h.app h2
/-- No blank, no quotation mark, no backslash. -/
def Bare (l:Bs):Prop:=∀ c ∈ l,c ≠ 92/\c ≠ 34/\c ≠ 32
theorem Bare.pass {l:Bs} (h:Bare l) (q:Bool):Pass q l q:=by
 induction l with
 | nil=>exact Pass.nil q
 | cons c l ih =>
  obtain ⟨h1,h2,h3⟩:=h c (by simp)
  exact (Pass.one h1 h2 (Or.inl h3)).cons (ih fun d hd=>h d (by simp [hd]))
theorem hexd_bare (n:Nat) (h:n < 16):hexd n ≠ 92/\hexd n ≠ 34/\hexd n ≠ 32:=by
 have:∀ k:Fin 16,hexd k.val ≠ 92/\hexd k.val ≠ 34/\hexd k.val ≠ 32:=by decide
 exact this ⟨n,h⟩
theorem esc_pass (c:UInt8):Pass true (esc c) true:=by
 unfold esc
 split
 ·exact Pass.pair true c
 ·next h =>
  split
  ·have h1:c ≠ 92:=fun e=>h (by subst e;decide)
   have h2:c ≠ 34:=fun e=>h (by subst e;decide)
   exact Pass.one h1 h2 (Or.inr rfl)
  ·have hl:=c.toNat_lt
   obtain ⟨a1,a2,a3⟩:=hexd_bare (c.toNat / 16) (by omega)
   obtain ⟨b1,b2,b3⟩:=hexd_bare (c.toNat % 16) (by omega)
   exact (Pass.pair true 120).app ((Pass.one a1 a2 (Or.inl a3)).app (Pass.one b1 b2 (Or.inl b3)))
theorem escs_pass (l:Bs):Pass true (escs l) true:=by
 induction l with
 | nil=>exact Pass.nil true
 | cons c l ih=>rw [escs_cons];exact (esc_pass c).app ih
theorem quote_pass (l:Bs):Pass false (quoteL l) false:=(Pass.mark false).app ((escs_pass l).app (Pass.mark true))
theorem itoa_char (n:Int):∀ c ∈ Go.Lib.itoa n,c=45 ∨ (48<=c.toNat/\c.toNat<=57):=fun c hc=>by
 unfold Go.Lib.itoa at hc
 split at hc
 ·rcases List.mem_cons.1 hc with h | h
  ·exact Or.inl h
  ·exact Or.inr (dec_digit _ c h)
 ·exact Or.inr (dec_digit _ c hc)
theorem itoa_bare (n:Int):Bare (Go.Lib.itoa n):=fun c hc=>by
 rcases itoa_char n c hc with rfl | ⟨h1,h2⟩
 ·decide
 ·refine ⟨?_, ?_, ?_⟩ <;> (rintro rfl;revert h1 h2;decide)
theorem itoa_ne (n:Int):Go.Lib.itoa n ≠ []:=by
 unfold Go.Lib.itoa
 split
 ·simp
 ·exact dec_ne _
/-- One blank is taken off ahead. -/
def trimP:Bs->Bs
  | []=>[]
  | c :: r=>if c=32 then r else c :: r
/-- The first word, and what is left behind it. -/
def nextW (l:Bs):Bs × Bs:=(l.take (wEnd false l),trimP (l.drop (wEnd false l)))
/-- Words with a blank ahead of each. -/
def tailW (ws:List Bs):Bs:=ws.flatMap fun w=>32 :: w
/-- Words with a blank between. -/
def wordsW:List Bs->Bs
  | []=>[]
  | w :: ws=>w ++ tailW ws
theorem tailW_cons (w:Bs) (ws:List Bs):tailW (w :: ws)=32 :: w ++ tailW ws:=by simp [tailW]
theorem nextW_words {w:Bs} (h:Pass false w false) (ws:List Bs):nextW (w ++ tailW ws)=(w,wordsW ws):=by
 have h0:wEnd false (tailW ws)=0:=by
  cases ws with
  | nil=>simp [tailW,wEnd]
  | cons v ws=>rw [tailW_cons,List.cons_append,wEnd_cons (by decide),if_neg (by decide),if_pos ⟨rfl,rfl⟩]
 have e:wEnd false (w ++ tailW ws)=w.length:=by rw [h,h0];rfl
 unfold nextW
 rw [e,List.take_left,List.drop_left]
 cases ws with
 | nil=>simp [tailW,trimP,wordsW]
 | cons v ws=>rw [tailW_cons];simp [trimP,wordsW]
theorem trimP_le (l:Bs):(trimP l).length<=l.length:=by cases l with
 | nil=>simp [trimP]
 | cons c l=>show (if c=32 then l else c :: l).length<=_;split <;> simp
theorem nextW_lt {l:Bs} (h:l ≠ []):(nextW l).2.length < l.length:=by
 have hl:=wEnd_le false l
 have ht:=trimP_le (l.drop (wEnd false l))
 simp only [List.length_drop] at ht
 show (trimP (l.drop (wEnd false l))).length < l.length
 by_cases h0:wEnd false l=0
 ·cases l with
  | nil=>exact absurd rfl h
  | cons c r =>
   rw [h0,List.drop_zero]
   have hc:c=32:=by
    by_cases h9:c=92
    ·subst h9
     cases r with
     | nil=>simp [wEnd] at h0
     | cons d r=>rw [wEnd_esc] at h0;omega
    ·rw [wEnd_cons h9] at h0
     split at h0
     ·omega
     ·split at h0
      ·next h=>exact h.1
      ·omega
   subst hc
   simp [trimP]
 ·have:0 < l.length:=List.length_pos_iff.2 h
  omega
theorem nextW_le (l:Bs):(nextW l).2.length<=l.length:=by
 by_cases h:l=[]
 ·subst h;simp [nextW,wEnd,trimP]
 ·exact Nat.le_of_lt (nextW_lt h)
theorem nextW_le1 (l:Bs):(nextW l).1.length<=l.length:=by simp [nextW];omega
/-- strconv.Atoi's number, with an error too. -/
def atoiN (l:Bs):Int:=match Go.Lib.atoiAll l with
  | .ok v=>v
  | .syntax=>0
  | .range=>Go.Lib.atoiSat l
theorem atoiN_itoa (n:Int) (h0:-9223372036854775808<=n) (h1:n<=9223372036854775807):atoiN (Go.Lib.itoa n)=n:=by unfold atoiN;rw [atoi_itoa n h0 h1]
/-- An int. -/
def I64 (n:Int):Prop:=-9223372036854775808<=n/\n<=9223372036854775807
/-- All that is left, read word by word. -/
def readW {α:Type} (f:Bs->α):Nat->Bs->List α
  | 0,_=>[]
  | k + 1,l=>if l=[] then [] else f (nextW l).1 :: readW f k (nextW l).2
theorem readW_fuel {α:Type} (f:Bs->α):∀ (k:Nat) (l:Bs),l.length<=k->readW f k l=readW f l.length l:=by
 intro k
 induction k using Nat.strongRecOn with
 | _ k ih =>
  intro l hl
  cases l with
  | nil=>cases k <;> simp [readW]
  | cons c r =>
   cases k with
   | zero=>simp at hl
   | succ k =>
    have hlt:=nextW_lt (l:=c :: r) (by simp)
    simp only [List.length_cons] at hl hlt
    show readW f (k + 1) (c :: r)=readW f (r.length + 1) (c :: r)
    rw [readW,readW,if_neg (by simp),if_neg (by simp)]
    rw [ih k (by omega) _ (by omega)]
    by_cases hk:r.length < k + 1
    ·rw [ih r.length hk _ (by omega)]
    ·have:r.length=k:=by omega
     rw [this,ih k (by omega) _ (by omega)]
def readA {α:Type} (f:Bs->α) (l:Bs):List α:=readW f l.length l
theorem readA_nil {α:Type} (f:Bs->α):readA f []=[]:=rfl
theorem readA_step {α:Type} (f:Bs->α) {l:Bs} (h:l ≠ []):readA f l=f (nextW l).1 :: readA f (nextW l).2:=by
 have hlt:=nextW_lt h
 unfold readA
 cases l with
 | nil=>exact absurd rfl h
 | cons c r =>
  simp only [List.length_cons] at hlt
  show readW f (r.length + 1) (c :: r)=_
  rw [readW,if_neg h,readW_fuel f r.length _ (by omega)]
theorem readA_len {α:Type} (f:Bs->α):∀ (k:Nat) (l:Bs),l.length<=k->(readA f l).length<=l.length:=by
 intro k
 induction k with
 | zero=>intro l hl;cases l with
  | nil=>simp [readA_nil]
  | cons c r=>simp at hl
 | succ k ih =>
  intro l hl
  by_cases h:l=[]
  ·subst h;simp [readA_nil]
  ·have hlt:=nextW_lt h
   rw [readA_step f h,List.length_cons]
   have:=ih (nextW l).2 (by omega)
   omega
theorem readA_words {α:Type} (f:Bs->α):∀ (ws:List Bs),(∀ w ∈ ws,Pass false w false/\w ≠ [])->readA f (wordsW ws)=ws.map f
 | [],_=>rfl
 | w :: ws,h=>by
  obtain ⟨h1,h2⟩:=h w (by simp)
  have hne:wordsW (w :: ws) ≠ []:=by
   intro e
   have:(wordsW (w :: ws)).length=0:=by rw [e];rfl
   simp only [wordsW,List.length_append] at this
   have:0 < w.length:=List.length_pos_iff.2 h2
   omega
  rw [readA_step f hne]
  show f (nextW (w ++ tailW ws)).1 :: readA f (nextW (w ++ tailW ws)).2=_
  rw [nextW_words h1 ws,readA_words f ws fun v hv=>h v (by simp [hv])]
  rfl
end Go.Proofs.YtdgoibnndfibnaaGreatDoor
