/- What the reference's Number returns: the number whose numeral the text is, or none. -/
import Derived.Test.YtdgoibnndfibnaaGreatDoorRZar
import Derived.Test.YtdgoibnndfibnaaGreatDoorRZac
import Derived.Test.YtdgoibnndfibnaaGreatDoorRZaq
namespace Go.Proofs.YtdgoibnndfibnaaGreatDoor
open Go.RowKit
/-- One digit more. -/
def stepD (a:Nat) (c:UInt8):Nat:=if 48<=c.toNat/\c.toNat<=57 then a * 10 + (c.toNat - 48) else a
def dv (l:List UInt8):Nat:=l.foldl stepD 0
theorem dv_snoc (l:List UInt8) (c:UInt8):dv (l ++ [c])=stepD (dv l) c:=by simp [dv]
theorem step_ge (a:Nat) (c:UInt8):a<=stepD a c:=by unfold stepD;split <;> omega
theorem fold_ge:∀ (l:List UInt8) (a:Nat),a<=l.foldl stepD a
 | [],_=>Nat.le_refl _
 | c :: l,a=>Nat.le_trans (step_ge a c) (fold_ge l _)
theorem dv_take (l:List UInt8) (k:Nat):dv (l.take k)<=dv l:=by
 conv=>rhs;rw [<- List.take_append_drop k l]
 unfold dv
 rw [List.foldl_append]
 exact fold_ge _ _
theorem dv_dec (u:Nat):dv (Lib.decDigits u)=u:=by
 induction u using Nat.strongRecOn with
 | _ u ih =>
  rw [Lib.decDigits]
  by_cases h:u < 10
  ·rw [dif_pos h]
   have e:(UInt8.ofNat (48 + u)).toNat=48 + u:=by rw [UInt8.toNat_ofNat',Nat.mod_eq_of_lt (by omega)]
   simp only [dv,List.foldl_cons,List.foldl_nil,stepD,e]
   rw [if_pos (by omega)];omega
  ·rw [dif_neg h,dv_snoc,ih (u / 10) (by omega)]
   have e:(UInt8.ofNat (48 + u % 10)).toNat=48 + u % 10:=by rw [UInt8.toNat_ofNat',Nat.mod_eq_of_lt (by omega)]
   simp only [stepD,e]
   rw [if_pos (by omega)];omega
theorem dv_itoa (n:Int):dv (Lib.itoa n)=n.natAbs:=by
 unfold Lib.itoa
 by_cases h:n < 0
 ·rw [if_pos h]
  show (Lib.decDigits n.natAbs).foldl stepD (stepD 0 45)=_
  rw [show stepD 0 45=0 from rfl]
  exact dv_dec _
 ·rw [if_neg h,dv_dec];omega
/-- A numeral of a value. -/
def Good (l:List UInt8):Prop:=∃ n:Int,-2147483648<=n/\n<=2147483647/\l=Lib.itoa n
theorem good_le {l:List UInt8} (h:Good l) (k:Nat):dv (l.take k)<=2147483648:=by
 obtain ⟨n,h1,h2,rfl⟩:=h
 have:=dv_take (Lib.itoa n) k
 rw [dv_itoa] at this
 omega
theorem list_one (s:ByteArray) (h:0 < s.size):s.data.toList=s[0] :: s.data.toList.drop 1:=by
 conv=>lhs;rw [<- List.drop_zero (l:=s.data.toList)]
 rw [List.drop_eq_getElem_cons (by simpa using h)];rfl
theorem nDigits_ten {u:Nat} (h:u < 10000000000):Lib.nDigits u<=10:=by
 have:=Lib.decDigits_length u
 by_cases h0:u < 10
 ·rw [Lib.nDigits_small h0];omega
 ·rw [Lib.nDigits_big h0]
  have key:∀ (k v:Nat),v < 10 ^ (k + 1)->Lib.nDigits v<=k + 1:=by
   intro k
   induction k with
   | zero=>intro v hv;rw [Lib.nDigits_small (by simpa using hv)];omega
   | succ k ih =>
    intro v hv
    by_cases hv0:v < 10
    ·rw [Lib.nDigits_small hv0];omega
    ·rw [Lib.nDigits_big hv0]
     have:=ih (v / 10) (by rw [Nat.pow_succ] at hv;omega)
     omega
  have:=key 8 (u / 10) (by omega)
  omega
theorem w64_rng (n:Int):-9223372036854775808<=wrap64 n/\wrap64 n<=9223372036854775807:=by unfold wrap64;omega
theorem w64_in {n:Int} (h0:-9223372036854775808<=n) (h1:n<=9223372036854775807):wrap64 n=n:=by unfold wrap64;omega
theorem num_step {l:List UInt8} {k:Nat} {c:UInt8} {N:Int} (ht:l.take (k + 1)=l.take k ++ [c]) (hg:Good l->N=dv (l.take k)) (c0:48<=(c.toNat:Int)) (c1:(c.toNat:Int)<=57) :
  Good l->wrap64 (wrap64 (N * 10) + ((c.toNat:Int) - 48))=((dv (l.take (k + 1)):Nat):Int):=by
 intro h
 have h1:=good_le h k
 have e:=hg h
 rw [ht,dv_snoc]
 unfold stepD
 rw [if_pos (by omega),e,w64_in (n:=((dv (l.take k):Nat):Int) * 10) (by omega) (by omega),w64_in (by omega) (by omega)]
 omega
theorem num_skip {l:List UInt8} {k:Nat} {c:UInt8} {N:Int} (ht:l.take (k + 1)=l.take k ++ [c]) (hg:Good l->N=dv (l.take k)) (hc:¬ (48<=(c.toNat:Int)/\(c.toNat:Int)<=57)) :
  Good l->N=((dv (l.take (k + 1)):Nat):Int):=by
 intro h
 rw [ht,dv_snoc,hg h]
 unfold stepD
 rw [if_neg (by omega)]
theorem head_neg {s:ByteArray} (h0:0 < s.size) {n:Int} (h:s.data.toList=Lib.itoa n):(s[0].toNat:Int)=45 ↔ n < 0:=by
 have hl:=list_one s h0
 rw [h] at hl
 unfold Lib.itoa at hl
 by_cases hn:n < 0
 ·rw [if_pos hn] at hl
  simp only [List.cons.injEq] at hl
  rw [<- hl.1]
  exact ⟨fun _=>hn,fun _=>rfl⟩
 ·rw [if_neg hn] at hl
  have:=dec_digit n.toNat s[0] (by rw [hl];exact List.mem_cons_self)
  constructor
  ·intro e;omega
  ·intro e;exact absurd e hn
/-- What Number answers. -/
def NumOf (l:List UInt8) (e:Ending):Prop :=
  (∃ n:Int,-2147483648<=n/\n<=2147483647/\l=Lib.itoa n/\e=.returned (.tuple #[.int .i64 n,.bool true])) ∨ (¬ Good l/\e=.returned (.tuple #[.int .i64 0,.bool false]))
set_option maxRecDepth 100000 in
set_option maxHeartbeats 1000000 in
theorem number_loop (s:ByteArray) (w:World) (h0:0 < s.size) (h20:s.size<=20) :
  Calls Tryz.prog 128 #[.string s,.int .i64 (-2147483648),.int .i64 2147483647] w fun e w'=>NumOf s.data.toList e/\Below w.heap.size w w':=by
 have i0:(0:Int) < (s.size:Int):=by omega
 have i1:(s.size:Int)<=20:=by omega
 have he:s.toList.isEmpty=false:=by cases h:s.toList.isEmpty;rfl;exact absurd ((empty_iff s).1 h) (by omega)
 go_enter Tryz.func128,Tryz.ntmps128
 go_wp2
 go_loop [8,9] (fun a i=>∃ (k:Nat) (N:Int),k<=s.size/\i=.int .i64 k/\a=.int .i64 N/\-9223372036854775808<=N/\N<=9223372036854775807/\(Good s.data.toList->N=dv (s.data.toList.take k))) (fun _ i=>s.size - (intOf i).toNat)
 case atStart=>exact ⟨0,0,by omega,rfl,rfl,by omega,by omega,fun _=>rfl⟩
 case round =>
  obtain ⟨k,N,hk,rfl,rfl,hN0,hN1,hg⟩:=hrel
  have Hg:=hide (And.intro hN0 (And.intro hN1 hg))
  clear hN0 hN1 hg
  by_cases hlt:k < s.size
  ·have b0:(0:Int)<=(k:Int):=by omega
   have b1:(k:Int) < (s.size:Int):=by omega
   have hts:=hide (take_snoc s k hlt)
   by_cases hc:48<=(s[k].toNat:Int)/\(s[k].toNat:Int)<=57
   ·have Hc:=hide (num_step (uh hts) (uh Hg).2.2 hc.1 hc.2)
    obtain ⟨c0,c1⟩:=hc
    go_wp2
    exact ⟨⟨k + 1,_,by omega,by go_num,rfl,(w64_rng _).1,(w64_rng _).2,uh Hc⟩,by simp [intOf];omega⟩
   ·have Hc:=hide (num_skip (uh hts) (uh Hg).2.2 hc)
    have hcase:¬ 48<=(s[k].toNat:Int) ∨ (48<=(s[k].toNat:Int)/\¬ (s[k].toNat:Int)<=57):=by omega
    clear hc
    rcases hcase with c0 | ⟨c0,c1⟩
    all_goals
     go_wp2
     exact ⟨⟨k + 1,N,by omega,by go_num,rfl,(uh Hg).1,(uh Hg).2.1,uh Hc⟩,by simp [intOf];omega⟩
  ·have hN:=hide (show Good s.data.toList->N=dv s.data.toList by
    have h:=(uh Hg).2.2
    rw [List.take_of_length_le (by simp;omega)] at h
    exact h)
   cases hm:((s[0].toNat:Int) == 45)
   ·have hMn:=hide (show ∀ n:Int,-2147483648<=n->n<=2147483647->s.data.toList=Lib.itoa n->N=n from fun n h1 h2 h3=>by
     have h4:=uh hN ⟨n,h1,h2,h3⟩
     rw [h3,dv_itoa] at h4
     have h5:=head_neg h0 h3
     have h6:¬ (s[0].toNat:Int)=45:=by simpa using hm
     omega)
    have hdec:=fun w=>decimal_any N w (uh Hg).1 (uh Hg).2.1
    go_wp2_with fail
    by_cases hs:itoaB N=s
    ·by_cases r:-2147483648<=N/\N<=2147483647
     ·obtain ⟨r1,r2⟩:=r
      have Hs:=hide (show s.data.toList=Lib.itoa N by rw [<- hs];rfl)
      rw [hs] at hdec
      clear hs
      go_wp2_with (go_at_call 35;refine (hdec _).mono ?_;rintro e w1 ⟨rfl,hb⟩)
      go_ret2
      exact ⟨Or.inl ⟨N,r1,r2,uh Hs,rfl⟩,hb⟩
     ·have hno:=hide (show ¬ Good s.data.toList from fun ⟨n,h1,h2,h3⟩=>r (by rw [uh hMn n h1 h2 h3];exact ⟨h1,h2⟩))
      have hcase:N < -2147483648 ∨ (-2147483648<=N/\2147483647 < N):=by omega
      rw [hs] at hdec
      clear hs r
      rcases hcase with r1 | ⟨r1,r2⟩
      all_goals
       go_wp2_with (go_at_call 35;refine (hdec _).mono ?_;rintro e w1 ⟨rfl,hb⟩)
       go_ret2
       exact ⟨Or.inr ⟨uh hno,rfl⟩,hb⟩
    ·have hno:=hide (show ¬ Good s.data.toList from fun ⟨n,h1,h2,h3⟩=>hs (by rw [uh hMn n h1 h2 h3];exact WideShapes.bytes_inj h3.symm))
     have hd:=toList_ne hs
     clear hs
     generalize itoaB N=T at hdec hd
     go_wp2_with (go_at_call 35;refine (hdec _).mono ?_;rintro e w1 ⟨rfl,hb⟩)
     go_ret2
     exact ⟨Or.inr ⟨uh hno,rfl⟩,hb⟩
   ·have hMn:=hide (show ∀ n:Int,-2147483648<=n->n<=2147483647->s.data.toList=Lib.itoa n->wrap64 (-N)=n from fun n h1 h2 h3=>by
     have h4:=uh hN ⟨n,h1,h2,h3⟩
     rw [h3,dv_itoa] at h4
     have h5:=head_neg h0 h3
     have h6:(s[0].toNat:Int)=45:=by simpa using hm
     rw [w64_in (by omega) (by omega)]
     omega)
    have hdec:=fun w=>decimal_any (wrap64 (-N)) w (w64_rng _).1 (w64_rng _).2
    go_wp2_with fail
    generalize wrap64 (-N)=M at hdec hMn ⊢
    by_cases hs:itoaB M=s
    ·by_cases r:-2147483648<=M/\M<=2147483647
     ·obtain ⟨r1,r2⟩:=r
      have Hs:=hide (show s.data.toList=Lib.itoa M by rw [<- hs];rfl)
      rw [hs] at hdec
      clear hs
      go_wp2_with (go_at_call 35;refine (hdec _).mono ?_;rintro e w1 ⟨rfl,hb⟩)
      go_ret2
      exact ⟨Or.inl ⟨M,r1,r2,uh Hs,rfl⟩,hb⟩
     ·have hno:=hide (show ¬ Good s.data.toList from fun ⟨n,h1,h2,h3⟩=>r (by rw [uh hMn n h1 h2 h3];exact ⟨h1,h2⟩))
      have hcase:M < -2147483648 ∨ (-2147483648<=M/\2147483647 < M):=by omega
      rw [hs] at hdec
      clear hs r
      rcases hcase with r1 | ⟨r1,r2⟩
      all_goals
       go_wp2_with (go_at_call 35;refine (hdec _).mono ?_;rintro e w1 ⟨rfl,hb⟩)
       go_ret2
       exact ⟨Or.inr ⟨uh hno,rfl⟩,hb⟩
    ·have hno:=hide (show ¬ Good s.data.toList from fun ⟨n,h1,h2,h3⟩=>hs (by rw [uh hMn n h1 h2 h3];exact WideShapes.bytes_inj h3.symm))
     have hd:=toList_ne hs
     clear hs
     generalize itoaB M=T at hdec hd
     go_wp2_with (go_at_call 35;refine (hdec _).mono ?_;rintro e w1 ⟨rfl,hb⟩)
     go_ret2
     exact ⟨Or.inr ⟨uh hno,rfl⟩,hb⟩
theorem good_len {l:List UInt8} (h:Good l):1<=l.length/\l.length<=20:=by
 obtain ⟨n,h1,h2,rfl⟩:=h
 unfold Lib.itoa
 split
 ·have h3:=Lib.decDigits_length n.natAbs
  have h4:Lib.nDigits n.natAbs<=10:=nDigits_ten (by omega)
  simp only [List.length_cons,h3];omega
 ·have h3:=Lib.decDigits_length n.toNat
  have h4:Lib.nDigits n.toNat<=10:=nDigits_ten (by omega)
  have h5:=Lib.nDigits_pos n.toNat
  rw [h3];omega
set_option maxHeartbeats 400000 in
theorem number_out (s:ByteArray) (w:World) (h:¬ (0 < s.size/\s.size<=20)) (hmax:s.size<=1048576) :
  Calls Tryz.prog 128 #[.string s,.int .i64 (-2147483648),.int .i64 2147483647] w fun e w'=>e=.returned (.tuple #[.int .i64 0,.bool false])/\Below w.heap.size w w':=by
 by_cases h0:s.size=0
 ·have he:s.toList.isEmpty=true:=(empty_iff s).2 h0
  clear h h0
  go_enter Tryz.func128,Tryz.ntmps128
  go_wp2
  go_ret2
  exact ⟨rfl,Below.refl _ _⟩
 ·have he:s.toList.isEmpty=false:=by cases h:s.toList.isEmpty;rfl;exact absurd ((empty_iff s).1 h) (by omega)
  have i1:(20:Int) < (s.size:Int):=by omega
  clear h h0
  go_enter Tryz.func128,Tryz.ntmps128
  go_wp2
  go_ret2
  exact ⟨rfl,Below.refl _ _⟩
theorem number_any (s:ByteArray) (w:World) (hmax:s.size<=1048576) :
  Calls Tryz.prog 128 #[.string s,.int .i64 (-2147483648),.int .i64 2147483647] w fun e w'=>NumOf s.data.toList e/\Below w.heap.size w w':=by
 by_cases h:0 < s.size/\s.size<=20
 ·exact number_loop s w h.1 h.2
 ·refine (number_out s w h hmax).mono fun e w' ⟨he,hb⟩=>⟨Or.inr ⟨fun hg=>h ?_,he⟩,hb⟩
  have:=good_len hg
  simp only [Array.length_toList] at this
  have h4:s.data.size=s.size:=rfl
  omega
end Go.Proofs.YtdgoibnndfibnaaGreatDoor
namespace Go.Proofs.YtdgoibnndfibnaaGreatDoor
open Go.RowKit
/-- A hexadecimal digit's number, else 0. -/
def dig (c:UInt8):UInt8:=if 0<=idx c then UInt8.ofNat (idx c).toNat else 0
/-- The loose reading of what is left, the closing mark with it. -/
def lo:Nat->List UInt8->List UInt8
  | 0,_=>[]
  | f + 1,c0 :: c1 :: r =>
    if c0=92 then
      match r with
      | c2 :: c3 :: r4=>if c1=120 then (dig c2 * 16 + dig c3) :: lo f r4 else c1 :: lo f r
      | _=>c1 :: lo f r
    else c0 :: lo f (c1 :: r)
  | _ + 1,_=>[]
theorem dig_parts (c:UInt8):dig (hexd (c.toNat / 16)) * 16 + dig (hexd (c.toNat % 16))=c:=by
 have:=all_bytes (p:=fun c=>decide (dig (hexd (c.toNat / 16)) * 16 + dig (hexd (c.toNat % 16))=c)) (by decide +kernel) c
 simpa using this
theorem lo_esc (f:Nat) (c d:UInt8) (r:List UInt8):lo (f + 1) (esc c ++ (d :: r))=c :: lo f (d :: r):=by
 cases hn:needs c
 ·cases hp:prints c
  ·have he:esc c=[92,120,hexd (c.toNat / 16),hexd (c.toNat % 16)]:=by unfold esc;rw [if_neg (by simp [hn]),if_neg (by simp [hp])]
   rw [he]
   simp only [List.cons_append,List.nil_append,lo,if_pos]
   rw [dig_parts]
  ·have he:esc c=[c]:=by unfold esc;rw [if_neg (by simp [hn]),if_pos hp]
   have hc:c ≠ 92:=fun h=>by subst h;rw [needs_92] at hn;simp at hn
   rw [he]
   simp only [List.cons_append,List.nil_append,lo,if_neg hc]
 ·have he:esc c=[92,c]:=by unfold esc;rw [if_pos hn]
  have hc:c ≠ 120:=fun h=>by subst h;rw [needs_120] at hn;simp at hn
  rw [he]
  cases r with
  | nil=>simp only [List.cons_append,List.nil_append,lo,if_pos]
  | cons a r=>simp only [List.cons_append,List.nil_append,lo,if_pos,if_neg hc]
theorem lo_escs:∀ (t:List UInt8) (f:Nat),t.length < f->lo f (escs t ++ [34])=t
 | [],f + 1,_=>by simp [escs,lo]
 | c :: t,f + 1,h=>by
  rw [escs_cons,List.append_assoc]
  obtain ⟨d,r,hd⟩:∃ d r,escs t ++ [34]=d :: r:=by
   cases h:escs t ++ [34] with
   | nil=>simp at h
   | cons d r=>exact ⟨d,r,rfl⟩
  rw [hd,lo_esc,<- hd,lo_escs t f (by simp at h;omega)]
theorem lo_plain (f:Nat) {c0:UInt8} (c1:UInt8) (r:List UInt8) (h:c0 ≠ 92):lo (f + 1) (c0 :: c1 :: r)=c0 :: lo f (c1 :: r):=by
 match r with
 | []=>simp [lo,h]
 | [_]=>simp [lo,h]
 | _ :: _ :: _=>simp [lo,h]
theorem lo_hex (f:Nat) (c2 c3:UInt8) (r:List UInt8):lo (f + 1) (92 :: 120 :: c2 :: c3 :: r)=(dig c2 * 16 + dig c3) :: lo f r:=by rw [lo,if_pos rfl];rfl
theorem lo_pair (f:Nat) {c1:UInt8} {r:List UInt8} (h:¬ (c1=120/\2<=r.length)):lo (f + 1) (92 :: c1 :: r)=c1 :: lo f r:=by
 match r,h with
 | [],_=>simp [lo]
 | [a],_=>simp [lo]
 | c2 :: c3 :: r4,h =>
  have hx:c1 ≠ 120:=fun e=>h ⟨e,by simp⟩
  rw [lo,if_pos rfl]
  simp only [if_neg hx]
/-- Enough rounds are enough. -/
theorem lo_more:∀ (f:Nat) (r:List UInt8),r.length<=f->lo (f + 1) r=lo f r
  | 0,[],_=>rfl
  | 0,_ :: _,h=>by simp at h
  | f + 1,[],_=>rfl
  | f + 1,[_],_=>rfl
  | f + 1,c0 :: c1 :: r,h=>by
    simp only [List.length_cons] at h
    by_cases h92:c0=92
    · subst h92
      by_cases hx:c1=120/\2<=r.length
      · obtain ⟨rfl,hl⟩:=hx
        match r,hl,h with
        | c2 :: c3 :: r4,_,h =>
          simp only [List.length_cons] at h
          rw [lo_hex,lo_hex,lo_more f r4 (by omega)]
        | [],hl,_=>simp at hl
        | [_],hl,_=>simp at hl
      · rw [lo_pair _ hx,lo_pair _ hx,lo_more f r (by omega)]
    · rw [lo_plain _ _ _ h92,lo_plain _ _ _ h92,lo_more f (c1 :: r) (by simp;omega)]
/-- The loose reading, with as many rounds as it has bytes. -/
def loL (r:List UInt8):List UInt8:=lo r.length r
theorem lo_enough:∀ (k:Nat) (r:List UInt8),lo (r.length + k) r=loL r
 | 0,r=>rfl
 | k + 1,r=>by rw [<- Nat.add_assoc,lo_more _ _ (by omega),lo_enough k r]
theorem lo_len:∀ (f:Nat) (r:List UInt8),(lo f r).length<=r.length
 | 0,r=>by simp [lo]
 | f + 1,[]=>by simp [lo]
 | f + 1,[_]=>by simp [lo]
 | f + 1,c0 :: c1 :: r=>by
  by_cases h92:c0=92
  ·subst h92
   by_cases hx:c1=120/\2<=r.length
   ·obtain ⟨rfl,hl⟩:=hx
    match r,hl with
    | c2 :: c3 :: r4,_=>have:=lo_len f r4;rw [lo_hex];simp;omega
    | [],hl=>simp at hl
    | [_],hl=>simp at hl
   ·have:=lo_len f r;rw [lo_pair _ hx];simp;omega
  ·have:=lo_len f (c1 :: r);rw [lo_plain _ _ _ h92];simp at this ⊢;omega
theorem loL_plain {c0 c1:UInt8} {r:List UInt8} (h:c0 ≠ 92):loL (c0 :: c1 :: r)=c0 :: loL (c1 :: r):=by
 unfold loL;rw [List.length_cons,lo_plain _ _ _ h]
theorem loL_hex {c2 c3:UInt8} {r:List UInt8}:loL (92 :: 120 :: c2 :: c3 :: r)=(dig c2 * 16 + dig c3) :: loL r:=by
 conv=>lhs;unfold loL
 rw [List.length_cons,lo_hex]
 congr 1
 exact lo_enough 3 r
theorem loL_pair {c1:UInt8} {r:List UInt8} (h:¬ (c1=120/\2<=r.length)):loL (92 :: c1 :: r)=c1 :: loL r:=by
 conv=>lhs;unfold loL
 rw [List.length_cons,lo_pair _ h]
 congr 1
 exact lo_enough 1 r
theorem loL_short {r:List UInt8} (h:r.length < 2):loL r=[]:=by
 match r,h with
 | [],_=>rfl
 | [_],_=>rfl
 | _ :: _ :: _,h=>simp only [List.length_cons] at h;omega
theorem loose_quote (t:List UInt8):loL ((quoteL t).drop 1)=t:=by
 unfold quoteL loL
 simp only [List.cons_append,List.drop_succ_cons,List.drop_zero]
 exact lo_escs t _ (by have:=escs_ge t;simp;omega)
end Go.Proofs.YtdgoibnndfibnaaGreatDoor
namespace Go.Proofs.YtdgoibnndfibnaaGreatDoor
open Go.RowKit
theorem drop_atL (s:ByteArray) (k:Nat) (h:k < s.size):s.data.toList.drop k=s[k] :: s.data.toList.drop (k + 1):=by
 rw [List.drop_eq_getElem_cons (by simpa using h)];rfl
theorem idx_at (k:Nat) (hk:k < 16) (c:UInt8) (h:hexd k=c):dig c=UInt8.ofNat k:=by
 subst h;unfold dig;rw [hexd_idx k hk,if_pos (by omega)];simp
theorem dig_none (c:UInt8) (h:∀ k,k < 16->hexd k ≠ c):dig c=0:=by
 unfold dig
 by_cases h0:0<=idx c
 ·exfalso
  have:=idx_rng c
  exact h (idx c).toNat (by omega) (idx_hexd c h0).symm
 ·rw [if_neg h0]
set_option maxHeartbeats 400000 in
theorem digit_any (c:UInt8) (w:World) :
  Calls Tryz.prog 129 #[.int .u8 (c.toNat:Int)] w fun e w'=>e=.returned (.int .u8 ((dig c).toNat:Int))/\w'=w:=by
 go_enter Tryz.func129,Tryz.ntmps129
 go_wp2
 go_loop [3] (fun i=>∃ k:Nat,k<=16/\i=.int .i64 k/\∀ j,j < k->hexd j ≠ c) (fun i=>16 - (intOf i).toNat)
 case atStart=>exact ⟨0,by omega,rfl,fun j h=>by omega⟩
 case round =>
  obtain ⟨k,hk,rfl,hz⟩:=hrel
  have Hz:=hide hz
  clear hz
  by_cases hlt:k < 16
  ·have k0:(0:Int)<=(k:Int):=by omega
   have k1:(k:Int) < 16:=by omega
   have hx:∀ h,(ByteArray.mk #[48,49,50,51,52,53,54,55,56,57,97,98,99,100,101,102])[k]'h=hexd k:=fun h=>hexAt k h
   by_cases hc:hexd k=c
   ·have hd:(((hexd k).toNat:Int) == (c.toNat:Int))=true:=by simp [hc]
    have Hf:=hide (idx_at k hlt c hc)
    clear hc
    go_wp2
    go_ret
    exact ⟨ret_int (by rw [uh Hf,UInt8.toNat_ofNat',Nat.mod_eq_of_lt (by omega)]),rfl⟩
   ·have hd:(((hexd k).toNat:Int) == (c.toNat:Int))=false:=by
     rw [beq_eq_false_iff_ne];intro e;exact hc (UInt8.toNat_inj.1 (by omega))
    have Hc:=hide hc
    clear hc
    go_wp2
    go_round
    case rel=>exact ⟨k + 1,by omega,by go_num,fun j hj=>by
     by_cases e:j=k
     ·rw [e];exact uh Hc
     ·exact uh Hz j (by omega)⟩
    case measure=>simp [intOf];omega
  ·have Hf:=hide (dig_none c (fun j hj=>uh Hz j (by omega)))
   go_wp2
   go_ret
   exact ⟨ret_int (by rw [uh Hf];rfl),rfl⟩
theorem wrap_in {n:Int} (h0:-9223372036854775808<=n) (h1:n<=9223372036854775807):IntKind.i64.wrap n=n:=by
 have e:(2:Int) ^ IntKind.i64.bits=18446744073709551616:=by decide
 have e2:(2:Int) ^ (IntKind.i64.bits - 1)=9223372036854775808:=by decide
 simp only [IntKind.wrap,e,e2,show IntKind.i64.signed=true from rfl,Bool.true_and,decide_eq_true_eq]
 split <;> omega
theorem u8_sum (a b:UInt8):IntKind.u8.wrap (IntKind.u8.wrap ((a.toNat:Int) * 16) + (b.toNat:Int))=((a * 16 + b).toNat:Int):=by
 have e:(2:Int) ^ IntKind.u8.bits=256:=by decide
 simp only [IntKind.wrap,e,show IntKind.u8.signed=false from rfl,Bool.false_and,Bool.false_eq_true,if_false]
 have h16:(16:UInt8).toNat=16:=rfl
 rw [UInt8.toNat_add,UInt8.toNat_mul,h16]
 omega
theorem hex_cell (s:ByteArray) (i j:Int) (a b:Nat) (hi:i=(a:Int)) (hj:j=(b:Int)) (ha:a < s.size) (hb:b < s.size) {h1:i.toNat < s.size} {h2:j.toNat < s.size} :
  Value.int .u8 (IntKind.u8.wrap (IntKind.u8.wrap (((dig (s[i.toNat]'h1)).toNat:Int) * 16) + ((dig (s[j.toNat]'h2)).toNat:Int)))=bv (dig s[a] * 16 + dig s[b]):=by
 subst hi;subst hj
 rw [u8_sum]
 rfl
theorem drop_two (s:ByteArray) (k:Nat) (h:k + 1 < s.size):s.data.toList.drop k=s[k] :: s[k + 1] :: s.data.toList.drop (k + 2):=by
 rw [List.drop_eq_getElem_cons (i:=k) (by simpa using (show k < s.size by omega)),List.drop_eq_getElem_cons (i:=k + 1) (by simpa using h)];rfl
set_option maxRecDepth 100000 in
set_option maxHeartbeats 1000000 in
theorem loose_any (s:ByteArray) (w:World) (hmax:s.size<=100000000000) :
    Calls Tryz.prog 105 #[.string s] w fun e w'=>e=.returned (.string ⟨(loL s.data.toList.tail).toArray⟩)/\Below w.heap.size w w':=by
  obtain ⟨i0,hi,hz0,hz1,hz2⟩:=info_parts Tryz.info5
  go_enter Tryz.func105,Tryz.ntmps105
  go_wp2
  go_loopw [3,4] (fun v i wr=>∃ (k:Nat) (l:List UInt8),1<=k/\k<=s.size + 1/\l.length<=k/\i=.int .i64 k/\Row w.heap.size wr v l/\Below w.heap.size w wr/\loL s.data.toList.tail=l ++ loL (s.data.toList.drop k)/\(l=[]->v=.slice none 0 0)) (fun _ i _=>s.size + 1 - (intOf i).toNat)
  case atStart=>exact ⟨1,[],by omega,by omega,by simp,rfl,World.ownsRow_nil _ _ _ _,Below.refl _ _,by rw [List.drop_one];rfl,fun _=>rfl⟩
  case round =>
    obtain ⟨k,l,hk1,hk2,hlk,rfl,hrow,hb,heq,hnil⟩:=hrel
    have Heq:=hide heq
    clear heq
    have hBs:=hb.size
    by_cases hlt:k + 1 < s.size
    · have b0:(0:Int)<=(k:Int):=by omega
      have b1:(k:Int) < (s.size:Int):=by omega
      have b2:(k:Int) < (s.size:Int) - 1:=by omega
      have b3:(k:Int) + 1 < (s.size:Int):=by omega
      have hdt:=hide (drop_two s k hlt)
      unfold Row at hrow
      clear hnil
      by_cases h92:(s[k].toNat:Int)=92
      · have d1:(((s[k].toNat:Int)) != 92)=false:=by simp [h92]
        have e92:=hide (show s[k]=92 from (toNat_is s[k]  92 (by omega)).1 h92)
        clear h92
        by_cases hx:(s[k + 1].toNat:Int)=120/\k + 3 < s.size
        · obtain ⟨hx1,hx2⟩:=hx
          have d2:(((s[k + 1].toNat:Int)) == 120)=true:=by simp [hx1]
          have b4:(k:Int) + 3 < (s.size:Int):=by omega
          have b5:(k:Int) + 2 < (s.size:Int):=by omega
          have hlo:=hide (show loL (s.data.toList.drop k)=(dig s[k + 2] * 16 + dig s[k + 3]) :: loL (s.data.toList.drop (k + 4)) by
            have e120:s[k + 1]=120:=(toNat_is s[k + 1]  120 (by omega)).1 hx1
            rw [uh hdt,uh e92,e120,drop_two s (k + 2) (by omega),loL_hex])
          have bk:(k:Int)<=100000000000:=by omega
          have b6:(0:Int)<=(k:Int) + 2:=by omega
          have b7:(0:Int)<=(k:Int) + 3:=by omega
          have b8:k + 2 < s.size:=by omega
          clear hx1
          go_wp2
          have w2:IntKind.i64.wrap ((k:Int) + 2)=(k:Int) + 2:=wrap_in (by omega) (by omega)
          have w3:IntKind.i64.wrap ((k:Int) + 3)=(k:Int) + 3:=wrap_in (by omega) (by omega)
          go_region_held3 (fun _=>True) (go_keep)
            ((first
              | (go_at_call 129;refine (digit_any _ _).mono ?_;rintro e w' ⟨rfl,rfl⟩)
              | (refine step_append_lies _ (by rfl) _ _ _ (by rfl) w.heap.size 5 i0 (.int .u8 0) 1 1 Tryz.underlying67 hi hz0 hz1 hz2 (by rfl) (by decide) u3 l.length (l.map bv) (by rfl) (by exact (hrow.alloc _)) _ 1 1 _ (by rfl) (by rfl) (World.news_of_block (heap_alloc_new _ _)) (by simp [Value.oneCell']) (by decide) (by unfold maxLen;omega) (by omega) (by simp;omega) _ rfl ?_;intro g cap w1 hown1 hgrow hat hlt2)))
          all_goals
            rw [hex_cell s _ _ (k + 2) (k + 3) (by omega) (by omega) (by omega) (by omega)] at hown1
            have R2:=hide (And.intro (row_of (m:=[dig s[k + 2] * 16 + dig s[k + 3]]) rfl hown1) (grown_row hrow hBs (((Below.refl _ _).alloc hBs _).drew) (by simp) hgrow))
            clear hown1 hgrow hat hlt2
            go_wp2
            go_roundw
            case rel=>exact ⟨k + 4,l ++ [dig s[k + 2] * 16 + dig s[k + 3]],by omega,by omega,by simp;omega,by go_num,(uh R2).1,hb.trans (uh R2).2,by rw [uh Heq,uh hlo];simp,fun h=>by simp at h⟩
            case measure=>simp [intOf];omega
        · have hlo:=hide (show loL (s.data.toList.drop k)=s[k + 1] :: loL (s.data.toList.drop (k + 2)) by
            rw [uh hdt,uh e92,loL_pair]
            rintro ⟨h1,h2⟩
            refine hx ⟨(toNat_is s[k + 1]  120 (by omega)).2 h1, ?_⟩
            simp only [List.length_drop,Array.length_toList] at h2
            have h4:s.data.size=s.size:=rfl
            omega)
          by_cases hx1:(s[k + 1].toNat:Int)=120
          · have d2:(((s[k + 1].toNat:Int)) == 120)=true:=by simp [hx1]
            have b4:¬ (k:Int) + 3 < (s.size:Int):=fun h=>hx ⟨hx1,by omega⟩
            clear hx hx1
            go_wp2_with (at_builtin;refine wpList_append_own _ rfl (.tmp 51) (.tmp 56) 67 rfl w.heap.size 5 i0 (.int .u8 0) 1 1 Tryz.underlying67 hi hz0 hz1 hz2 rfl (by decide) _ _ _ rfl (hrow.alloc _) ⟨_,0,none⟩ 1 1 [bv s[k + 1]] rfl rfl news1 (bv_one [s[k + 1]]) (by unfold maxLen;omega) (by omega) (by simp;omega) ?_;intro v2 w2 hown2 hgrow2 hn2;have R2:=hide (And.intro (row_of (m:=[s[k + 1]]) rfl hown2) (grown_row hrow hBs ((Below.refl _ _).alloc hBs _) (by simp) hgrow2));clear hown2 hgrow2 hn2)
            go_roundw
            case rel=>exact ⟨k + 2,l ++ [s[k + 1]],by omega,by omega,by simp;omega,by go_num,(uh R2).1,hb.trans (uh R2).2,by rw [uh Heq,uh hlo];simp,fun h=>by simp at h⟩
            case measure=>simp [intOf];omega
          · have d2:(((s[k + 1].toNat:Int)) == 120)=false:=by simpa using hx1
            clear hx hx1
            go_wp2_with (at_builtin;refine wpList_append_own _ rfl (.tmp 51) (.tmp 56) 67 rfl w.heap.size 5 i0 (.int .u8 0) 1 1 Tryz.underlying67 hi hz0 hz1 hz2 rfl (by decide) _ _ _ rfl (hrow.alloc _) ⟨_,0,none⟩ 1 1 [bv s[k + 1]] rfl rfl news1 (bv_one [s[k + 1]]) (by unfold maxLen;omega) (by omega) (by simp;omega) ?_;intro v2 w2 hown2 hgrow2 hn2;have R2:=hide (And.intro (row_of (m:=[s[k + 1]]) rfl hown2) (grown_row hrow hBs ((Below.refl _ _).alloc hBs _) (by simp) hgrow2));clear hown2 hgrow2 hn2)
            go_roundw
            case rel=>exact ⟨k + 2,l ++ [s[k + 1]],by omega,by omega,by simp;omega,by go_num,(uh R2).1,hb.trans (uh R2).2,by rw [uh Heq,uh hlo];simp,fun h=>by simp at h⟩
            case measure=>simp [intOf];omega
      · have d1:(((s[k].toNat:Int)) != 92)=true:=by simpa using h92
        have hlo:=hide (show loL (s.data.toList.drop k)=s[k] :: loL (s.data.toList.drop (k + 1)) by
          rw [uh hdt,loL_plain (fun e=>h92 ((toNat_is s[k]  92 (by omega)).2 e)),<- drop_atL s (k + 1) hlt])
        clear h92
        go_wp2_with (at_builtin;refine wpList_append_own _ rfl (.tmp 16) (.tmp 20) 67 rfl w.heap.size 5 i0 (.int .u8 0) 1 1 Tryz.underlying67 hi hz0 hz1 hz2 rfl (by decide) _ _ _ rfl (hrow.alloc _) ⟨_,0,none⟩ 1 1 [bv s[k]] rfl rfl news1 (bv_one [s[k]]) (by unfold maxLen;omega) (by omega) (by simp;omega) ?_;intro v2 w2 hown2 hgrow2 hn2;have R2:=hide (And.intro (row_of (m:=[s[k]]) rfl hown2) (grown_row hrow hBs ((Below.refl _ _).alloc hBs _) (by simp) hgrow2));clear hown2 hgrow2 hn2)
        go_roundw
        case rel=>exact ⟨k + 1,l ++ [s[k]],by omega,by omega,by simp;omega,by go_num,(uh R2).1,hb.trans (uh R2).2,by rw [uh Heq,uh hlo];simp,fun h=>by simp at h⟩
        case measure=>simp [intOf];omega
    · have b2:¬ (k:Int) < (s.size:Int) - 1:=by omega
      have hfin:=hide (show loL s.data.toList.tail=l by
        rw [uh Heq,loL_short (by simp;omega)];simp)
      cases l with
      | nil =>
        obtain rfl:=hnil rfl
        have hcv:=conv_nil wr
        clear hnil hrow
        go_wp2
        go_ret
        exact ⟨ret_str (a:=[]) (uh hfin).symm,hb⟩
      | cons c l =>
        have hcv:=conv_row hrow (by simp)
        clear hnil hrow
        go_wp2
        go_ret
        exact ⟨ret_str (uh hfin).symm,hb⟩
end Go.Proofs.YtdgoibnndfibnaaGreatDoor
