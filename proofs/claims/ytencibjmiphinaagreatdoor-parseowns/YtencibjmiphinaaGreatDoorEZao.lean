/- What the reference's Number returns: the number whose numeral the text is, or none. -/
import Derived.Test.YtencibjmiphinaaGreatDoorEZan
import Derived.Test.YtencibjmiphinaaGreatDoorEZaa
import Derived.Test.YtencibjmiphinaaGreatDoorELxShelf
namespace Go.Proofs.YtencibjmiphinaaGreatDoor.Lx
open Go.RowKit
/-- One digit more. -/
def stepD (a:Nat) (c:UInt8):Nat:=if 48<=c.toNat/\c.toNat<=57 then a * 10 + (c.toNat - 48) else a
def dv (l:List UInt8):Nat:=l.foldl stepD 0
theorem dv_snoc (l:List UInt8) (c:UInt8):dv (l ++ [c])=stepD (dv l) c:=by simp [dv]
theorem step_ge (a:Nat) (c:UInt8):a<=stepD a c:=by unfold stepD;split <;> omega
theorem fold_ge:∀ (l:List UInt8) (a:Nat),a<=l.foldl stepD a
 | [],_=>Nat.le_refl _
 | c :: l,a=>Nat.le_trans (step_ge a c) (fold_ge l _)
theorem dv_take (l:List UInt8) (k:Nat):dv (l.take k)<=dv l:=by
 conv=>rhs;rw [<- List.take_append_drop k l]
 unfold dv
 rw [List.foldl_append]
 exact fold_ge _ _
theorem dv_dec (u:Nat):dv (Lib.decDigits u)=u:=by
 induction u using Nat.strongRecOn with
 | _ u ih =>
  rw [Lib.decDigits]
  by_cases h:u < 10
  ·rw [dif_pos h]
   have e:(UInt8.ofNat (48 + u)).toNat=48 + u:=by rw [UInt8.toNat_ofNat',Nat.mod_eq_of_lt (by omega)]
   simp only [dv,List.foldl_cons,List.foldl_nil,stepD,e]
   rw [if_pos (by omega)];omega
  ·rw [dif_neg h,dv_snoc,ih (u / 10) (by omega)]
   have e:(UInt8.ofNat (48 + u % 10)).toNat=48 + u % 10:=by rw [UInt8.toNat_ofNat',Nat.mod_eq_of_lt (by omega)]
   simp only [stepD,e]
   rw [if_pos (by omega)];omega
theorem dv_itoa (n:Int):dv (Lib.itoa n)=n.natAbs:=by
 unfold Lib.itoa
 by_cases h:n < 0
 ·rw [if_pos h]
  show (Lib.decDigits n.natAbs).foldl stepD (stepD 0 45)=_
  rw [show stepD 0 45=0 from rfl]
  exact dv_dec _
 ·rw [if_neg h,dv_dec];omega
/-- A numeral of a value. -/
def Good (l:List UInt8):Prop:=∃ n:Int,-2147483648<=n/\n<=2147483647/\l=Lib.itoa n
theorem good_le {l:List UInt8} (h:Good l) (k:Nat):dv (l.take k)<=2147483648:=by
 obtain ⟨n,h1,h2,rfl⟩:=h
 have:=dv_take (Lib.itoa n) k
 rw [dv_itoa] at this
 omega
theorem list_one (s:ByteArray) (h:0 < s.size):s.data.toList=s[0] :: s.data.toList.drop 1:=by
 conv=>lhs;rw [<- List.drop_zero (l:=s.data.toList)]
 rw [List.drop_eq_getElem_cons (by simpa using h)];rfl
theorem nDigits_ten {u:Nat} (h:u < 10000000000):Lib.nDigits u<=10:=by
 have:=Lib.decDigits_length u
 by_cases h0:u < 10
 ·rw [Lib.nDigits_small h0];omega
 ·rw [Lib.nDigits_big h0]
  have key:∀ (k v:Nat),v < 10 ^ (k + 1)->Lib.nDigits v<=k + 1:=by
   intro k
   induction k with
   | zero=>intro v hv;rw [Lib.nDigits_small (by simpa using hv)];omega
   | succ k ih =>
    intro v hv
    by_cases hv0:v < 10
    ·rw [Lib.nDigits_small hv0];omega
    ·rw [Lib.nDigits_big hv0]
     have:=ih (v / 10) (by rw [Nat.pow_succ] at hv;omega)
     omega
  have:=key 8 (u / 10) (by omega)
  omega
theorem w64_rng (n:Int):-9223372036854775808<=wrap64 n/\wrap64 n<=9223372036854775807:=by unfold wrap64;omega
theorem w64_in {n:Int} (h0:-9223372036854775808<=n) (h1:n<=9223372036854775807):wrap64 n=n:=by unfold wrap64;omega
theorem num_step {l:List UInt8} {k:Nat} {c:UInt8} {N:Int} (ht:l.take (k + 1)=l.take k ++ [c]) (hg:Good l->N=dv (l.take k)) (c0:48<=(c.toNat:Int)) (c1:(c.toNat:Int)<=57) :
  Good l->wrap64 (wrap64 (N * 10) + ((c.toNat:Int) - 48))=((dv (l.take (k + 1)):Nat):Int):=by
 intro h
 have h1:=good_le h k
 have e:=hg h
 rw [ht,dv_snoc]
 unfold stepD
 rw [if_pos (by omega),e,w64_in (n:=((dv (l.take k):Nat):Int) * 10) (by omega) (by omega),w64_in (by omega) (by omega)]
 omega
theorem num_skip {l:List UInt8} {k:Nat} {c:UInt8} {N:Int} (ht:l.take (k + 1)=l.take k ++ [c]) (hg:Good l->N=dv (l.take k)) (hc:¬ (48<=(c.toNat:Int)/\(c.toNat:Int)<=57)) :
  Good l->N=((dv (l.take (k + 1)):Nat):Int):=by
 intro h
 rw [ht,dv_snoc,hg h]
 unfold stepD
 rw [if_neg (by omega)]
theorem head_neg {s:ByteArray} (h0:0 < s.size) {n:Int} (h:s.data.toList=Lib.itoa n):(s[0].toNat:Int)=45 ↔ n < 0:=by
 have hl:=list_one s h0
 rw [h] at hl
 unfold Lib.itoa at hl
 by_cases hn:n < 0
 ·rw [if_pos hn] at hl
  simp only [List.cons.injEq] at hl
  rw [<- hl.1]
  exact ⟨fun _=>hn,fun _=>rfl⟩
 ·rw [if_neg hn] at hl
  have:=dec_digit n.toNat s[0] (by rw [hl];exact List.mem_cons_self)
  constructor
  ·intro e;omega
  ·intro e;exact absurd e hn
/-- What Number answers. -/
def NumOf (l:List UInt8) (e:Ending):Prop :=
 (∃ n:Int,-2147483648<=n/\n<=2147483647/\l=Lib.itoa n/\e=.returned (.tuple #[.int .i64 n,.bool true])) ∨ (¬ Good l/\e=.returned (.tuple #[.int .i64 0,.bool false]))
set_option maxRecDepth 100000 in
set_option maxHeartbeats 1000000 in
theorem number_loop (s:ByteArray) (w:World) (h0:0 < s.size) (h20:s.size<=20) :
  Calls Tryz.prog 96 #[.string s,.int .i64 (-2147483648),.int .i64 2147483647] w fun e w'=>NumOf s.data.toList e/\Below w.heap.size w w':=by
 have i0:(0:Int) < (s.size:Int):=by omega
 have i1:(s.size:Int)<=20:=by omega
 have he:s.toList.isEmpty=false:=by cases h:s.toList.isEmpty;rfl;exact absurd ((empty_iff s).1 h) (by omega)
 go_enter Tryz.func96,Tryz.ntmps96
 go_wp2
 go_loop [8,9] (fun a i=>∃ (k:Nat) (N:Int),k<=s.size/\i=.int .i64 k/\a=.int .i64 N/\-9223372036854775808<=N/\N<=9223372036854775807/\(Good s.data.toList->N=dv (s.data.toList.take k))) (fun _ i=>s.size - (intOf i).toNat)
 case atStart=>exact ⟨0,0,by omega,rfl,rfl,by omega,by omega,fun _=>rfl⟩
 case round =>
  obtain ⟨k,N,hk,rfl,rfl,hN0,hN1,hg⟩:=hrel
  have Hg:=hide (And.intro hN0 (And.intro hN1 hg))
  clear hN0 hN1 hg
  by_cases hlt:k < s.size
  ·have b0:(0:Int)<=(k:Int):=by omega
   have b1:(k:Int) < (s.size:Int):=by omega
   have hts:=hide (take_snoc s k hlt)
   by_cases hc:48<=(s[k].toNat:Int)/\(s[k].toNat:Int)<=57
   ·have Hc:=hide (num_step (uh hts) (uh Hg).2.2 hc.1 hc.2)
    obtain ⟨c0,c1⟩:=hc
    go_wp2
    exact ⟨⟨k + 1,_,by omega,by go_num,rfl,(w64_rng _).1,(w64_rng _).2,uh Hc⟩,by simp [intOf];omega⟩
   ·have Hc:=hide (num_skip (uh hts) (uh Hg).2.2 hc)
    have hcase:¬ 48<=(s[k].toNat:Int) ∨ (48<=(s[k].toNat:Int)/\¬ (s[k].toNat:Int)<=57):=by omega
    clear hc
    rcases hcase with c0 | ⟨c0,c1⟩
    all_goals
     go_wp2
     exact ⟨⟨k + 1,N,by omega,by go_num,rfl,(uh Hg).1,(uh Hg).2.1,uh Hc⟩,by simp [intOf];omega⟩
  ·have hN:=hide (show Good s.data.toList->N=dv s.data.toList by
    have h:=(uh Hg).2.2
    rw [List.take_of_length_le (by simp;omega)] at h
    exact h)
   cases hm:((s[0].toNat:Int) == 45)
   ·have hMn:=hide (show ∀ n:Int,-2147483648<=n->n<=2147483647->s.data.toList=Lib.itoa n->N=n from fun n h1 h2 h3=>by
     have h4:=uh hN ⟨n,h1,h2,h3⟩
     rw [h3,dv_itoa] at h4
     have h5:=head_neg h0 h3
     have h6:¬ (s[0].toNat:Int)=45:=by simpa using hm
     omega)
    have hdec:=fun w=>decimal_any N w (uh Hg).1 (uh Hg).2.1
    go_wp2_with fail
    by_cases hs:itoaB N=s
    ·by_cases r:-2147483648<=N/\N<=2147483647
     ·obtain ⟨r1,r2⟩:=r
      have Hs:=hide (show s.data.toList=Lib.itoa N by rw [<- hs];rfl)
      rw [hs] at hdec
      clear hs
      go_wp2_with (go_at_call 121;refine (hdec _).mono ?_;rintro e w1 ⟨rfl,hb⟩)
      go_ret2
      exact ⟨Or.inl ⟨N,r1,r2,uh Hs,rfl⟩,hb⟩
     ·have hno:=hide (show ¬ Good s.data.toList from fun ⟨n,h1,h2,h3⟩=>r (by rw [uh hMn n h1 h2 h3];exact ⟨h1,h2⟩))
      have hcase:N < -2147483648 ∨ (-2147483648<=N/\2147483647 < N):=by omega
      rw [hs] at hdec
      clear hs r
      rcases hcase with r1 | ⟨r1,r2⟩
      all_goals
       go_wp2_with (go_at_call 121;refine (hdec _).mono ?_;rintro e w1 ⟨rfl,hb⟩)
       go_ret2
       exact ⟨Or.inr ⟨uh hno,rfl⟩,hb⟩
    ·have hno:=hide (show ¬ Good s.data.toList from fun ⟨n,h1,h2,h3⟩=>hs (by rw [uh hMn n h1 h2 h3];exact WideShapes.bytes_inj h3.symm))
     have hd:=toList_ne hs
     clear hs
     generalize itoaB N=T at hdec hd
     go_wp2_with (go_at_call 121;refine (hdec _).mono ?_;rintro e w1 ⟨rfl,hb⟩)
     go_ret2
     exact ⟨Or.inr ⟨uh hno,rfl⟩,hb⟩
   ·have hMn:=hide (show ∀ n:Int,-2147483648<=n->n<=2147483647->s.data.toList=Lib.itoa n->wrap64 (-N)=n from fun n h1 h2 h3=>by
     have h4:=uh hN ⟨n,h1,h2,h3⟩
     rw [h3,dv_itoa] at h4
     have h5:=head_neg h0 h3
     have h6:(s[0].toNat:Int)=45:=by simpa using hm
     rw [w64_in (by omega) (by omega)]
     omega)
    have hdec:=fun w=>decimal_any (wrap64 (-N)) w (w64_rng _).1 (w64_rng _).2
    go_wp2_with fail
    generalize wrap64 (-N)=M at hdec hMn ⊢
    by_cases hs:itoaB M=s
    ·by_cases r:-2147483648<=M/\M<=2147483647
     ·obtain ⟨r1,r2⟩:=r
      have Hs:=hide (show s.data.toList=Lib.itoa M by rw [<- hs];rfl)
      rw [hs] at hdec
      clear hs
      go_wp2_with (go_at_call 121;refine (hdec _).mono ?_;rintro e w1 ⟨rfl,hb⟩)
      go_ret2
      exact ⟨Or.inl ⟨M,r1,r2,uh Hs,rfl⟩,hb⟩
     ·have hno:=hide (show ¬ Good s.data.toList from fun ⟨n,h1,h2,h3⟩=>r (by rw [uh hMn n h1 h2 h3];exact ⟨h1,h2⟩))
      have hcase:M < -2147483648 ∨ (-2147483648<=M/\2147483647 < M):=by omega
      rw [hs] at hdec
      clear hs r
      rcases hcase with r1 | ⟨r1,r2⟩
      all_goals
       go_wp2_with (go_at_call 121;refine (hdec _).mono ?_;rintro e w1 ⟨rfl,hb⟩)
       go_ret2
       exact ⟨Or.inr ⟨uh hno,rfl⟩,hb⟩
    ·have hno:=hide (show ¬ Good s.data.toList from fun ⟨n,h1,h2,h3⟩=>hs (by rw [uh hMn n h1 h2 h3];exact WideShapes.bytes_inj h3.symm))
     have hd:=toList_ne hs
     clear hs
     generalize itoaB M=T at hdec hd
     go_wp2_with (go_at_call 121;refine (hdec _).mono ?_;rintro e w1 ⟨rfl,hb⟩)
     go_ret2
     exact ⟨Or.inr ⟨uh hno,rfl⟩,hb⟩
theorem good_len {l:List UInt8} (h:Good l):1<=l.length/\l.length<=20:=by
 obtain ⟨n,h1,h2,rfl⟩:=h
 unfold Lib.itoa
 split
 ·have h3:=Lib.decDigits_length n.natAbs
  have h4:Lib.nDigits n.natAbs<=10:=nDigits_ten (by omega)
  simp only [List.length_cons,h3];omega
 ·have h3:=Lib.decDigits_length n.toNat
  have h4:Lib.nDigits n.toNat<=10:=nDigits_ten (by omega)
  have h5:=Lib.nDigits_pos n.toNat
  rw [h3];omega
set_option maxHeartbeats 400000 in
theorem number_out (s:ByteArray) (w:World) (h:¬ (0 < s.size/\s.size<=20)) (hmax:s.size<=1048576) :
  Calls Tryz.prog 96 #[.string s,.int .i64 (-2147483648),.int .i64 2147483647] w fun e w'=>e=.returned (.tuple #[.int .i64 0,.bool false])/\Below w.heap.size w w':=by
 by_cases h0:s.size=0
 ·have he:s.toList.isEmpty=true:=(empty_iff s).2 h0
  clear h h0
  go_enter Tryz.func96,Tryz.ntmps96
  go_wp2
  go_ret2
  exact ⟨rfl,Below.refl _ _⟩
 ·have he:s.toList.isEmpty=false:=by cases h:s.toList.isEmpty;rfl;exact absurd ((empty_iff s).1 h) (by omega)
  have i1:(20:Int) < (s.size:Int):=by omega
  clear h h0
  go_enter Tryz.func96,Tryz.ntmps96
  go_wp2
  go_ret2
  exact ⟨rfl,Below.refl _ _⟩
theorem number_any (s:ByteArray) (w:World) (hmax:s.size<=1048576) :
  Calls Tryz.prog 96 #[.string s,.int .i64 (-2147483648),.int .i64 2147483647] w fun e w'=>NumOf s.data.toList e/\Below w.heap.size w w':=by
 by_cases h:0 < s.size/\s.size<=20
 ·exact number_loop s w h.1 h.2
 ·refine (number_out s w h hmax).mono fun e w' ⟨he,hb⟩=>⟨Or.inr ⟨fun hg=>h ?_,he⟩,hb⟩
  have:=good_len hg
  simp only [Array.length_toList] at this
  have h4:s.data.size=s.size:=rfl
  omega
end Go.Proofs.YtencibjmiphinaaGreatDoor.Lx
namespace Go.Proofs.YtencibjmiphinaaGreatDoor.Lx
open Go.RowKit
def hexes:List UInt8:=[48,49,50,51,52,53,54,55,56,57,97,98,99,100,101,102]
/-- A hexadecimal digit's number, or -1. -/
def idx (c:UInt8):Int:=Lib.indexByte hexes c
/-- The byte of two digits' numbers. -/
def byteOf (h l:Int):UInt8:=UInt8.ofNat (h * 16 + l).toNat
/-- The byte with whose writing a text begins, and how long that is; 0, if there is none. -/
def firstL:List UInt8->UInt8 × Nat
 | []=>(0,0)
 | c0 :: r =>
  if c0=92 then
   match r with
   | []=>(0,0)
   | c1 :: r2 =>
    if needs c1 then (c1,2)
    else if c1=120 then
     match r2 with
     | c2 :: c3 :: _=>if idx c2 < 0 ∨ idx c3 < 0 ∨ prints (byteOf (idx c2) (idx c3))=true then (0,0) else (byteOf (idx c2) (idx c3),4)
     | _=>(0,0)
    else (0,0)
  else if prints c0=true/\needs c0=false then (c0,1) else (0,0)
theorem all_bytes {p:UInt8->Bool} (h:(List.range 256).all (fun n=>p (UInt8.ofNat n))=true) (c:UInt8):p c=true:=by
 rw [List.all_eq_true] at h
 have:=h c.toNat (List.mem_range.2 c.toNat_lt)
 simpa using this
theorem idx_rng (c:UInt8):-1<=idx c/\idx c < 16:=by
 have:=all_bytes (p:=fun c=>decide (-1<=idx c/\idx c < 16)) (by decide +kernel) c
 simpa using this
theorem idx_hexd (c:UInt8) (h:0<=idx c):c=hexd (idx c).toNat:=by
 have:=all_bytes (p:=fun c=>decide (0<=idx c->c=hexd (idx c).toNat)) (by decide +kernel) c
 simp only [decide_eq_true_eq] at this
 exact this h
theorem hexd_idx (n:Nat) (h:n < 16):idx (hexd n)=n:=by
 have hh:(List.range 16).all (fun n=>decide (idx (hexd n)=n))=true:=by decide +kernel
 rw [List.all_eq_true] at hh
 simpa using hh n (List.mem_range.2 h)
theorem byte_parts (c:UInt8):byteOf (idx (hexd (c.toNat / 16))) (idx (hexd (c.toNat % 16)))=c:=by
 have:=c.toNat_lt
 rw [hexd_idx _ (by omega),hexd_idx _ (by omega)]
 unfold byteOf
 rw [show (((c.toNat / 16:Nat):Int) * 16 + ((c.toNat % 16:Nat):Int)).toNat=c.toNat by omega]
 simp
theorem parts_byte {h l:Int} (h0:0<=h) (h1:h < 16) (l0:0<=l) (l1:l < 16):(byteOf h l).toNat / 16=h.toNat/\(byteOf h l).toNat % 16=l.toNat:=by
 have e:(byteOf h l).toNat=(h * 16 + l).toNat:=by
  unfold byteOf
  rw [UInt8.toNat_ofNat',Nat.mod_eq_of_lt (by omega)]
 rw [e];omega
theorem needs_92:needs 92=true:=by decide
theorem needs_120:needs 120=false:=by decide
theorem first_esc (c:UInt8) (r:List UInt8):firstL (esc c ++ r)=(c,(esc c).length):=by
 cases hn:needs c
 ·cases hp:prints c
  ·have he:esc c=[92,120,hexd (c.toNat / 16),hexd (c.toNat % 16)]:=by unfold esc;rw [if_neg (by simp [hn]),if_neg (by simp [hp])]
   rw [he]
   have:=c.toNat_lt
   have h1:=hexd_idx (c.toNat / 16) (by omega)
   have h2:=hexd_idx (c.toNat % 16) (by omega)
   have h3:=byte_parts c
   simp only [List.cons_append,List.nil_append,firstL,if_pos,needs_120,Bool.false_eq_true,if_false]
   rw [if_neg (by rw [h3,hp,h1,h2];rintro (h | h | h);omega;omega;simp at h),h3];rfl
  ·have he:esc c=[c]:=by unfold esc;rw [if_neg (by simp [hn]),if_pos hp]
   have hc:c ≠ 92:=fun h=>by subst h;rw [needs_92] at hn;simp at hn
   rw [he]
   simp [firstL,hc,hp,hn]
 ·have he:esc c=[92,c]:=by unfold esc;rw [if_pos hn]
  rw [he]
  simp [firstL,hn]
theorem first_sound {l:List UInt8} {c:UInt8} {n:Nat} (h:firstL l=(c,n)) (hn:0 < n):∃ r,l=esc c ++ r/\n=(esc c).length:=by
 match l,h with
 | [],h=>simp [firstL] at h;omega
 | c0 :: r,h =>
  by_cases h92:c0=92
  ·subst h92
   match r,h with
   | [],h=>simp [firstL] at h;omega
   | c1 :: r2,h =>
    cases hnd:needs c1
    ·by_cases hx:c1=120
     ·subst hx
      match r2,h with
      | [],h=>simp [firstL,hnd] at h;omega
      | [_],h=>simp [firstL,hnd] at h;omega
      | c2 :: c3 :: r4,h =>
       simp only [firstL,if_pos,hnd,Bool.false_eq_true,if_false] at h
       by_cases hb:idx c2 < 0 ∨ idx c3 < 0 ∨ prints (byteOf (idx c2) (idx c3))=true
       ·rw [if_pos hb] at h;simp at h;omega
       ·rw [if_neg hb] at h
        simp only [Prod.mk.injEq] at h
        obtain ⟨rfl,rfl⟩:=h
        simp only [not_or,Bool.not_eq_true] at hb
        obtain ⟨g1,g2,g3⟩:=hb
        have r1:=idx_rng c2
        have r2:=idx_rng c3
        obtain ⟨e1,e2⟩:=parts_byte (h:=idx c2) (l:=idx c3) (by omega) r1.2 (by omega) r2.2
        have hnb:needs (byteOf (idx c2) (idx c3))=false:=by
         rw [needs_eq];rw [prints_eq] at g3
         simp at g3 ⊢;omega
        have he:esc (byteOf (idx c2) (idx c3))=[92,120,c2,c3]:=by
         unfold esc
         rw [if_neg (by simp [hnb]),if_neg (by simp [g3]),e1,e2,<- idx_hexd c2 (by omega),<- idx_hexd c3 (by omega)]
        exact ⟨r4,by rw [he];rfl,by rw [he];rfl⟩
     ·simp [firstL,hnd,hx] at h;omega
    ·simp [firstL,hnd] at h
     obtain ⟨rfl,rfl⟩:=h
     have he:esc c1=[92,c1]:=by unfold esc;rw [if_pos hnd]
     exact ⟨r2,by rw [he];rfl,by rw [he];rfl⟩
  ·by_cases hp:prints c0=true/\needs c0=false
   ·simp only [firstL,if_neg h92,if_pos hp,Prod.mk.injEq] at h
    obtain ⟨rfl,rfl⟩:=h
    have he:esc c0=[c0]:=by unfold esc;rw [if_neg (by simp [hp.2]),if_pos hp.1]
    exact ⟨r,by rw [he];rfl,by rw [he];rfl⟩
   ·simp only [firstL,if_neg h92,if_neg hp,Prod.mk.injEq] at h
    omega
end Go.Proofs.YtencibjmiphinaaGreatDoor.Lx
