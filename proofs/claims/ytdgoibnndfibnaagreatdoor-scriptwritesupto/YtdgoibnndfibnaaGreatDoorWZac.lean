/- What the reference's Decimal and Text return: what the program's Itoa and Text do. -/
import Derived.Test.YtdgoibnndfibnaaGreatDoorWZab
import Derived.Lib.ItoaLen
import Derived.Test.YtdgoibnndfibnaaGreatDoorWZaa
import Derived.Test.YtdgoibnndfibnaaGreatDoorWShelf
namespace Go.Proofs.YtdgoibnndfibnaaGreatDoor
open Go.RowKit
def emptyStr:Value->Nat
 | .string b=>if b.size=0 then 1 else 0
 | _=>0
def dgt (U:Nat):UInt8:=UInt8.ofNat (48 + U % 10)
theorem dec_step (U:Nat):Lib.decDigits U=(if U / 10=0 then [] else Lib.decDigits (U / 10)) ++ [dgt U]:=by
 conv=>lhs;rw [Lib.decDigits]
 by_cases h:U < 10
 ·rw [dif_pos h,if_pos (by omega)]
  simp [dgt,Nat.mod_eq_of_lt h]
 ·rw [dif_neg h,if_neg (by omega)];rfl
/-- What the loop keeps: the digits still to be written, and those that are. -/
def DecInv (U0 U:Nat) (t:ByteArray):Prop:=t.size<=20/\((t.size=0/\U=U0) ∨ (0 < t.size/\Lib.decDigits U0=(if U=0 then [] else Lib.decDigits U) ++ t.data.toList))
theorem app_data (d:UInt8) (t:ByteArray):((⟨#[d]⟩:ByteArray) ++ t).data.toList=d :: t.data.toList:=by simp
theorem app_size (d:UInt8) (t:ByteArray):((⟨#[d]⟩:ByteArray) ++ t).size=1 + t.size:=by
 rw [ByteArray.size_append];rfl
theorem decInv_step {U0 U:Nat} {t:ByteArray} (hU0:U0 < 18446744073709551616) (h:DecInv U0 U t) (hc:0 < U ∨ t.size=0):DecInv U0 (U / 10) (⟨#[dgt U]⟩ ++ t):=by
 have key:Lib.decDigits U0=(if U / 10=0 then [] else Lib.decDigits (U / 10)) ++ (dgt U :: t.data.toList):=by
  rcases h.2 with ⟨h1,rfl⟩ | ⟨h1,h2⟩
  ·have:t.data.toList=[]:=by rw [<- List.length_eq_zero_iff];simpa using h1
   rw [this,<- dec_step]
  ·have hU:0 < U:=by omega
   rw [h2,if_neg (by omega),dec_step U,List.append_assoc];rfl
 have hlen:=congrArg List.length key
 rw [Lib.decDigits_length,List.length_append] at hlen
 have h20:=Lib.nDigits_le20 U0 hU0
 simp only [List.length_cons,Array.length_toList] at hlen
 have hs:t.data.size=t.size:=rfl
 refine ⟨by rw [app_size];omega,Or.inr ⟨by rw [app_size];omega,by rw [app_data];exact key⟩⟩
theorem decInv_end {U0:Nat} {t:ByteArray} (h:DecInv U0 0 t) (ht:0 < t.size):t.data.toList=Lib.decDigits U0:=by
 rcases h.2 with ⟨h1,_⟩ | ⟨_,h2⟩
 ·omega
 ·rw [h2,if_pos rfl];rfl
theorem conv_dgt (w:World) (U:Nat):(convert 67 9 (.slice (some ⟨w.heap.size,0,none⟩) 1 1)).run Tryz.prog (w.alloc (.cells #[.int .u8 (48 + (U:Int) % 10)] 5))=.ok (.string ⟨#[dgt U]⟩) (w.alloc (.cells #[.int .u8 (48 + (U:Int) % 10)] 5)):=by
 refine run_convert_bytes_back _ 67 9 5 ⟨w.heap.size,0,none⟩ 1 [dgt U] Tryz.underlying67 Tryz.underlying5 Tryz.underlying9 fun j hj=>?_
 simp only [List.length_singleton] at hj
 obtain rfl:j=0:=by omega
 have e:((dgt U).toNat:Int)=48 + (U:Int) % 10:=by
  unfold dgt
  rw [UInt8.toNat_ofNat',Nat.mod_eq_of_lt (by omega)]
  omega
 simp [Addr.add,e]
theorem u64_neg (n:Int) (h0:-9223372036854775808<=n) (h1:n < 0):IntKind.u64.wrap (-IntKind.u64.wrap n)=((n.natAbs:Nat):Int):=by
 have e:(2:Int) ^ IntKind.u64.bits=18446744073709551616:=by decide
 simp only [IntKind.wrap,e,show IntKind.u64.signed=false from rfl,Bool.false_and,Bool.false_eq_true,if_false]
 omega
theorem u64_pos (n:Int) (h0:0<=n) (h1:n<=9223372036854775807):IntKind.u64.wrap n=((n.toNat:Nat):Int):=by
 have e:(2:Int) ^ IntKind.u64.bits=18446744073709551616:=by decide
 simp only [IntKind.wrap,e,show IntKind.u64.signed=false from rfl,Bool.false_and,Bool.false_eq_true,if_false]
 omega
theorem itoa_neg (n:Int) (t:ByteArray) (h:n < 0) (ht:t.data.toList=Lib.decDigits n.natAbs):(⟨#[45]⟩:ByteArray) ++ t=itoaB n:=by
 apply WideShapes.bytes_inj
 rw [app_data,ht]
 unfold itoaB Lib.itoa
 rw [if_pos h]
theorem itoa_pos (n:Int) (t:ByteArray) (h:0<=n) (ht:t.data.toList=Lib.decDigits n.toNat):t=itoaB n:=by
 apply WideShapes.bytes_inj
 rw [ht]
 unfold itoaB Lib.itoa
 rw [if_neg (by omega)]
theorem ret_ba {a b:ByteArray} (h:a=b):Ending.returned (.string a)=.returned (.string b):=by rw [h]
theorem empty_app (d:UInt8) (t:ByteArray):emptyStr (.string (⟨#[d]⟩ ++ t))=0:=by
 unfold emptyStr
 simp only
 rw [if_neg (by rw [app_size];omega)]
theorem empty_yes {t:ByteArray} (h:t.size=0):emptyStr (.string t)=1:=by unfold emptyStr;simp only;rw [if_pos h]
theorem u64_div (U:Nat) (h:U < 18446744073709551616):IntKind.u64.wrap ((U:Int) / 10)=((U / 10:Nat):Int):=by
 have e:(2:Int) ^ IntKind.u64.bits=18446744073709551616:=by decide
 simp only [IntKind.wrap,e,show IntKind.u64.signed=false from rfl,Bool.false_and,Bool.false_eq_true,if_false]
 omega
theorem conv_zero (w:World):(convert 67 9 (.slice (some ⟨w.heap.size,0,none⟩) 1 1)).run Tryz.prog (w.alloc (.cells #[.int .u8 48] 5))=.ok (.string ⟨#[dgt 0]⟩) (w.alloc (.cells #[.int .u8 48] 5)):=by
 have:=conv_dgt w 0
 simpa using this
theorem u64_eq {a:Int} {b:Nat} (h:a=(b:Int)):Value.int .u64 a=.int .u64 (b:Int):=by rw [h]
theorem meas_pos {U:Nat} {d:UInt8} {t:ByteArray} (h:U < 18446744073709551616) (h0:0 < U):2 * (intOf (.int .u64 (IntKind.u64.wrap ((U:Int) / 10)))).toNat + emptyStr (.string (⟨#[d]⟩ ++ t)) < 2 * (intOf (.int .u64 (U:Int))).toNat + emptyStr (.string t):=by
 rw [u64_div U h,empty_app]
 simp only [intOf]
 omega
theorem meas_zero {d:UInt8} {t:ByteArray} (ht:t.size=0):2 * (intOf (.int .u64 0)).toNat + emptyStr (.string (⟨#[d]⟩ ++ t)) < 2 * (intOf (.int .u64 0)).toNat + emptyStr (.string t):=by
 rw [empty_app,empty_yes ht]
 simp only [intOf]
 omega
set_option maxRecDepth 100000 in
set_option maxHeartbeats 400000 in
theorem decimal_neg (n:Int) (w:World) (h0:-9223372036854775808<=n) (h1:n < 0) :
  Calls Tryz.prog 35 #[.int .i64 n] w fun e w'=>e=.returned (.string (itoaB n))/\Below w.heap.size w w':=by
 obtain ⟨N,hN⟩:∃ N,N=n.natAbs:=⟨_,rfl⟩
 have H0:=hide (And.intro (u64_neg n h0 h1) (show N < 18446744073709551616 by omega))
 have H1:=hide (fun t=>itoa_neg n t h1)
 have HN:=hide hN
 clear h0 hN
 go_enter Tryz.func35,Tryz.ntmps35
 go_wp2
 go_loopw [3,4] (fun u s wr=>∃ (U:Nat) (t:ByteArray),u=.int .u64 U/\s=.string t/\Below w.heap.size w wr/\DecInv N U t/\U<=N) (fun u s _=>2 * (intOf u).toNat + emptyStr s)
 case atStart=>exact ⟨N,⟨#[]⟩,by rw [(uh H0).1,uh HN],rfl,Below.refl _ _,⟨by decide,Or.inl ⟨rfl,rfl⟩⟩,Nat.le_refl _⟩
 case round =>
  obtain ⟨U,t,rfl,rfl,hb,hinv,hle⟩:=hrel
  have ht20:t.size<=20:=hinv.1
  have Hinv:=hide (And.intro hinv hle)
  clear hinv hle
  have hadd:=fun W=>run_string_add_sum (P:=Tryz.prog) W ⟨#[dgt U]⟩ t (by show 1 + t.size<=_;omega)
  by_cases hU:(0:Int) < (U:Int)
  ·have hcv:=conv_dgt wr U
   have hst:=hide (decInv_step (uh H0).2 (uh Hinv).1 (Or.inl (by omega)))
   have hlt:=hide (show U < 18446744073709551616 by have h1:=(uh H0).2;have h2:=(uh Hinv).2;omega)
   go_wp2
   go_roundw
   case rel=>exact ⟨U / 10,_,u64_eq (u64_div U (uh hlt)),rfl,hb.alloc hb.size _,uh hst,by have:=(uh Hinv).2;omega⟩
   case measure=>exact meas_pos (uh hlt) (by omega)
  ·obtain rfl:U=0:=by omega
   by_cases ht:t.size=0
   ·have hcv:=conv_zero wr
    have hst:=hide (decInv_step (uh H0).2 (uh Hinv).1 (Or.inr ht))
    have he:t.toList.isEmpty=true:=(empty_iff t).2 ht
    have Hm:=hide ht
    clear ht
    go_wp2
    go_roundw
    case rel=>exact ⟨0,_,rfl,rfl,hb.alloc hb.size _,uh hst,Nat.zero_le _⟩
    case measure=>exact meas_zero (uh Hm)
   ·have he:t.toList.isEmpty=false:=by cases h:t.toList.isEmpty;rfl;exact absurd ((empty_iff t).1 h) ht
    have hfin:=hide (uh H1 t (by rw [decInv_end (uh Hinv).1 (by omega),uh HN]))
    have hadd2:=fun W=>run_string_add_sum (P:=Tryz.prog) W ⟨#[45]⟩ t (by show 1 + t.size<=_;omega)
    clear hadd ht
    go_wp2
    go_ret
    exact ⟨ret_ba (uh hfin),hb⟩
set_option maxRecDepth 100000 in
set_option maxHeartbeats 400000 in
theorem decimal_pos (n:Int) (w:World) (h0:0<=n) (h1:n<=9223372036854775807) :
  Calls Tryz.prog 35 #[.int .i64 n] w fun e w'=>e=.returned (.string (itoaB n))/\Below w.heap.size w w':=by
 obtain ⟨N,hN⟩:∃ N,N=n.toNat:=⟨_,rfl⟩
 have H0:=hide (And.intro (u64_pos n h0 h1) (show N < 18446744073709551616 by omega))
 have H1:=hide (fun t=>itoa_pos n t h0)
 have HN:=hide hN
 clear h1 hN
 go_enter Tryz.func35,Tryz.ntmps35
 go_wp2
 go_loopw [3,4] (fun u s wr=>∃ (U:Nat) (t:ByteArray),u=.int .u64 U/\s=.string t/\Below w.heap.size w wr/\DecInv N U t/\U<=N) (fun u s _=>2 * (intOf u).toNat + emptyStr s)
 case atStart=>exact ⟨N,⟨#[]⟩,by rw [(uh H0).1,uh HN],rfl,Below.refl _ _,⟨by decide,Or.inl ⟨rfl,rfl⟩⟩,Nat.le_refl _⟩
 case round =>
  obtain ⟨U,t,rfl,rfl,hb,hinv,hle⟩:=hrel
  have ht20:t.size<=20:=hinv.1
  have Hinv:=hide (And.intro hinv hle)
  clear hinv hle
  have hadd:=fun W=>run_string_add_sum (P:=Tryz.prog) W ⟨#[dgt U]⟩ t (by show 1 + t.size<=_;omega)
  by_cases hU:(0:Int) < (U:Int)
  ·have hcv:=conv_dgt wr U
   have hst:=hide (decInv_step (uh H0).2 (uh Hinv).1 (Or.inl (by omega)))
   have hlt:=hide (show U < 18446744073709551616 by have h1:=(uh H0).2;have h2:=(uh Hinv).2;omega)
   go_wp2
   go_roundw
   case rel=>exact ⟨U / 10,_,u64_eq (u64_div U (uh hlt)),rfl,hb.alloc hb.size _,uh hst,by have:=(uh Hinv).2;omega⟩
   case measure=>exact meas_pos (uh hlt) (by omega)
  ·obtain rfl:U=0:=by omega
   by_cases ht:t.size=0
   ·have hcv:=conv_zero wr
    have hst:=hide (decInv_step (uh H0).2 (uh Hinv).1 (Or.inr ht))
    have he:t.toList.isEmpty=true:=(empty_iff t).2 ht
    have Hm:=hide ht
    clear ht
    go_wp2
    go_roundw
    case rel=>exact ⟨0,_,rfl,rfl,hb.alloc hb.size _,uh hst,Nat.zero_le _⟩
    case measure=>exact meas_zero (uh Hm)
   ·have he:t.toList.isEmpty=false:=by cases h:t.toList.isEmpty;rfl;exact absurd ((empty_iff t).1 h) ht
    have hfin:=hide (uh H1 t (by rw [decInv_end (uh Hinv).1 (by omega),uh HN]))
    clear hadd ht
    go_wp2
    go_ret
    exact ⟨ret_ba (uh hfin),hb⟩
theorem decimal_any (n:Int) (w:World) (h0:-9223372036854775808<=n) (h1:n<=9223372036854775807) :
  Calls Tryz.prog 35 #[.int .i64 n] w fun e w'=>e=.returned (.string (itoaB n))/\Below w.heap.size w w':=by
 by_cases h:n < 0
 ·exact decimal_neg n w h0 h
 ·exact decimal_pos n w (by omega) h1
end Go.Proofs.YtdgoibnndfibnaaGreatDoor
namespace Go.Proofs.YtdgoibnndfibnaaGreatDoor
open Go.RowKit
def hexes:List UInt8:=[48,49,50,51,52,53,54,55,56,57,97,98,99,100,101,102]
/-- A hexadecimal digit's number, or -1. -/
def idx (c:UInt8):Int:=Lib.indexByte hexes c
/-- The byte of two digits' numbers. -/
def byteOf (h l:Int):UInt8:=UInt8.ofNat (h * 16 + l).toNat
/-- The byte with whose writing a text begins, and how long that is; 0, if there is none. -/
def firstL:List UInt8->UInt8 × Nat
 | []=>(0,0)
 | c0 :: r =>
  if c0=92 then
   match r with
   | []=>(0,0)
   | c1 :: r2 =>
    if needs c1 then (c1,2)
    else if c1=120 then
     match r2 with
     | c2 :: c3 :: _=>if idx c2 < 0 ∨ idx c3 < 0 ∨ prints (byteOf (idx c2) (idx c3))=true then (0,0) else (byteOf (idx c2) (idx c3),4)
     | _=>(0,0)
    else (0,0)
  else if prints c0=true/\needs c0=false then (c0,1) else (0,0)
theorem all_bytes {p:UInt8->Bool} (h:(List.range 256).all (fun n=>p (UInt8.ofNat n))=true) (c:UInt8):p c=true:=by
 rw [List.all_eq_true] at h
 have:=h c.toNat (List.mem_range.2 c.toNat_lt)
 simpa using this
theorem idx_rng (c:UInt8):-1<=idx c/\idx c < 16:=by
 have:=all_bytes (p:=fun c=>decide (-1<=idx c/\idx c < 16)) (by decide +kernel) c
 simpa using this
theorem idx_hexd (c:UInt8) (h:0<=idx c):c=hexd (idx c).toNat:=by
 have:=all_bytes (p:=fun c=>decide (0<=idx c->c=hexd (idx c).toNat)) (by decide +kernel) c
 simp only [decide_eq_true_eq] at this
 exact this h
theorem hexd_idx (n:Nat) (h:n < 16):idx (hexd n)=n:=by
 have hh:(List.range 16).all (fun n=>decide (idx (hexd n)=n))=true:=by decide +kernel
 rw [List.all_eq_true] at hh
 simpa using hh n (List.mem_range.2 h)
theorem byte_parts (c:UInt8):byteOf (idx (hexd (c.toNat / 16))) (idx (hexd (c.toNat % 16)))=c:=by
 have:=c.toNat_lt
 rw [hexd_idx _ (by omega),hexd_idx _ (by omega)]
 unfold byteOf
 rw [show (((c.toNat / 16:Nat):Int) * 16 + ((c.toNat % 16:Nat):Int)).toNat=c.toNat by omega]
 simp
theorem parts_byte {h l:Int} (h0:0<=h) (h1:h < 16) (l0:0<=l) (l1:l < 16):(byteOf h l).toNat / 16=h.toNat/\(byteOf h l).toNat % 16=l.toNat:=by
 have e:(byteOf h l).toNat=(h * 16 + l).toNat:=by
  unfold byteOf
  rw [UInt8.toNat_ofNat',Nat.mod_eq_of_lt (by omega)]
 rw [e];omega
theorem needs_92:needs 92=true:=by decide
theorem needs_120:needs 120=false:=by decide
theorem first_esc (c:UInt8) (r:List UInt8):firstL (esc c ++ r)=(c,(esc c).length):=by
 cases hn:needs c
 ·cases hp:prints c
  ·have he:esc c=[92,120,hexd (c.toNat / 16),hexd (c.toNat % 16)]:=by unfold esc;rw [if_neg (by simp [hn]),if_neg (by simp [hp])]
   rw [he]
   have:=c.toNat_lt
   have h1:=hexd_idx (c.toNat / 16) (by omega)
   have h2:=hexd_idx (c.toNat % 16) (by omega)
   have h3:=byte_parts c
   simp only [List.cons_append,List.nil_append,firstL,if_pos,needs_120,Bool.false_eq_true,if_false]
   rw [if_neg (by rw [h3,hp,h1,h2];rintro (h | h | h);omega;omega;simp at h),h3];rfl
  ·have he:esc c=[c]:=by unfold esc;rw [if_neg (by simp [hn]),if_pos hp]
   have hc:c ≠ 92:=fun h=>by subst h;rw [needs_92] at hn;simp at hn
   rw [he]
   simp [firstL,hc,hp,hn]
 ·have he:esc c=[92,c]:=by unfold esc;rw [if_pos hn]
  rw [he]
  simp [firstL,hn]
theorem first_sound {l:List UInt8} {c:UInt8} {n:Nat} (h:firstL l=(c,n)) (hn:0 < n):∃ r,l=esc c ++ r/\n=(esc c).length:=by
 match l,h with
 | [],h=>simp [firstL] at h;omega
 | c0 :: r,h =>
  by_cases h92:c0=92
  ·subst h92
   match r,h with
   | [],h=>simp [firstL] at h;omega
   | c1 :: r2,h =>
    cases hnd:needs c1
    ·by_cases hx:c1=120
     ·subst hx
      match r2,h with
      | [],h=>simp [firstL,hnd] at h;omega
      | [_],h=>simp [firstL,hnd] at h;omega
      | c2 :: c3 :: r4,h =>
       simp only [firstL,if_pos,hnd,Bool.false_eq_true,if_false] at h
       by_cases hb:idx c2 < 0 ∨ idx c3 < 0 ∨ prints (byteOf (idx c2) (idx c3))=true
       ·rw [if_pos hb] at h;simp at h;omega
       ·rw [if_neg hb] at h
        simp only [Prod.mk.injEq] at h
        obtain ⟨rfl,rfl⟩:=h
        simp only [not_or,Bool.not_eq_true] at hb
        obtain ⟨g1,g2,g3⟩:=hb
        have r1:=idx_rng c2
        have r2:=idx_rng c3
        obtain ⟨e1,e2⟩:=parts_byte (h:=idx c2) (l:=idx c3) (by omega) r1.2 (by omega) r2.2
        have hnb:needs (byteOf (idx c2) (idx c3))=false:=by
         rw [needs_eq];rw [prints_eq] at g3
         simp at g3 ⊢;omega
        have he:esc (byteOf (idx c2) (idx c3))=[92,120,c2,c3]:=by
         unfold esc
         rw [if_neg (by simp [hnb]),if_neg (by simp [g3]),e1,e2,<- idx_hexd c2 (by omega),<- idx_hexd c3 (by omega)]
        exact ⟨r4,by rw [he];rfl,by rw [he];rfl⟩
     ·simp [firstL,hnd,hx] at h;omega
    ·simp [firstL,hnd] at h
     obtain ⟨rfl,rfl⟩:=h
     have he:esc c1=[92,c1]:=by unfold esc;rw [if_pos hnd]
     exact ⟨r2,by rw [he];rfl,by rw [he];rfl⟩
  ·by_cases hp:prints c0=true/\needs c0=false
   ·simp only [firstL,if_neg h92,if_pos hp,Prod.mk.injEq] at h
    obtain ⟨rfl,rfl⟩:=h
    have he:esc c0=[c0]:=by unfold esc;rw [if_neg (by simp [hp.2]),if_pos hp.1]
    exact ⟨r,by rw [he];rfl,by rw [he];rfl⟩
   ·simp only [firstL,if_neg h92,if_neg hp,Prod.mk.injEq] at h
    omega
end Go.Proofs.YtdgoibnndfibnaaGreatDoor
