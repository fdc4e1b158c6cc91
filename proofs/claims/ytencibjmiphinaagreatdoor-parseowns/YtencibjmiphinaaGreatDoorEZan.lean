/- What the reference's Quote returns: what the program's does. -/
import Derived.Test.YtencibjmiphinaaGreatDoorELxText
import Derived.Lib.ItoaLen
namespace Go.Proofs.YtencibjmiphinaaGreatDoor.Lx
open Go.RowKit
end Go.Proofs.YtencibjmiphinaaGreatDoor.Lx
namespace Go.Proofs.YtencibjmiphinaaGreatDoor.Lx
open Go.RowKit
def emptyStr:Value->Nat
 | .string b=>if b.size=0 then 1 else 0
 | _=>0
def dgt (U:Nat):UInt8:=UInt8.ofNat (48 + U % 10)
theorem dec_step (U:Nat):Lib.decDigits U=(if U / 10=0 then [] else Lib.decDigits (U / 10)) ++ [dgt U]:=by
 conv=>lhs;rw [Lib.decDigits]
 by_cases h:U < 10
 ·rw [dif_pos h,if_pos (by omega)]
  simp [dgt,Nat.mod_eq_of_lt h]
 ·rw [dif_neg h,if_neg (by omega)];rfl
/-- What the loop keeps: the digits still to be written, and those that are. -/
def DecInv (U0 U:Nat) (t:ByteArray):Prop:=t.size<=20/\((t.size=0/\U=U0) ∨ (0 < t.size/\Lib.decDigits U0=(if U=0 then [] else Lib.decDigits U) ++ t.data.toList))
theorem app_data (d:UInt8) (t:ByteArray):((⟨#[d]⟩:ByteArray) ++ t).data.toList=d :: t.data.toList:=by simp
theorem app_size (d:UInt8) (t:ByteArray):((⟨#[d]⟩:ByteArray) ++ t).size=1 + t.size:=by
 rw [ByteArray.size_append];rfl
theorem decInv_step {U0 U:Nat} {t:ByteArray} (hU0:U0 < 18446744073709551616) (h:DecInv U0 U t) (hc:0 < U ∨ t.size=0):DecInv U0 (U / 10) (⟨#[dgt U]⟩ ++ t):=by
 have key:Lib.decDigits U0=(if U / 10=0 then [] else Lib.decDigits (U / 10)) ++ (dgt U :: t.data.toList):=by
  rcases h.2 with ⟨h1,rfl⟩ | ⟨h1,h2⟩
  ·have:t.data.toList=[]:=by rw [<- List.length_eq_zero_iff];simpa using h1
   rw [this,<- dec_step]
  ·have hU:0 < U:=by omega
   rw [h2,if_neg (by omega),dec_step U,List.append_assoc];rfl
 have hlen:=congrArg List.length key
 rw [Lib.decDigits_length,List.length_append] at hlen
 have h20:=Lib.nDigits_le20 U0 hU0
 simp only [List.length_cons,Array.length_toList] at hlen
 have hs:t.data.size=t.size:=rfl
 refine ⟨by rw [app_size];omega,Or.inr ⟨by rw [app_size];omega,by rw [app_data];exact key⟩⟩
theorem decInv_end {U0:Nat} {t:ByteArray} (h:DecInv U0 0 t) (ht:0 < t.size):t.data.toList=Lib.decDigits U0:=by
 rcases h.2 with ⟨h1,_⟩ | ⟨_,h2⟩
 ·omega
 ·rw [h2,if_pos rfl];rfl
theorem conv_dgt (w:World) (U:Nat):(convert 87 9 (.slice (some ⟨w.heap.size,0,none⟩) 1 1)).run Tryz.prog (w.alloc (.cells #[.int .u8 (48 + (U:Int) % 10)] 5))=.ok (.string ⟨#[dgt U]⟩) (w.alloc (.cells #[.int .u8 (48 + (U:Int) % 10)] 5)):=by
 refine run_convert_bytes_back _ 87 9 5 ⟨w.heap.size,0,none⟩ 1 [dgt U] Tryz.underlying87 Tryz.underlying5 Tryz.underlying9 fun j hj=>?_
 simp only [List.length_singleton] at hj
 obtain rfl:j=0:=by omega
 have e:((dgt U).toNat:Int)=48 + (U:Int) % 10:=by
  unfold dgt
  rw [UInt8.toNat_ofNat',Nat.mod_eq_of_lt (by omega)]
  omega
 simp [Addr.add,e]
theorem u64_neg (n:Int) (h0:-9223372036854775808<=n) (h1:n < 0):IntKind.u64.wrap (-IntKind.u64.wrap n)=((n.natAbs:Nat):Int):=by
 have e:(2:Int) ^ IntKind.u64.bits=18446744073709551616:=by decide
 simp only [IntKind.wrap,e,show IntKind.u64.signed=false from rfl,Bool.false_and,Bool.false_eq_true,if_false]
 omega
theorem u64_pos (n:Int) (h0:0<=n) (h1:n<=9223372036854775807):IntKind.u64.wrap n=((n.toNat:Nat):Int):=by
 have e:(2:Int) ^ IntKind.u64.bits=18446744073709551616:=by decide
 simp only [IntKind.wrap,e,show IntKind.u64.signed=false from rfl,Bool.false_and,Bool.false_eq_true,if_false]
 omega
theorem itoa_neg (n:Int) (t:ByteArray) (h:n < 0) (ht:t.data.toList=Lib.decDigits n.natAbs):(⟨#[45]⟩:ByteArray) ++ t=itoaB n:=by
 apply WideShapes.bytes_inj
 rw [app_data,ht]
 unfold itoaB Lib.itoa
 rw [if_pos h]
theorem itoa_pos (n:Int) (t:ByteArray) (h:0<=n) (ht:t.data.toList=Lib.decDigits n.toNat):t=itoaB n:=by
 apply WideShapes.bytes_inj
 rw [ht]
 unfold itoaB Lib.itoa
 rw [if_neg (by omega)]
theorem ret_ba {a b:ByteArray} (h:a=b):Ending.returned (.string a)=.returned (.string b):=by rw [h]
theorem empty_app (d:UInt8) (t:ByteArray):emptyStr (.string (⟨#[d]⟩ ++ t))=0:=by
 unfold emptyStr
 simp only
 rw [if_neg (by rw [app_size];omega)]
theorem empty_yes {t:ByteArray} (h:t.size=0):emptyStr (.string t)=1:=by unfold emptyStr;simp only;rw [if_pos h]
theorem u64_div (U:Nat) (h:U < 18446744073709551616):IntKind.u64.wrap ((U:Int) / 10)=((U / 10:Nat):Int):=by
 have e:(2:Int) ^ IntKind.u64.bits=18446744073709551616:=by decide
 simp only [IntKind.wrap,e,show IntKind.u64.signed=false from rfl,Bool.false_and,Bool.false_eq_true,if_false]
 omega
theorem conv_zero (w:World):(convert 87 9 (.slice (some ⟨w.heap.size,0,none⟩) 1 1)).run Tryz.prog (w.alloc (.cells #[.int .u8 48] 5))=.ok (.string ⟨#[dgt 0]⟩) (w.alloc (.cells #[.int .u8 48] 5)):=by
 have:=conv_dgt w 0
 simpa using this
theorem u64_eq {a:Int} {b:Nat} (h:a=(b:Int)):Value.int .u64 a=.int .u64 (b:Int):=by rw [h]
theorem meas_pos {U:Nat} {d:UInt8} {t:ByteArray} (h:U < 18446744073709551616) (h0:0 < U):2 * (intOf (.int .u64 (IntKind.u64.wrap ((U:Int) / 10)))).toNat + emptyStr (.string (⟨#[d]⟩ ++ t)) < 2 * (intOf (.int .u64 (U:Int))).toNat + emptyStr (.string t):=by
 rw [u64_div U h,empty_app]
 simp only [intOf]
 omega
theorem meas_zero {d:UInt8} {t:ByteArray} (ht:t.size=0):2 * (intOf (.int .u64 0)).toNat + emptyStr (.string (⟨#[d]⟩ ++ t)) < 2 * (intOf (.int .u64 0)).toNat + emptyStr (.string t):=by
 rw [empty_app,empty_yes ht]
 simp only [intOf]
 omega
set_option maxRecDepth 100000 in
set_option maxHeartbeats 400000 in
theorem decimal_neg (n:Int) (w:World) (h0:-9223372036854775808<=n) (h1:n < 0) :
  Calls Tryz.prog 121 #[.int .i64 n] w fun e w'=>e=.returned (.string (itoaB n))/\Below w.heap.size w w':=by
 obtain ⟨N,hN⟩:∃ N,N=n.natAbs:=⟨_,rfl⟩
 have H0:=hide (And.intro (u64_neg n h0 h1) (show N < 18446744073709551616 by omega))
 have H1:=hide (fun t=>itoa_neg n t h1)
 have HN:=hide hN
 clear h0 hN
 go_enter Tryz.func121,Tryz.ntmps121
 go_wp2
 go_loopw [3,4] (fun u s wr=>∃ (U:Nat) (t:ByteArray),u=.int .u64 U/\s=.string t/\Below w.heap.size w wr/\DecInv N U t/\U<=N) (fun u s _=>2 * (intOf u).toNat + emptyStr s)
 case atStart=>exact ⟨N,⟨#[]⟩,by rw [(uh H0).1,uh HN],rfl,Below.refl _ _,⟨by decide,Or.inl ⟨rfl,rfl⟩⟩,Nat.le_refl _⟩
 case round =>
  obtain ⟨U,t,rfl,rfl,hb,hinv,hle⟩:=hrel
  have ht20:t.size<=20:=hinv.1
  have Hinv:=hide (And.intro hinv hle)
  clear hinv hle
  have hadd:=fun W=>run_string_add_sum (P:=Tryz.prog) W ⟨#[dgt U]⟩ t (by show 1 + t.size<=_;omega)
  by_cases hU:(0:Int) < (U:Int)
  ·have hcv:=conv_dgt wr U
   have hst:=hide (decInv_step (uh H0).2 (uh Hinv).1 (Or.inl (by omega)))
   have hlt:=hide (show U < 18446744073709551616 by have h1:=(uh H0).2;have h2:=(uh Hinv).2;omega)
   go_wp2
   go_roundw
   case rel=>exact ⟨U / 10,_,u64_eq (u64_div U (uh hlt)),rfl,hb.alloc hb.size _,uh hst,by have:=(uh Hinv).2;omega⟩
   case measure=>exact meas_pos (uh hlt) (by omega)
  ·obtain rfl:U=0:=by omega
   by_cases ht:t.size=0
   ·have hcv:=conv_zero wr
    have hst:=hide (decInv_step (uh H0).2 (uh Hinv).1 (Or.inr ht))
    have he:t.toList.isEmpty=true:=(empty_iff t).2 ht
    have Hm:=hide ht
    clear ht
    go_wp2
    go_roundw
    case rel=>exact ⟨0,_,rfl,rfl,hb.alloc hb.size _,uh hst,Nat.zero_le _⟩
    case measure=>exact meas_zero (uh Hm)
   ·have he:t.toList.isEmpty=false:=by cases h:t.toList.isEmpty;rfl;exact absurd ((empty_iff t).1 h) ht
    have hfin:=hide (uh H1 t (by rw [decInv_end (uh Hinv).1 (by omega),uh HN]))
    have hadd2:=fun W=>run_string_add_sum (P:=Tryz.prog) W ⟨#[45]⟩ t (by show 1 + t.size<=_;omega)
    clear hadd ht
    go_wp2
    go_ret
    exact ⟨ret_ba (uh hfin),hb⟩
set_option maxRecDepth 100000 in
set_option maxHeartbeats 400000 in
theorem decimal_pos (n:Int) (w:World) (h0:0<=n) (h1:n<=9223372036854775807) :
  Calls Tryz.prog 121 #[.int .i64 n] w fun e w'=>e=.returned (.string (itoaB n))/\Below w.heap.size w w':=by
 obtain ⟨N,hN⟩:∃ N,N=n.toNat:=⟨_,rfl⟩
 have H0:=hide (And.intro (u64_pos n h0 h1) (show N < 18446744073709551616 by omega))
 have H1:=hide (fun t=>itoa_pos n t h0)
 have HN:=hide hN
 clear h1 hN
 go_enter Tryz.func121,Tryz.ntmps121
 go_wp2
 go_loopw [3,4] (fun u s wr=>∃ (U:Nat) (t:ByteArray),u=.int .u64 U/\s=.string t/\Below w.heap.size w wr/\DecInv N U t/\U<=N) (fun u s _=>2 * (intOf u).toNat + emptyStr s)
 case atStart=>exact ⟨N,⟨#[]⟩,by rw [(uh H0).1,uh HN],rfl,Below.refl _ _,⟨by decide,Or.inl ⟨rfl,rfl⟩⟩,Nat.le_refl _⟩
 case round =>
  obtain ⟨U,t,rfl,rfl,hb,hinv,hle⟩:=hrel
  have ht20:t.size<=20:=hinv.1
  have Hinv:=hide (And.intro hinv hle)
  clear hinv hle
  have hadd:=fun W=>run_string_add_sum (P:=Tryz.prog) W ⟨#[dgt U]⟩ t (by show 1 + t.size<=_;omega)
  by_cases hU:(0:Int) < (U:Int)
  ·have hcv:=conv_dgt wr U
   have hst:=hide (decInv_step (uh H0).2 (uh Hinv).1 (Or.inl (by omega)))
   have hlt:=hide (show U < 18446744073709551616 by have h1:=(uh H0).2;have h2:=(uh Hinv).2;omega)
   go_wp2
   go_roundw
   case rel=>exact ⟨U / 10,_,u64_eq (u64_div U (uh hlt)),rfl,hb.alloc hb.size _,uh hst,by have:=(uh Hinv).2;omega⟩
   case measure=>exact meas_pos (uh hlt) (by omega)
  ·obtain rfl:U=0:=by omega
   by_cases ht:t.size=0
   ·have hcv:=conv_zero wr
    have hst:=hide (decInv_step (uh H0).2 (uh Hinv).1 (Or.inr ht))
    have he:t.toList.isEmpty=true:=(empty_iff t).2 ht
    have Hm:=hide ht
    clear ht
    go_wp2
    go_roundw
    case rel=>exact ⟨0,_,rfl,rfl,hb.alloc hb.size _,uh hst,Nat.zero_le _⟩
    case measure=>exact meas_zero (uh Hm)
   ·have he:t.toList.isEmpty=false:=by cases h:t.toList.isEmpty;rfl;exact absurd ((empty_iff t).1 h) ht
    have hfin:=hide (uh H1 t (by rw [decInv_end (uh Hinv).1 (by omega),uh HN]))
    clear hadd ht
    go_wp2
    go_ret
    exact ⟨ret_ba (uh hfin),hb⟩
theorem decimal_any (n:Int) (w:World) (h0:-9223372036854775808<=n) (h1:n<=9223372036854775807) :
  Calls Tryz.prog 121 #[.int .i64 n] w fun e w'=>e=.returned (.string (itoaB n))/\Below w.heap.size w w':=by
 by_cases h:n < 0
 ·exact decimal_neg n w h0 h
 ·exact decimal_pos n w (by omega) h1
end Go.Proofs.YtencibjmiphinaaGreatDoor.Lx
namespace Go.Proofs.YtencibjmiphinaaGreatDoor.Lx
open Go.RowKit
theorem parse_app (r:List UInt8):∀ (l:List UInt8) (acc a:Nat),Lib.parseUint10 acc l=.ok a->Lib.parseUint10 acc (l ++ r)=Lib.parseUint10 a r
 | [],acc,a,h=>by
  simp only [Lib.parseUint10] at h
  injection h with h
  subst h;rfl
 | c :: l,acc,a,h=>by
  simp only [List.cons_append,Lib.parseUint10] at h ⊢
  split at h
  ·rename_i h1
   rw [if_pos h1]
   split at h
   ·cases h
   ·rename_i h2
    rw [if_neg h2]
    split at h
    ·cases h
    ·rename_i h3
     rw [if_neg h3]
     exact parse_app r l _ a h
  ·cases h
theorem dec_digit (u:Nat):∀ c ∈ Lib.decDigits u,48<=c.toNat/\c.toNat<=57:=by
 induction u using Nat.strongRecOn with
 | _ u ih =>
  intro c hc
  rw [Lib.decDigits] at hc
  by_cases h:u < 10
  ·rw [dif_pos h] at hc
   simp only [List.mem_singleton] at hc
   subst hc
   rw [UInt8.toNat_ofNat',Nat.mod_eq_of_lt (by omega)]
   omega
  ·rw [dif_neg h] at hc
   rcases List.mem_append.1 hc with hc | hc
   ·exact ih (u / 10) (by omega) c hc
   ·simp only [List.mem_singleton] at hc
    subst hc
    rw [UInt8.toNat_ofNat',Nat.mod_eq_of_lt (by omega)]
    omega
theorem dec_ne (u:Nat):Lib.decDigits u ≠ []:=by
 intro h
 have:=Lib.decDigits_length u
 rw [h] at this
 have:=Lib.nDigits_pos u
 simp at *;omega
theorem parse_dec (u:Nat) (hu:u<=9223372036854775808):Lib.parseUint10 0 (Lib.decDigits u)=.ok u:=by
 induction u using Nat.strongRecOn with
 | _ u ih =>
  rw [Lib.decDigits]
  by_cases h:u < 10
  ·rw [dif_pos h]
   have e:(UInt8.ofNat (48 + u)).toNat=48 + u:=by rw [UInt8.toNat_ofNat',Nat.mod_eq_of_lt (by omega)]
   simp only [Lib.parseUint10,e]
   rw [if_pos (by omega),if_neg (by omega),if_neg (by omega)]
   congr 1;omega
  ·rw [dif_neg h,parse_app _ _ _ _ (ih (u / 10) (by omega) (by omega))]
   have e:(UInt8.ofNat (48 + u % 10)).toNat=48 + u % 10:=by rw [UInt8.toNat_ofNat',Nat.mod_eq_of_lt (by omega)]
   simp only [Lib.parseUint10,e]
   rw [if_pos (by omega),if_neg (by omega),if_neg (by omega)]
   congr 1;omega
theorem atoi_itoa (n:Int) (h0:-9223372036854775808<=n) (h1:n<=9223372036854775807):Lib.atoiAll (Lib.itoa n)=.ok n:=by
 unfold Lib.itoa
 by_cases h:n < 0
 ·rw [if_pos h]
  have hp:Lib.parseMag (Lib.decDigits n.natAbs)=.ok n.natAbs:=by
   unfold Lib.parseMag;rw [if_neg (dec_ne _),parse_dec _ (by omega)]
  unfold Lib.atoiAll
  have e45:(45:UInt8).toNat=45:=rfl
  simp only [e45,or_true,if_true,hp,not_true_eq_false,false_and,if_false,true_and]
  rw [if_neg (by omega)]
  congr 1;omega
 ·rw [if_neg h]
  cases hd:Lib.decDigits n.toNat with
  | nil=>exact absurd hd (dec_ne _)
  | cons c r =>
   have hc:=dec_digit n.toNat c (by rw [hd];exact List.mem_cons_self)
   have hp:Lib.parseMag (c :: r)=.ok n.toNat:=by
    rw [<- hd];unfold Lib.parseMag;rw [if_neg (dec_ne _),parse_dec _ (by omega)]
   unfold Lib.atoiAll
   simp only
   rw [if_neg (by omega),hp]
   simp only
   rw [if_neg (by omega),if_neg (by omega),if_neg (by omega)]
   congr 1;omega
theorem itoa_noquote (n:Int):Lib.hasPrefix (Lib.itoa n) [34]=false:=by
 unfold Lib.itoa Lib.hasPrefix
 by_cases h:n < 0
 ·rw [if_pos h];rfl
 ·rw [if_neg h]
  cases hd:Lib.decDigits n.toNat with
  | nil=>rfl
  | cons c r =>
   have hc:=dec_digit n.toNat c (by rw [hd];exact List.mem_cons_self)
   have:c ≠ 34:=fun e=>by subst e;have:(34:UInt8).toNat=34:=rfl;omega
   simp [List.isPrefixOf,Ne.symm this]
theorem quote_quote (t:List UInt8):Lib.hasPrefix (quoteL t) [34]=true:=by
 unfold quoteL Lib.hasPrefix
 simp [List.isPrefixOf]
theorem itoa_len (n:Int) (h0:-9223372036854775808<=n) (h1:n<=9223372036854775807):(Lib.itoa n).length<=21:=by
 unfold Lib.itoa
 split
 ·have:=Lib.nDigits_le20 n.natAbs (by omega)
  simp only [List.length_cons,Lib.decDigits_length];omega
 ·have:=Lib.nDigits_le20 n.toNat (by omega)
  simp only [Lib.decDigits_length];omega
end Go.Proofs.YtencibjmiphinaaGreatDoor.Lx
