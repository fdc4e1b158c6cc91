/- What the reference's Decimal and Text return: what the program's Itoa and Text do. -/
import Derived.Test.YtencibjmiphinaaGreatDoorEZal
import Derived.Lib.ItoaLen
import Derived.Test.YtencibjmiphinaaGreatDoorEZaa
import Derived.Test.YtencibjmiphinaaGreatDoorELxShelf
namespace Go.Proofs.YtencibjmiphinaaGreatDoor.Lx
open Go.RowKit

def emptyStr:Value→Nat
 | .string b=>if b.size=0 then 1 else 0
 | _=>0
def dgt (U:Nat):UInt8:=UInt8.ofNat (48 + U % 10)
theorem dec_step (U:Nat):Lib.decDigits U=(if U / 10=0 then [] else Lib.decDigits (U / 10)) ++ [dgt U]:=by
 conv=>lhs;rw [Lib.decDigits]
 by_cases h:U < 10
 ·rw [dif_pos h,if_pos (by omega)]
  simp [dgt,Nat.mod_eq_of_lt h]
 ·rw [dif_neg h,if_neg (by omega)];rfl
/-- What the loop keeps: the digits still to be written, and those that are. -/
def DecInv (U0 U:Nat) (t:ByteArray):Prop:=t.size≤20∧((t.size=0∧U=U0) ∨ (0 < t.size∧Lib.decDigits U0=(if U=0 then [] else Lib.decDigits U) ++ t.data.toList))
theorem app_data (d:UInt8) (t:ByteArray):((⟨#[d]⟩:ByteArray) ++ t).data.toList=d :: t.data.toList:=by simp
theorem app_size (d:UInt8) (t:ByteArray):((⟨#[d]⟩:ByteArray) ++ t).size=1 + t.size:=by
 rw [ByteArray.size_append];rfl
theorem decInv_step {U0 U:Nat} {t:ByteArray} (hU0:U0 < 18446744073709551616) (h:DecInv U0 U t) (hc:0 < U ∨ t.size=0):DecInv U0 (U / 10) (⟨#[dgt U]⟩ ++ t):=by
 have key:Lib.decDigits U0=(if U / 10=0 then [] else Lib.decDigits (U / 10)) ++ (dgt U :: t.data.toList):=by
  rcases h.2 with ⟨h1,rfl⟩ | ⟨h1,h2⟩
  ·have:t.data.toList=[]:=by rw [← List.length_eq_zero_iff];simpa using h1
   rw [this,← dec_step]
  ·have hU:0 < U:=by omega
   rw [h2,if_neg (by omega),dec_step U,List.append_assoc];rfl
 have hlen:=congrArg List.length key
 rw [Lib.decDigits_length,List.length_append] at hlen
 have h20:=Lib.nDigits_le20 U0 hU0
 simp only [List.length_cons,Array.length_toList] at hlen
 have hs:t.data.size=t.size:=rfl
 refine ⟨by rw [app_size];omega,Or.inr ⟨by rw [app_size];omega,by rw [app_data];exact key⟩⟩
theorem decInv_end {U0:Nat} {t:ByteArray} (h:DecInv U0 0 t) (ht:0 < t.size):t.data.toList=Lib.decDigits U0:=by
 rcases h.2 with ⟨h1,_⟩ | ⟨_,h2⟩
 ·omega
 ·rw [h2,if_pos rfl];rfl

theorem conv_dgt (w:World) (U:Nat):(convert 87 9 (.slice (some ⟨w.heap.size,0,none⟩) 1 1)).run Tryz.prog (w.alloc (.cells #[.int .u8 (48 + (U:Int) % 10)] 5))=.ok (.string ⟨#[dgt U]⟩) (w.alloc (.cells #[.int .u8 (48 + (U:Int) % 10)] 5)):=by
 refine run_convert_bytes_back _ 87 9 5 ⟨w.heap.size,0,none⟩ 1 [dgt U] Tryz.underlying87 Tryz.underlying5 Tryz.underlying9 fun j hj=>?_
 simp only [List.length_singleton] at hj
 obtain rfl:j=0:=by omega
 have e:((dgt U).toNat:Int)=48 + (U:Int) % 10:=by
  unfold dgt
  rw [UInt8.toNat_ofNat',Nat.mod_eq_of_lt (by omega)]
  omega
 simp [Addr.add,e]

theorem u64_neg (n:Int) (h0:-9223372036854775808≤n) (h1:n < 0):IntKind.u64.wrap (-IntKind.u64.wrap n)=((n.natAbs:Nat):Int):=by
 have e:(2:Int) ^ IntKind.u64.bits=18446744073709551616:=by decide
 simp only [IntKind.wrap,e,show IntKind.u64.signed=false from rfl,Bool.false_and,Bool.false_eq_true,if_false]
 omega
theorem u64_pos (n:Int) (h0:0≤n) (h1:n≤9223372036854775807):IntKind.u64.wrap n=((n.toNat:Nat):Int):=by
 have e:(2:Int) ^ IntKind.u64.bits=18446744073709551616:=by decide
 simp only [IntKind.wrap,e,show IntKind.u64.signed=false from rfl,Bool.false_and,Bool.false_eq_true,if_false]
 omega
theorem itoa_neg (n:Int) (t:ByteArray) (h:n < 0) (ht:t.data.toList=Lib.decDigits n.natAbs):(⟨#[45]⟩:ByteArray) ++ t=itoaB n:=by
 apply WideShapes.bytes_inj
 rw [app_data,ht]
 unfold itoaB Lib.itoa
 rw [if_pos h]
theorem itoa_pos (n:Int) (t:ByteArray) (h:0≤n) (ht:t.data.toList=Lib.decDigits n.toNat):t=itoaB n:=by
 apply WideShapes.bytes_inj
 rw [ht]
 unfold itoaB Lib.itoa
 rw [if_neg (by omega)]

theorem ret_ba {a b:ByteArray} (h:a=b):Ending.returned (.string a)=.returned (.string b):=by rw [h]
theorem empty_app (d:UInt8) (t:ByteArray):emptyStr (.string (⟨#[d]⟩ ++ t))=0:=by
 unfold emptyStr
 simp only
 rw [if_neg (by rw [app_size];omega)]
theorem empty_yes {t:ByteArray} (h:t.size=0):emptyStr (.string t)=1:=by unfold emptyStr;simp only;rw [if_pos h]
theorem u64_div (U:Nat) (h:U < 18446744073709551616):IntKind.u64.wrap ((U:Int) / 10)=((U / 10:Nat):Int):=by
 have e:(2:Int) ^ IntKind.u64.bits=18446744073709551616:=by decide
 simp only [IntKind.wrap,e,show IntKind.u64.signed=false from rfl,Bool.false_and,Bool.false_eq_true,if_false]
 omega
theorem conv_zero (w:World):(convert 87 9 (.slice (some ⟨w.heap.size,0,none⟩) 1 1)).run Tryz.prog (w.alloc (.cells #[.int .u8 48] 5))=.ok (.string ⟨#[dgt 0]⟩) (w.alloc (.cells #[.int .u8 48] 5)):=by
 have:=conv_dgt w 0
 simpa using this
theorem u64_eq {a:Int} {b:Nat} (h:a=(b:Int)):Value.int .u64 a=.int .u64 (b:Int):=by rw [h]
theorem meas_pos {U:Nat} {d:UInt8} {t:ByteArray} (h:U < 18446744073709551616) (h0:0 < U):2 * (intOf (.int .u64 (IntKind.u64.wrap ((U:Int) / 10)))).toNat + emptyStr (.string (⟨#[d]⟩ ++ t)) < 2 * (intOf (.int .u64 (U:Int))).toNat + emptyStr (.string t):=by
 rw [u64_div U h,empty_app]
 simp only [intOf]
 omega
theorem meas_zero {d:UInt8} {t:ByteArray} (ht:t.size=0):2 * (intOf (.int .u64 0)).toNat + emptyStr (.string (⟨#[d]⟩ ++ t)) < 2 * (intOf (.int .u64 0)).toNat + emptyStr (.string t):=by
 rw [empty_app,empty_yes ht]
 simp only [intOf]
 omega

set_option maxRecDepth 100000 in
set_option maxHeartbeats 400000 in
theorem decimal_neg (n:Int) (w:World) (h0:-9223372036854775808≤n) (h1:n < 0) :
  Calls Tryz.prog 121 #[.int .i64 n] w fun e w'=>e=.returned (.string (itoaB n))∧Below w.heap.size w w':=by
 obtain ⟨N,hN⟩:∃ N,N=n.natAbs:=⟨_,rfl⟩
 have H0:=hide (And.intro (u64_neg n h0 h1) (show N < 18446744073709551616 by omega))
 have H1:=hide (fun t=>itoa_neg n t h1)
 have HN:=hide hN
 clear h0 hN
 go_enter Tryz.func121,Tryz.ntmps121
 go_wp2
 go_loopw [3,4] (fun u s wr=>∃ (U:Nat) (t:ByteArray),u=.int .u64 U∧s=.string t∧Below w.heap.size w wr∧DecInv N U t∧U≤N) (fun u s _=>2 * (intOf u).toNat + emptyStr s)
 case atStart=>exact ⟨N,⟨#[]⟩,by rw [(uh H0).1,uh HN],rfl,Below.refl _ _,⟨by decide,Or.inl ⟨rfl,rfl⟩⟩,Nat.le_refl _⟩
 case round =>
  obtain ⟨U,t,rfl,rfl,hb,hinv,hle⟩:=hrel
  have ht20:t.size≤20:=hinv.1
  have Hinv:=hide (And.intro hinv hle)
  clear hinv hle
  have hadd:=fun W=>run_string_add_sum (P:=Tryz.prog) W ⟨#[dgt U]⟩ t (by show 1 + t.size≤_;omega)
  by_cases hU:(0:Int) < (U:Int)
  ·have hcv:=conv_dgt wr U
   have hst:=hide (decInv_step (uh H0).2 (uh Hinv).1 (Or.inl (by omega)))
   have hlt:=hide (show U < 18446744073709551616 by have h1:=(uh H0).2;have h2:=(uh Hinv).2;omega)
   go_wp2
   go_roundw
   case rel=>exact ⟨U / 10,_,u64_eq (u64_div U (uh hlt)),rfl,hb.alloc hb.size _,uh hst,by have:=(uh Hinv).2;omega⟩
   case measure=>exact meas_pos (uh hlt) (by omega)
  ·obtain rfl:U=0:=by omega
   by_cases ht:t.size=0
   ·have hcv:=conv_zero wr
    have hst:=hide (decInv_step (uh H0).2 (uh Hinv).1 (Or.inr ht))
    have he:t.toList.isEmpty=true:=(empty_iff t).2 ht
    have Hm:=hide ht
    clear ht
    go_wp2
    go_roundw
    case rel=>exact ⟨0,_,rfl,rfl,hb.alloc hb.size _,uh hst,Nat.zero_le _⟩
    case measure=>exact meas_zero (uh Hm)
   ·have he:t.toList.isEmpty=false:=by cases h:t.toList.isEmpty;rfl;exact absurd ((empty_iff t).1 h) ht
    have hfin:=hide (uh H1 t (by rw [decInv_end (uh Hinv).1 (by omega),uh HN]))
    have hadd2:=fun W=>run_string_add_sum (P:=Tryz.prog) W ⟨#[45]⟩ t (by show 1 + t.size≤_;omega)
    clear hadd ht
    go_wp2
    go_ret
    exact ⟨ret_ba (uh hfin),hb⟩

set_option maxRecDepth 100000 in
set_option maxHeartbeats 400000 in
theorem decimal_pos (n:Int) (w:World) (h0:0≤n) (h1:n≤9223372036854775807) :
  Calls Tryz.prog 121 #[.int .i64 n] w fun e w'=>e=.returned (.string (itoaB n))∧Below w.heap.size w w':=by
 obtain ⟨N,hN⟩:∃ N,N=n.toNat:=⟨_,rfl⟩
 have H0:=hide (And.intro (u64_pos n h0 h1) (show N < 18446744073709551616 by omega))
 have H1:=hide (fun t=>itoa_pos n t h0)
 have HN:=hide hN
 clear h1 hN
 go_enter Tryz.func121,Tryz.ntmps121
 go_wp2
 go_loopw [3,4] (fun u s wr=>∃ (U:Nat) (t:ByteArray),u=.int .u64 U∧s=.string t∧Below w.heap.size w wr∧DecInv N U t∧U≤N) (fun u s _=>2 * (intOf u).toNat + emptyStr s)
 case atStart=>exact ⟨N,⟨#[]⟩,by rw [(uh H0).1,uh HN],rfl,Below.refl _ _,⟨by decide,Or.inl ⟨rfl,rfl⟩⟩,Nat.le_refl _⟩
 case round =>
  obtain ⟨U,t,rfl,rfl,hb,hinv,hle⟩:=hrel
  have ht20:t.size≤20:=hinv.1
  have Hinv:=hide (And.intro hinv hle)
  clear hinv hle
  have hadd:=fun W=>run_string_add_sum (P:=Tryz.prog) W ⟨#[dgt U]⟩ t (by show 1 + t.size≤_;omega)
  by_cases hU:(0:Int) < (U:Int)
  ·have hcv:=conv_dgt wr U
   have hst:=hide (decInv_step (uh H0).2 (uh Hinv).1 (Or.inl (by omega)))
   have hlt:=hide (show U < 18446744073709551616 by have h1:=(uh H0).2;have h2:=(uh Hinv).2;omega)
   go_wp2
   go_roundw
   case rel=>exact ⟨U / 10,_,u64_eq (u64_div U (uh hlt)),rfl,hb.alloc hb.size _,uh hst,by have:=(uh Hinv).2;omega⟩
   case measure=>exact meas_pos (uh hlt) (by omega)
  ·obtain rfl:U=0:=by omega
   by_cases ht:t.size=0
   ·have hcv:=conv_zero wr
    have hst:=hide (decInv_step (uh H0).2 (uh Hinv).1 (Or.inr ht))
    have he:t.toList.isEmpty=true:=(empty_iff t).2 ht
    have Hm:=hide ht
    clear ht
    go_wp2
    go_roundw
    case rel=>exact ⟨0,_,rfl,rfl,hb.alloc hb.size _,uh hst,Nat.zero_le _⟩
    case measure=>exact meas_zero (uh Hm)
   ·have he:t.toList.isEmpty=false:=by cases h:t.toList.isEmpty;rfl;exact absurd ((empty_iff t).1 h) ht
    have hfin:=hide (uh H1 t (by rw [decInv_end (uh Hinv).1 (by omega),uh HN]))
    clear hadd ht
    go_wp2
    go_ret
    exact ⟨ret_ba (uh hfin),hb⟩

theorem decimal_any (n:Int) (w:World) (h0:-9223372036854775808≤n) (h1:n≤9223372036854775807) :
  Calls Tryz.prog 121 #[.int .i64 n] w fun e w'=>e=.returned (.string (itoaB n))∧Below w.heap.size w w':=by
 by_cases h:n < 0
 ·exact decimal_neg n w h0 h
 ·exact decimal_pos n w (by omega) h1

end Go.Proofs.YtencibjmiphinaaGreatDoor.Lx
namespace Go.Proofs.YtencibjmiphinaaGreatDoor.Lx
open Go.RowKit

theorem parse_app (r:List UInt8):∀ (l:List UInt8) (acc a:Nat),Lib.parseUint10 acc l=.ok a→Lib.parseUint10 acc (l ++ r)=Lib.parseUint10 a r
 | [],acc,a,h=>by
  simp only [Lib.parseUint10] at h
  injection h with h
  subst h;rfl
 | c :: l,acc,a,h=>by
  simp only [List.cons_append,Lib.parseUint10] at h ⊢
  split at h
  ·rename_i h1
   rw [if_pos h1]
   split at h
   ·cases h
   ·rename_i h2
    rw [if_neg h2]
    split at h
    ·cases h
    ·rename_i h3
     rw [if_neg h3]
     exact parse_app r l _ a h
  ·cases h
theorem dec_digit (u:Nat):∀ c ∈ Lib.decDigits u,48≤c.toNat∧c.toNat≤57:=by
 induction u using Nat.strongRecOn with
 | _ u ih =>
  intro c hc
  rw [Lib.decDigits] at hc
  by_cases h:u < 10
  ·rw [dif_pos h] at hc
   simp only [List.mem_singleton] at hc
   subst hc
   rw [UInt8.toNat_ofNat',Nat.mod_eq_of_lt (by omega)]
   omega
  ·rw [dif_neg h] at hc
   rcases List.mem_append.1 hc with hc | hc
   ·exact ih (u / 10) (by omega) c hc
   ·simp only [List.mem_singleton] at hc
    subst hc
    rw [UInt8.toNat_ofNat',Nat.mod_eq_of_lt (by omega)]
    omega
theorem dec_ne (u:Nat):Lib.decDigits u ≠ []:=by
 intro h
 have:=Lib.decDigits_length u
 rw [h] at this
 have:=Lib.nDigits_pos u
 simp at *;omega
theorem parse_dec (u:Nat) (hu:u≤9223372036854775808):Lib.parseUint10 0 (Lib.decDigits u)=.ok u:=by
 induction u using Nat.strongRecOn with
 | _ u ih =>
  rw [Lib.decDigits]
  by_cases h:u < 10
  ·rw [dif_pos h]
   have e:(UInt8.ofNat (48 + u)).toNat=48 + u:=by rw [UInt8.toNat_ofNat',Nat.mod_eq_of_lt (by omega)]
   simp only [Lib.parseUint10,e]
   rw [if_pos (by omega),if_neg (by omega),if_neg (by omega)]
   congr 1;omega
  ·rw [dif_neg h,parse_app _ _ _ _ (ih (u / 10) (by omega) (by omega))]
   have e:(UInt8.ofNat (48 + u % 10)).toNat=48 + u % 10:=by rw [UInt8.toNat_ofNat',Nat.mod_eq_of_lt (by omega)]
   simp only [Lib.parseUint10,e]
   rw [if_pos (by omega),if_neg (by omega),if_neg (by omega)]
   congr 1;omega
theorem atoi_itoa (n:Int) (h0:-9223372036854775808≤n) (h1:n≤9223372036854775807):Lib.atoiAll (Lib.itoa n)=.ok n:=by
 unfold Lib.itoa
 by_cases h:n < 0
 ·rw [if_pos h]
  have hp:Lib.parseMag (Lib.decDigits n.natAbs)=.ok n.natAbs:=by
   unfold Lib.parseMag;rw [if_neg (dec_ne _),parse_dec _ (by omega)]
  unfold Lib.atoiAll
  have e45:(45:UInt8).toNat=45:=rfl
  simp only [e45,or_true,if_true,hp,not_true_eq_false,false_and,if_false,true_and]
  rw [if_neg (by omega)]
  congr 1;omega
 ·rw [if_neg h]
  cases hd:Lib.decDigits n.toNat with
  | nil=>exact absurd hd (dec_ne _)
  | cons c r =>
   have hc:=dec_digit n.toNat c (by rw [hd];exact List.mem_cons_self)
   have hp:Lib.parseMag (c :: r)=.ok n.toNat:=by
    rw [← hd];unfold Lib.parseMag;rw [if_neg (dec_ne _),parse_dec _ (by omega)]
   unfold Lib.atoiAll
   simp only
   rw [if_neg (by omega),hp]
   simp only
   rw [if_neg (by omega),if_neg (by omega),if_neg (by omega)]
   congr 1;omega
theorem itoa_noquote (n:Int):Lib.hasPrefix (Lib.itoa n) [34]=false:=by
 unfold Lib.itoa Lib.hasPrefix
 by_cases h:n < 0
 ·rw [if_pos h];rfl
 ·rw [if_neg h]
  cases hd:Lib.decDigits n.toNat with
  | nil=>rfl
  | cons c r =>
   have hc:=dec_digit n.toNat c (by rw [hd];exact List.mem_cons_self)
   have:c ≠ 34:=fun e=>by subst e;have:(34:UInt8).toNat=34:=rfl;omega
   simp [List.isPrefixOf,Ne.symm this]
theorem quote_quote (t:List UInt8):Lib.hasPrefix (quoteL t) [34]=true:=by
 unfold quoteL Lib.hasPrefix
 simp [List.isPrefixOf]
theorem itoa_len (n:Int) (h0:-9223372036854775808≤n) (h1:n≤9223372036854775807):(Lib.itoa n).length≤21:=by
 unfold Lib.itoa
 split
 ·have:=Lib.nDigits_le20 n.natAbs (by omega)
  simp only [List.length_cons,Lib.decDigits_length];omega
 ·have:=Lib.nDigits_le20 n.toNat (by omega)
  simp only [Lib.decDigits_length];omega
end Go.Proofs.YtencibjmiphinaaGreatDoor.Lx
namespace Go.Proofs.YtencibjmiphinaaGreatDoor.Lx
open Go.RowKit

/-- One digit more. -/
def stepD (a:Nat) (c:UInt8):Nat:=if 48≤c.toNat∧c.toNat≤57 then a * 10 + (c.toNat - 48) else a
def dv (l:List UInt8):Nat:=l.foldl stepD 0
theorem dv_snoc (l:List UInt8) (c:UInt8):dv (l ++ [c])=stepD (dv l) c:=by simp [dv]
theorem step_ge (a:Nat) (c:UInt8):a≤stepD a c:=by unfold stepD;split <;> omega
theorem fold_ge:∀ (l:List UInt8) (a:Nat),a≤l.foldl stepD a
 | [],_=>Nat.le_refl _
 | c :: l,a=>Nat.le_trans (step_ge a c) (fold_ge l _)
theorem dv_take (l:List UInt8) (k:Nat):dv (l.take k)≤dv l:=by
 conv=>rhs;rw [← List.take_append_drop k l]
 unfold dv
 rw [List.foldl_append]
 exact fold_ge _ _
theorem dv_dec (u:Nat):dv (Lib.decDigits u)=u:=by
 induction u using Nat.strongRecOn with
 | _ u ih =>
  rw [Lib.decDigits]
  by_cases h:u < 10
  ·rw [dif_pos h]
   have e:(UInt8.ofNat (48 + u)).toNat=48 + u:=by rw [UInt8.toNat_ofNat',Nat.mod_eq_of_lt (by omega)]
   simp only [dv,List.foldl_cons,List.foldl_nil,stepD,e]
   rw [if_pos (by omega)];omega
  ·rw [dif_neg h,dv_snoc,ih (u / 10) (by omega)]
   have e:(UInt8.ofNat (48 + u % 10)).toNat=48 + u % 10:=by rw [UInt8.toNat_ofNat',Nat.mod_eq_of_lt (by omega)]
   simp only [stepD,e]
   rw [if_pos (by omega)];omega
theorem dv_itoa (n:Int):dv (Lib.itoa n)=n.natAbs:=by
 unfold Lib.itoa
 by_cases h:n < 0
 ·rw [if_pos h]
  show (Lib.decDigits n.natAbs).foldl stepD (stepD 0 45)=_
  rw [show stepD 0 45=0 from rfl]
  exact dv_dec _
 ·rw [if_neg h,dv_dec];omega
/-- A numeral of a value. -/
def Good (l:List UInt8):Prop:=∃ n:Int,-2147483648≤n∧n≤2147483647∧l=Lib.itoa n
theorem good_le {l:List UInt8} (h:Good l) (k:Nat):dv (l.take k)≤2147483648:=by
 obtain ⟨n,h1,h2,rfl⟩:=h
 have:=dv_take (Lib.itoa n) k
 rw [dv_itoa] at this
 omega
theorem list_one (s:ByteArray) (h:0 < s.size):s.data.toList=s[0] :: s.data.toList.drop 1:=by
 conv=>lhs;rw [← List.drop_zero (l:=s.data.toList)]
 rw [List.drop_eq_getElem_cons (by simpa using h)];rfl
theorem nDigits_ten {u:Nat} (h:u < 10000000000):Lib.nDigits u≤10:=by
 have:=Lib.decDigits_length u
 by_cases h0:u < 10
 ·rw [Lib.nDigits_small h0];omega
 ·rw [Lib.nDigits_big h0]
  have key:∀ (k v:Nat),v < 10 ^ (k + 1)→Lib.nDigits v≤k + 1:=by
   intro k
   induction k with
   | zero=>intro v hv;rw [Lib.nDigits_small (by simpa using hv)];omega
   | succ k ih =>
    intro v hv
    by_cases hv0:v < 10
    ·rw [Lib.nDigits_small hv0];omega
    ·rw [Lib.nDigits_big hv0]
     have:=ih (v / 10) (by rw [Nat.pow_succ] at hv;omega)
     omega
  have:=key 8 (u / 10) (by omega)
  omega
theorem w64_rng (n:Int):-9223372036854775808≤wrap64 n∧wrap64 n≤9223372036854775807:=by unfold wrap64;omega
theorem w64_in {n:Int} (h0:-9223372036854775808≤n) (h1:n≤9223372036854775807):wrap64 n=n:=by unfold wrap64;omega

theorem num_step {l:List UInt8} {k:Nat} {c:UInt8} {N:Int} (ht:l.take (k + 1)=l.take k ++ [c]) (hg:Good l→N=dv (l.take k)) (c0:48≤(c.toNat:Int)) (c1:(c.toNat:Int)≤57) :
  Good l→wrap64 (wrap64 (N * 10) + ((c.toNat:Int) - 48))=((dv (l.take (k + 1)):Nat):Int):=by
 intro h
 have h1:=good_le h k
 have e:=hg h
 rw [ht,dv_snoc]
 unfold stepD
 rw [if_pos (by omega),e,w64_in (n:=((dv (l.take k):Nat):Int) * 10) (by omega) (by omega),w64_in (by omega) (by omega)]
 omega
theorem num_skip {l:List UInt8} {k:Nat} {c:UInt8} {N:Int} (ht:l.take (k + 1)=l.take k ++ [c]) (hg:Good l→N=dv (l.take k)) (hc:¬ (48≤(c.toNat:Int)∧(c.toNat:Int)≤57)) :
  Good l→N=((dv (l.take (k + 1)):Nat):Int):=by
 intro h
 rw [ht,dv_snoc,hg h]
 unfold stepD
 rw [if_neg (by omega)]
theorem head_neg {s:ByteArray} (h0:0 < s.size) {n:Int} (h:s.data.toList=Lib.itoa n):(s[0].toNat:Int)=45 ↔ n < 0:=by
 have hl:=list_one s h0
 rw [h] at hl
 unfold Lib.itoa at hl
 by_cases hn:n < 0
 ·rw [if_pos hn] at hl
  simp only [List.cons.injEq] at hl
  rw [← hl.1]
  exact ⟨fun _=>hn,fun _=>rfl⟩
 ·rw [if_neg hn] at hl
  have:=dec_digit n.toNat s[0] (by rw [hl];exact List.mem_cons_self)
  constructor
  ·intro e;omega
  ·intro e;exact absurd e hn
/-- What Number answers. -/
def NumOf (l:List UInt8) (e:Ending):Prop :=
 (∃ n:Int,-2147483648≤n∧n≤2147483647∧l=Lib.itoa n∧e=.returned (.tuple #[.int .i64 n,.bool true])) ∨ (¬ Good l∧e=.returned (.tuple #[.int .i64 0,.bool false]))

set_option maxRecDepth 100000 in
set_option maxHeartbeats 1000000 in
theorem number_loop (s:ByteArray) (w:World) (h0:0 < s.size) (h20:s.size≤20) :
  Calls Tryz.prog 96 #[.string s,.int .i64 (-2147483648),.int .i64 2147483647] w fun e w'=>NumOf s.data.toList e∧Below w.heap.size w w':=by
 have i0:(0:Int) < (s.size:Int):=by omega
 have i1:(s.size:Int)≤20:=by omega
 have he:s.toList.isEmpty=false:=by cases h:s.toList.isEmpty;rfl;exact absurd ((empty_iff s).1 h) (by omega)
 go_enter Tryz.func96,Tryz.ntmps96
 go_wp2
 go_loop [8,9] (fun a i=>∃ (k:Nat) (N:Int),k≤s.size∧i=.int .i64 k∧a=.int .i64 N∧-9223372036854775808≤N∧N≤9223372036854775807∧(Good s.data.toList→N=dv (s.data.toList.take k))) (fun _ i=>s.size - (intOf i).toNat)
 case atStart=>exact ⟨0,0,by omega,rfl,rfl,by omega,by omega,fun _=>rfl⟩
 case round =>
  obtain ⟨k,N,hk,rfl,rfl,hN0,hN1,hg⟩:=hrel
  have Hg:=hide (And.intro hN0 (And.intro hN1 hg))
  clear hN0 hN1 hg
  by_cases hlt:k < s.size
  ·have b0:(0:Int)≤(k:Int):=by omega
   have b1:(k:Int) < (s.size:Int):=by omega
   have hts:=hide (take_snoc s k hlt)
   by_cases hc:48≤(s[k].toNat:Int)∧(s[k].toNat:Int)≤57
   ·have Hc:=hide (num_step (uh hts) (uh Hg).2.2 hc.1 hc.2)
    obtain ⟨c0,c1⟩:=hc
    go_wp2
    exact ⟨⟨k + 1,_,by omega,by go_num,rfl,(w64_rng _).1,(w64_rng _).2,uh Hc⟩,by simp [intOf];omega⟩
   ·have Hc:=hide (num_skip (uh hts) (uh Hg).2.2 hc)
    have hcase:¬ 48≤(s[k].toNat:Int) ∨ (48≤(s[k].toNat:Int)∧¬ (s[k].toNat:Int)≤57):=by omega
    clear hc
    rcases hcase with c0 | ⟨c0,c1⟩
    all_goals
     go_wp2
     exact ⟨⟨k + 1,N,by omega,by go_num,rfl,(uh Hg).1,(uh Hg).2.1,uh Hc⟩,by simp [intOf];omega⟩
  ·have hN:=hide (show Good s.data.toList→N=dv s.data.toList by
    have h:=(uh Hg).2.2
    rw [List.take_of_length_le (by simp;omega)] at h
    exact h)
   cases hm:((s[0].toNat:Int) == 45)
   ·have hMn:=hide (show ∀ n:Int,-2147483648≤n→n≤2147483647→s.data.toList=Lib.itoa n→N=n from fun n h1 h2 h3=>by
     have h4:=uh hN ⟨n,h1,h2,h3⟩
     rw [h3,dv_itoa] at h4
     have h5:=head_neg h0 h3
     have h6:¬ (s[0].toNat:Int)=45:=by simpa using hm
     omega)
    have hdec:=fun w=>decimal_any N w (uh Hg).1 (uh Hg).2.1
    go_wp2_with fail
    by_cases hs:itoaB N=s
    ·by_cases r:-2147483648≤N∧N≤2147483647
     ·obtain ⟨r1,r2⟩:=r
      have Hs:=hide (show s.data.toList=Lib.itoa N by rw [← hs];rfl)
      rw [hs] at hdec
      clear hs
      go_wp2_with (go_at_call 121;refine (hdec _).mono ?_;rintro e w1 ⟨rfl,hb⟩)
      go_ret2
      exact ⟨Or.inl ⟨N,r1,r2,uh Hs,rfl⟩,hb⟩
     ·have hno:=hide (show ¬ Good s.data.toList from fun ⟨n,h1,h2,h3⟩=>r (by rw [uh hMn n h1 h2 h3];exact ⟨h1,h2⟩))
      have hcase:N < -2147483648 ∨ (-2147483648≤N∧2147483647 < N):=by omega
      rw [hs] at hdec
      clear hs r
      rcases hcase with r1 | ⟨r1,r2⟩
      all_goals
       go_wp2_with (go_at_call 121;refine (hdec _).mono ?_;rintro e w1 ⟨rfl,hb⟩)
       go_ret2
       exact ⟨Or.inr ⟨uh hno,rfl⟩,hb⟩
    ·have hno:=hide (show ¬ Good s.data.toList from fun ⟨n,h1,h2,h3⟩=>hs (by rw [uh hMn n h1 h2 h3];exact WideShapes.bytes_inj h3.symm))
     have hd:=toList_ne hs
     clear hs
     generalize itoaB N=T at hdec hd
     go_wp2_with (go_at_call 121;refine (hdec _).mono ?_;rintro e w1 ⟨rfl,hb⟩)
     go_ret2
     exact ⟨Or.inr ⟨uh hno,rfl⟩,hb⟩
   ·have hMn:=hide (show ∀ n:Int,-2147483648≤n→n≤2147483647→s.data.toList=Lib.itoa n→wrap64 (-N)=n from fun n h1 h2 h3=>by
     have h4:=uh hN ⟨n,h1,h2,h3⟩
     rw [h3,dv_itoa] at h4
     have h5:=head_neg h0 h3
     have h6:(s[0].toNat:Int)=45:=by simpa using hm
     rw [w64_in (by omega) (by omega)]
     omega)
    have hdec:=fun w=>decimal_any (wrap64 (-N)) w (w64_rng _).1 (w64_rng _).2
    go_wp2_with fail
    generalize wrap64 (-N)=M at hdec hMn ⊢
    by_cases hs:itoaB M=s
    ·by_cases r:-2147483648≤M∧M≤2147483647
     ·obtain ⟨r1,r2⟩:=r
      have Hs:=hide (show s.data.toList=Lib.itoa M by rw [← hs];rfl)
      rw [hs] at hdec
      clear hs
      go_wp2_with (go_at_call 121;refine (hdec _).mono ?_;rintro e w1 ⟨rfl,hb⟩)
      go_ret2
      exact ⟨Or.inl ⟨M,r1,r2,uh Hs,rfl⟩,hb⟩
     ·have hno:=hide (show ¬ Good s.data.toList from fun ⟨n,h1,h2,h3⟩=>r (by rw [uh hMn n h1 h2 h3];exact ⟨h1,h2⟩))
      have hcase:M < -2147483648 ∨ (-2147483648≤M∧2147483647 < M):=by omega
      rw [hs] at hdec
      clear hs r
      rcases hcase with r1 | ⟨r1,r2⟩
      all_goals
       go_wp2_with (go_at_call 121;refine (hdec _).mono ?_;rintro e w1 ⟨rfl,hb⟩)
       go_ret2
       exact ⟨Or.inr ⟨uh hno,rfl⟩,hb⟩
    ·have hno:=hide (show ¬ Good s.data.toList from fun ⟨n,h1,h2,h3⟩=>hs (by rw [uh hMn n h1 h2 h3];exact WideShapes.bytes_inj h3.symm))
     have hd:=toList_ne hs
     clear hs
     generalize itoaB M=T at hdec hd
     go_wp2_with (go_at_call 121;refine (hdec _).mono ?_;rintro e w1 ⟨rfl,hb⟩)
     go_ret2
     exact ⟨Or.inr ⟨uh hno,rfl⟩,hb⟩

theorem good_len {l:List UInt8} (h:Good l):1≤l.length∧l.length≤20:=by
 obtain ⟨n,h1,h2,rfl⟩:=h
 unfold Lib.itoa
 split
 ·have h3:=Lib.decDigits_length n.natAbs
  have h4:Lib.nDigits n.natAbs≤10:=nDigits_ten (by omega)
  simp only [List.length_cons,h3];omega
 ·have h3:=Lib.decDigits_length n.toNat
  have h4:Lib.nDigits n.toNat≤10:=nDigits_ten (by omega)
  have h5:=Lib.nDigits_pos n.toNat
  rw [h3];omega
set_option maxHeartbeats 400000 in
theorem number_out (s:ByteArray) (w:World) (h:¬ (0 < s.size∧s.size≤20)) (hmax:s.size≤1048576) :
  Calls Tryz.prog 96 #[.string s,.int .i64 (-2147483648),.int .i64 2147483647] w fun e w'=>e=.returned (.tuple #[.int .i64 0,.bool false])∧Below w.heap.size w w':=by
 by_cases h0:s.size=0
 ·have he:s.toList.isEmpty=true:=(empty_iff s).2 h0
  clear h h0
  go_enter Tryz.func96,Tryz.ntmps96
  go_wp2
  go_ret2
  exact ⟨rfl,Below.refl _ _⟩
 ·have he:s.toList.isEmpty=false:=by cases h:s.toList.isEmpty;rfl;exact absurd ((empty_iff s).1 h) (by omega)
  have i1:(20:Int) < (s.size:Int):=by omega
  clear h h0
  go_enter Tryz.func96,Tryz.ntmps96
  go_wp2
  go_ret2
  exact ⟨rfl,Below.refl _ _⟩
theorem number_any (s:ByteArray) (w:World) (hmax:s.size≤1048576) :
  Calls Tryz.prog 96 #[.string s,.int .i64 (-2147483648),.int .i64 2147483647] w fun e w'=>NumOf s.data.toList e∧Below w.heap.size w w':=by
 by_cases h:0 < s.size∧s.size≤20
 ·exact number_loop s w h.1 h.2
 ·refine (number_out s w h hmax).mono fun e w' ⟨he,hb⟩=>⟨Or.inr ⟨fun hg=>h ?_,he⟩,hb⟩
  have:=good_len hg
  simp only [Array.length_toList] at this
  have h4:s.data.size=s.size:=rfl
  omega
end Go.Proofs.YtencibjmiphinaaGreatDoor.Lx
namespace Go.Proofs.YtencibjmiphinaaGreatDoor.Lx
open Go.RowKit

def hexes:List UInt8:=[48,49,50,51,52,53,54,55,56,57,97,98,99,100,101,102]
/-- A hexadecimal digit's number, or -1. -/
def idx (c:UInt8):Int:=Lib.indexByte hexes c
/-- The byte of two digits' numbers. -/
def byteOf (h l:Int):UInt8:=UInt8.ofNat (h * 16 + l).toNat
/-- The byte with whose writing a text begins, and how long that is; 0, if there is none. -/
def firstL:List UInt8→UInt8 × Nat
 | []=>(0,0)
 | c0 :: r =>
  if c0=92 then
   match r with
   | []=>(0,0)
   | c1 :: r2 =>
    if needs c1 then (c1,2)
    else if c1=120 then
     match r2 with
     | c2 :: c3 :: _=>if idx c2 < 0 ∨ idx c3 < 0 ∨ prints (byteOf (idx c2) (idx c3))=true then (0,0) else (byteOf (idx c2) (idx c3),4)
     | _=>(0,0)
    else (0,0)
  else if prints c0=true∧needs c0=false then (c0,1) else (0,0)

theorem all_bytes {p:UInt8→Bool} (h:(List.range 256).all (fun n=>p (UInt8.ofNat n))=true) (c:UInt8):p c=true:=by
 rw [List.all_eq_true] at h
 have:=h c.toNat (List.mem_range.2 c.toNat_lt)
 simpa using this
theorem idx_rng (c:UInt8):-1≤idx c∧idx c < 16:=by
 have:=all_bytes (p:=fun c=>decide (-1≤idx c∧idx c < 16)) (by decide +kernel) c
 simpa using this
theorem idx_hexd (c:UInt8) (h:0≤idx c):c=hexd (idx c).toNat:=by
 have:=all_bytes (p:=fun c=>decide (0≤idx c→c=hexd (idx c).toNat)) (by decide +kernel) c
 simp only [decide_eq_true_eq] at this
 exact this h
theorem hexd_idx (n:Nat) (h:n < 16):idx (hexd n)=n:=by
 have hh:(List.range 16).all (fun n=>decide (idx (hexd n)=n))=true:=by decide +kernel
 rw [List.all_eq_true] at hh
 simpa using hh n (List.mem_range.2 h)
theorem byte_parts (c:UInt8):byteOf (idx (hexd (c.toNat / 16))) (idx (hexd (c.toNat % 16)))=c:=by
 have:=c.toNat_lt
 rw [hexd_idx _ (by omega),hexd_idx _ (by omega)]
 unfold byteOf
 rw [show (((c.toNat / 16:Nat):Int) * 16 + ((c.toNat % 16:Nat):Int)).toNat=c.toNat by omega]
 simp
theorem parts_byte {h l:Int} (h0:0≤h) (h1:h < 16) (l0:0≤l) (l1:l < 16):(byteOf h l).toNat / 16=h.toNat∧(byteOf h l).toNat % 16=l.toNat:=by
 have e:(byteOf h l).toNat=(h * 16 + l).toNat:=by
  unfold byteOf
  rw [UInt8.toNat_ofNat',Nat.mod_eq_of_lt (by omega)]
 rw [e];omega
theorem needs_92:needs 92=true:=by decide
theorem needs_120:needs 120=false:=by decide
theorem first_esc (c:UInt8) (r:List UInt8):firstL (esc c ++ r)=(c,(esc c).length):=by
 cases hn:needs c
 ·cases hp:prints c
  ·have he:esc c=[92,120,hexd (c.toNat / 16),hexd (c.toNat % 16)]:=by unfold esc;rw [if_neg (by simp [hn]),if_neg (by simp [hp])]
   rw [he]
   have:=c.toNat_lt
   have h1:=hexd_idx (c.toNat / 16) (by omega)
   have h2:=hexd_idx (c.toNat % 16) (by omega)
   have h3:=byte_parts c
   simp only [List.cons_append,List.nil_append,firstL,if_pos,needs_120,Bool.false_eq_true,if_false]
   rw [if_neg (by rw [h3,hp,h1,h2];rintro (h | h | h);omega;omega;simp at h),h3];rfl
  ·have he:esc c=[c]:=by unfold esc;rw [if_neg (by simp [hn]),if_pos hp]
   have hc:c ≠ 92:=fun h=>by subst h;rw [needs_92] at hn;simp at hn
   rw [he]
   simp [firstL,hc,hp,hn]
 ·have he:esc c=[92,c]:=by unfold esc;rw [if_pos hn]
  rw [he]
  simp [firstL,hn]
theorem first_sound {l:List UInt8} {c:UInt8} {n:Nat} (h:firstL l=(c,n)) (hn:0 < n):∃ r,l=esc c ++ r∧n=(esc c).length:=by
 match l,h with
 | [],h=>simp [firstL] at h;omega
 | c0 :: r,h =>
  by_cases h92:c0=92
  ·subst h92
   match r,h with
   | [],h=>simp [firstL] at h;omega
   | c1 :: r2,h =>
    cases hnd:needs c1
    ·by_cases hx:c1=120
     ·subst hx
      match r2,h with
      | [],h=>simp [firstL,hnd] at h;omega
      | [_],h=>simp [firstL,hnd] at h;omega
      | c2 :: c3 :: r4,h =>
       simp only [firstL,if_pos,hnd,Bool.false_eq_true,if_false] at h
       by_cases hb:idx c2 < 0 ∨ idx c3 < 0 ∨ prints (byteOf (idx c2) (idx c3))=true
       ·rw [if_pos hb] at h;simp at h;omega
       ·rw [if_neg hb] at h
        simp only [Prod.mk.injEq] at h
        obtain ⟨rfl,rfl⟩:=h
        simp only [not_or,Bool.not_eq_true] at hb
        obtain ⟨g1,g2,g3⟩:=hb
        have r1:=idx_rng c2
        have r2:=idx_rng c3
        obtain ⟨e1,e2⟩:=parts_byte (h:=idx c2) (l:=idx c3) (by omega) r1.2 (by omega) r2.2
        have hnb:needs (byteOf (idx c2) (idx c3))=false:=by
         rw [needs_eq];rw [prints_eq] at g3
         simp at g3 ⊢;omega
        have he:esc (byteOf (idx c2) (idx c3))=[92,120,c2,c3]:=by
         unfold esc
         rw [if_neg (by simp [hnb]),if_neg (by simp [g3]),e1,e2,← idx_hexd c2 (by omega),← idx_hexd c3 (by omega)]
        exact ⟨r4,by rw [he];rfl,by rw [he];rfl⟩
     ·simp [firstL,hnd,hx] at h;omega
    ·simp [firstL,hnd] at h
     obtain ⟨rfl,rfl⟩:=h
     have he:esc c1=[92,c1]:=by unfold esc;rw [if_pos hnd]
     exact ⟨r2,by rw [he];rfl,by rw [he];rfl⟩
  ·by_cases hp:prints c0=true∧needs c0=false
   ·simp only [firstL,if_neg h92,if_pos hp,Prod.mk.injEq] at h
    obtain ⟨rfl,rfl⟩:=h
    have he:esc c0=[c0]:=by unfold esc;rw [if_neg (by simp [hp.2]),if_pos hp.1]
    exact ⟨r,by rw [he];rfl,by rw [he];rfl⟩
   ·simp only [firstL,if_neg h92,if_neg hp,Prod.mk.injEq] at h
    omega
end Go.Proofs.YtencibjmiphinaaGreatDoor.Lx
