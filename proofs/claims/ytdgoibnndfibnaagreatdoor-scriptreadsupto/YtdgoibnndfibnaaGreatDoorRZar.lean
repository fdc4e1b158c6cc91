/- What the reference's Decimal and Text return: what the program's Itoa and Text do. -/
import Derived.Test.YtdgoibnndfibnaaGreatDoorRZaq
import Derived.Lib.ItoaLen
namespace Go.Proofs.YtdgoibnndfibnaaGreatDoor
open Go.RowKit
def emptyStr:Value->Nat
 | .string b=>if b.size=0 then 1 else 0
 | _=>0
def dgt (U:Nat):UInt8:=UInt8.ofNat (48 + U % 10)
theorem dec_step (U:Nat):Lib.decDigits U=(if U / 10=0 then [] else Lib.decDigits (U / 10)) ++ [dgt U]:=by
 conv=>lhs;rw [Lib.decDigits]
 by_cases h:U < 10
 ·rw [dif_pos h,if_pos (by omega)]
  simp [dgt,Nat.mod_eq_of_lt h]
 ·rw [dif_neg h,if_neg (by omega)];rfl
/-- What the loop keeps: the digits still to be written, and those that are. -/
def DecInv (U0 U:Nat) (t:ByteArray):Prop:=t.size<=20/\((t.size=0/\U=U0) ∨ (0 < t.size/\Lib.decDigits U0=(if U=0 then [] else Lib.decDigits U) ++ t.data.toList))
theorem app_data (d:UInt8) (t:ByteArray):((⟨#[d]⟩:ByteArray) ++ t).data.toList=d :: t.data.toList:=by simp
theorem app_size (d:UInt8) (t:ByteArray):((⟨#[d]⟩:ByteArray) ++ t).size=1 + t.size:=by
 rw [ByteArray.size_append];rfl
theorem decInv_step {U0 U:Nat} {t:ByteArray} (hU0:U0 < 18446744073709551616) (h:DecInv U0 U t) (hc:0 < U ∨ t.size=0):DecInv U0 (U / 10) (⟨#[dgt U]⟩ ++ t):=by
 have key:Lib.decDigits U0=(if U / 10=0 then [] else Lib.decDigits (U / 10)) ++ (dgt U :: t.data.toList):=by
  rcases h.2 with ⟨h1,rfl⟩ | ⟨h1,h2⟩
  ·have:t.data.toList=[]:=by rw [<- List.length_eq_zero_iff];simpa using h1
   rw [this,<- dec_step]
  ·have hU:0 < U:=by omega
   rw [h2,if_neg (by omega),dec_step U,List.append_assoc];rfl
 have hlen:=congrArg List.length key
 rw [Lib.decDigits_length,List.length_append] at hlen
 have h20:=Lib.nDigits_le20 U0 hU0
 simp only [List.length_cons,Array.length_toList] at hlen
 have hs:t.data.size=t.size:=rfl
 refine ⟨by rw [app_size];omega,Or.inr ⟨by rw [app_size];omega,by rw [app_data];exact key⟩⟩
theorem decInv_end {U0:Nat} {t:ByteArray} (h:DecInv U0 0 t) (ht:0 < t.size):t.data.toList=Lib.decDigits U0:=by
 rcases h.2 with ⟨h1,_⟩ | ⟨_,h2⟩
 ·omega
 ·rw [h2,if_pos rfl];rfl
theorem conv_dgt (w:World) (U:Nat):(convert 67 9 (.slice (some ⟨w.heap.size,0,none⟩) 1 1)).run Tryz.prog (w.alloc (.cells #[.int .u8 (48 + (U:Int) % 10)] 5))=.ok (.string ⟨#[dgt U]⟩) (w.alloc (.cells #[.int .u8 (48 + (U:Int) % 10)] 5)):=by
 refine run_convert_bytes_back _ 67 9 5 ⟨w.heap.size,0,none⟩ 1 [dgt U] Tryz.underlying67 Tryz.underlying5 Tryz.underlying9 fun j hj=>?_
 simp only [List.length_singleton] at hj
 obtain rfl:j=0:=by omega
 have e:((dgt U).toNat:Int)=48 + (U:Int) % 10:=by
  unfold dgt
  rw [UInt8.toNat_ofNat',Nat.mod_eq_of_lt (by omega)]
  omega
 simp [Addr.add,e]
theorem u64_neg (n:Int) (h0:-9223372036854775808<=n) (h1:n < 0):IntKind.u64.wrap (-IntKind.u64.wrap n)=((n.natAbs:Nat):Int):=by
 have e:(2:Int) ^ IntKind.u64.bits=18446744073709551616:=by decide
 simp only [IntKind.wrap,e,show IntKind.u64.signed=false from rfl,Bool.false_and,Bool.false_eq_true,if_false]
 omega
theorem u64_pos (n:Int) (h0:0<=n) (h1:n<=9223372036854775807):IntKind.u64.wrap n=((n.toNat:Nat):Int):=by
 have e:(2:Int) ^ IntKind.u64.bits=18446744073709551616:=by decide
 simp only [IntKind.wrap,e,show IntKind.u64.signed=false from rfl,Bool.false_and,Bool.false_eq_true,if_false]
 omega
theorem itoa_neg (n:Int) (t:ByteArray) (h:n < 0) (ht:t.data.toList=Lib.decDigits n.natAbs):(⟨#[45]⟩:ByteArray) ++ t=itoaB n:=by
 apply WideShapes.bytes_inj
 rw [app_data,ht]
 unfold itoaB Lib.itoa
 rw [if_pos h]
theorem itoa_pos (n:Int) (t:ByteArray) (h:0<=n) (ht:t.data.toList=Lib.decDigits n.toNat):t=itoaB n:=by
 apply WideShapes.bytes_inj
 rw [ht]
 unfold itoaB Lib.itoa
 rw [if_neg (by omega)]
theorem ret_ba {a b:ByteArray} (h:a=b):Ending.returned (.string a)=.returned (.string b):=by rw [h]
theorem empty_app (d:UInt8) (t:ByteArray):emptyStr (.string (⟨#[d]⟩ ++ t))=0:=by
 unfold emptyStr
 simp only
 rw [if_neg (by rw [app_size];omega)]
theorem empty_yes {t:ByteArray} (h:t.size=0):emptyStr (.string t)=1:=by unfold emptyStr;simp only;rw [if_pos h]
theorem u64_div (U:Nat) (h:U < 18446744073709551616):IntKind.u64.wrap ((U:Int) / 10)=((U / 10:Nat):Int):=by
 have e:(2:Int) ^ IntKind.u64.bits=18446744073709551616:=by decide
 simp only [IntKind.wrap,e,show IntKind.u64.signed=false from rfl,Bool.false_and,Bool.false_eq_true,if_false]
 omega
theorem conv_zero (w:World):(convert 67 9 (.slice (some ⟨w.heap.size,0,none⟩) 1 1)).run Tryz.prog (w.alloc (.cells #[.int .u8 48] 5))=.ok (.string ⟨#[dgt 0]⟩) (w.alloc (.cells #[.int .u8 48] 5)):=by
 have:=conv_dgt w 0
 simpa using this
theorem u64_eq {a:Int} {b:Nat} (h:a=(b:Int)):Value.int .u64 a=.int .u64 (b:Int):=by rw [h]
theorem meas_pos {U:Nat} {d:UInt8} {t:ByteArray} (h:U < 18446744073709551616) (h0:0 < U):2 * (intOf (.int .u64 (IntKind.u64.wrap ((U:Int) / 10)))).toNat + emptyStr (.string (⟨#[d]⟩ ++ t)) < 2 * (intOf (.int .u64 (U:Int))).toNat + emptyStr (.string t):=by
 rw [u64_div U h,empty_app]
 simp only [intOf]
 omega
theorem meas_zero {d:UInt8} {t:ByteArray} (ht:t.size=0):2 * (intOf (.int .u64 0)).toNat + emptyStr (.string (⟨#[d]⟩ ++ t)) < 2 * (intOf (.int .u64 0)).toNat + emptyStr (.string t):=by
 rw [empty_app,empty_yes ht]
 simp only [intOf]
 omega
set_option maxRecDepth 100000 in
set_option maxHeartbeats 400000 in
theorem decimal_neg (n:Int) (w:World) (h0:-9223372036854775808<=n) (h1:n < 0) :
  Calls Tryz.prog 35 #[.int .i64 n] w fun e w'=>e=.returned (.string (itoaB n))/\Below w.heap.size w w':=by
 obtain ⟨N,hN⟩:∃ N,N=n.natAbs:=⟨_,rfl⟩
 have H0:=hide (And.intro (u64_neg n h0 h1) (show N < 18446744073709551616 by omega))
 have H1:=hide (fun t=>itoa_neg n t h1)
 have HN:=hide hN
 clear h0 hN
 go_enter Tryz.func35,Tryz.ntmps35
 go_wp2
 go_loopw [3,4] (fun u s wr=>∃ (U:Nat) (t:ByteArray),u=.int .u64 U/\s=.string t/\Below w.heap.size w wr/\DecInv N U t/\U<=N) (fun u s _=>2 * (intOf u).toNat + emptyStr s)
 case atStart=>exact ⟨N,⟨#[]⟩,by rw [(uh H0).1,uh HN],rfl,Below.refl _ _,⟨by decide,Or.inl ⟨rfl,rfl⟩⟩,Nat.le_refl _⟩
 case round =>
  obtain ⟨U,t,rfl,rfl,hb,hinv,hle⟩:=hrel
  have ht20:t.size<=20:=hinv.1
  have Hinv:=hide (And.intro hinv hle)
  clear hinv hle
  have hadd:=fun W=>run_string_add_sum (P:=Tryz.prog) W ⟨#[dgt U]⟩ t (by show 1 + t.size<=_;omega)
  by_cases hU:(0:Int) < (U:Int)
  ·have hcv:=conv_dgt wr U
   have hst:=hide (decInv_step (uh H0).2 (uh Hinv).1 (Or.inl (by omega)))
   have hlt:=hide (show U < 18446744073709551616 by have h1:=(uh H0).2;have h2:=(uh Hinv).2;omega)
   go_wp2
   go_roundw
   case rel=>exact ⟨U / 10,_,u64_eq (u64_div U (uh hlt)),rfl,hb.alloc hb.size _,uh hst,by have:=(uh Hinv).2;omega⟩
   case measure=>exact meas_pos (uh hlt) (by omega)
  ·obtain rfl:U=0:=by omega
   by_cases ht:t.size=0
   ·have hcv:=conv_zero wr
    have hst:=hide (decInv_step (uh H0).2 (uh Hinv).1 (Or.inr ht))
    have he:t.toList.isEmpty=true:=(empty_iff t).2 ht
    have Hm:=hide ht
    clear ht
    go_wp2
    go_roundw
    case rel=>exact ⟨0,_,rfl,rfl,hb.alloc hb.size _,uh hst,Nat.zero_le _⟩
    case measure=>exact meas_zero (uh Hm)
   ·have he:t.toList.isEmpty=false:=by cases h:t.toList.isEmpty;rfl;exact absurd ((empty_iff t).1 h) ht
    have hfin:=hide (uh H1 t (by rw [decInv_end (uh Hinv).1 (by omega),uh HN]))
    have hadd2:=fun W=>run_string_add_sum (P:=Tryz.prog) W ⟨#[45]⟩ t (by show 1 + t.size<=_;omega)
    clear hadd ht
    go_wp2
    go_ret
    exact ⟨ret_ba (uh hfin),hb⟩
set_option maxRecDepth 100000 in
set_option maxHeartbeats 400000 in
theorem decimal_pos (n:Int) (w:World) (h0:0<=n) (h1:n<=9223372036854775807) :
  Calls Tryz.prog 35 #[.int .i64 n] w fun e w'=>e=.returned (.string (itoaB n))/\Below w.heap.size w w':=by
 obtain ⟨N,hN⟩:∃ N,N=n.toNat:=⟨_,rfl⟩
 have H0:=hide (And.intro (u64_pos n h0 h1) (show N < 18446744073709551616 by omega))
 have H1:=hide (fun t=>itoa_pos n t h0)
 have HN:=hide hN
 clear h1 hN
 go_enter Tryz.func35,Tryz.ntmps35
 go_wp2
 go_loopw [3,4] (fun u s wr=>∃ (U:Nat) (t:ByteArray),u=.int .u64 U/\s=.string t/\Below w.heap.size w wr/\DecInv N U t/\U<=N) (fun u s _=>2 * (intOf u).toNat + emptyStr s)
 case atStart=>exact ⟨N,⟨#[]⟩,by rw [(uh H0).1,uh HN],rfl,Below.refl _ _,⟨by decide,Or.inl ⟨rfl,rfl⟩⟩,Nat.le_refl _⟩
 case round =>
  obtain ⟨U,t,rfl,rfl,hb,hinv,hle⟩:=hrel
  have ht20:t.size<=20:=hinv.1
  have Hinv:=hide (And.intro hinv hle)
  clear hinv hle
  have hadd:=fun W=>run_string_add_sum (P:=Tryz.prog) W ⟨#[dgt U]⟩ t (by show 1 + t.size<=_;omega)
  by_cases hU:(0:Int) < (U:Int)
  ·have hcv:=conv_dgt wr U
   have hst:=hide (decInv_step (uh H0).2 (uh Hinv).1 (Or.inl (by omega)))
   have hlt:=hide (show U < 18446744073709551616 by have h1:=(uh H0).2;have h2:=(uh Hinv).2;omega)
   go_wp2
   go_roundw
   case rel=>exact ⟨U / 10,_,u64_eq (u64_div U (uh hlt)),rfl,hb.alloc hb.size _,uh hst,by have:=(uh Hinv).2;omega⟩
   case measure=>exact meas_pos (uh hlt) (by omega)
  ·obtain rfl:U=0:=by omega
   by_cases ht:t.size=0
   ·have hcv:=conv_zero wr
    have hst:=hide (decInv_step (uh H0).2 (uh Hinv).1 (Or.inr ht))
    have he:t.toList.isEmpty=true:=(empty_iff t).2 ht
    have Hm:=hide ht
    clear ht
    go_wp2
    go_roundw
    case rel=>exact ⟨0,_,rfl,rfl,hb.alloc hb.size _,uh hst,Nat.zero_le _⟩
    case measure=>exact meas_zero (uh Hm)
   ·have he:t.toList.isEmpty=false:=by cases h:t.toList.isEmpty;rfl;exact absurd ((empty_iff t).1 h) ht
    have hfin:=hide (uh H1 t (by rw [decInv_end (uh Hinv).1 (by omega),uh HN]))
    clear hadd ht
    go_wp2
    go_ret
    exact ⟨ret_ba (uh hfin),hb⟩
theorem decimal_any (n:Int) (w:World) (h0:-9223372036854775808<=n) (h1:n<=9223372036854775807) :
  Calls Tryz.prog 35 #[.int .i64 n] w fun e w'=>e=.returned (.string (itoaB n))/\Below w.heap.size w w':=by
 by_cases h:n < 0
 ·exact decimal_neg n w h0 h
 ·exact decimal_pos n w (by omega) h1
end Go.Proofs.YtdgoibnndfibnaaGreatDoor
namespace Go.Proofs.YtdgoibnndfibnaaGreatDoor
open Go.RowKit Go.Sort
theorem fold_dec:∀ (k U:Nat),U < k->U < 18446744073709551616->(Go.Lib.decDigits U).foldl stepU 0=U:=by
 intro k
 induction k with
 | zero=>intro U h;omega
 | succ k ih =>
  intro U hU hm
  rw [dec_step,List.foldl_append]
  have hd:dgt U=UInt8.ofNat (48 + U % 10):=rfl
  simp only [List.foldl_cons,List.foldl_nil]
  rw [hd,dgt_step _ _ (by omega)]
  by_cases h0:U / 10=0
  ·rw [if_pos h0]
   simp only [List.foldl_nil]
   omega
  ·rw [if_neg h0,ih (U / 10) (by omega) (by omega)]
   omega
theorem numR_itoa {n:Int} (h:I64 n):numR (Go.Lib.itoa n)=n:=by
 obtain ⟨h1,h2⟩:=h
 unfold Go.Lib.itoa
 split
 ·next hn =>
  rw [show numR (45 :: Go.Lib.decDigits n.natAbs)=u64I ((18446744073709551616 - (Go.Lib.decDigits n.natAbs).foldl stepU 0) % 18446744073709551616) by simp [numR],fold_dec (n.natAbs + 1) n.natAbs (by omega) (by omega)]
  unfold u64I
  split <;> omega
 ·next hn =>
  have hne:=dec_ne n.toNat
  have hf:=fold_dec (n.toNat + 1) n.toNat (by omega) (by omega)
  cases hd:Go.Lib.decDigits n.toNat with
  | nil=>exact absurd hd hne
  | cons c r =>
   rw [hd] at hf
   have hc:=dec_digit n.toNat c (by rw [hd];simp)
   have h45:c ≠ 45:=by rintro rfl;revert hc;decide
   rw [show numR (c :: r)=u64I (r.foldl stepU (stepU 0 c)) by unfold numR;simp only;rw [if_neg h45]]
   rw [List.foldl_cons] at hf
   rw [hf]
   unfold u64I
   rw [if_pos (by omega)]
   omega
open Classical in
/-- A word as a pair, the document's way. -/
noncomputable def pairR (w:Bs):Pq:=if (61:UInt8) ∈ w then rdPair w else (⟨#[]⟩,0,0,⟨#[]⟩)
theorem pairR_back {p:Pq} (h:pairOk p=true):pairR (pairW p)=p:=by
 unfold pairR
 rw [if_pos (by unfold pairW;simp),rdPair_back h]
noncomputable def rfTx (args:List Bs):ByteArray:=match args with
 | []=>⟨#[]⟩
 | d :: _=>unqV d
noncomputable def rfCall (who ck:Int) (args:List Bs):Sop :=
 if ck=4 then ⟨1,who,4,0,⟨#[]⟩,args.map pairR,[]⟩
 else if ck=2 ∨ ck=3 then (match args with
  | []=>⟨1,who,ck,0,⟨#[]⟩,[],[]⟩
  | c :: d=>⟨1,who,ck,numR c,rfTx d,[],[]⟩)
 else ⟨1,who,ck,0,rfTx args,[],[]⟩
noncomputable def rfWs (w:Bs) (rest:List Bs):Sop :=
 if kindOfW opW 7 w=1 then (match rest with
  | a :: b :: args=>rfCall (numR a) (kindOfW callW 4 b) args
  | _=>⟨1,0,0,0,⟨#[]⟩,[],[]⟩)
 else ⟨kindOfW opW 7 w,0,0,0,⟨#[]⟩,[],rest.map numR⟩
/-- The op that a line may be of. -/
noncomputable def rfOp (line:Bs):Sop:=match cutL line with
 | []=>⟨0,0,0,0,⟨#[]⟩,[],[]⟩
 | w :: rest=>rfWs w rest
theorem nums_back:∀ {l:List Int},(∀ n ∈ l,I64 n)->(l.map Go.Lib.itoa).map numR=l
 | [],_=>rfl
 | n :: l,h=>by rw [List.map_cons,List.map_cons,numR_itoa (h n (by simp)),nums_back (fun m hm=>h m (by simp [hm]))]
theorem pairs_back:∀ {l:List Pq},l.all pairOk=true->(l.map pairW).map pairR=l
 | [],_=>rfl
 | p :: l,h=>by
  rw [List.all_cons,Bool.and_eq_true] at h
  rw [List.map_cons,List.map_cons,pairR_back h.1,pairs_back h.2]
theorem itoa_passC (n:Int):PassC false (Go.Lib.itoa n) false:=(itoa_bare n).passC false
theorem opWs_passC {o:Sop} (h:opOk o=true):∀ v ∈ opWs o,PassC false v false:=by
 intro v hv
 unfold opWs at hv
 by_cases k1:o.kind=1
 ·rw [if_pos k1] at hv
  have hc:callOk o=true:=by
   unfold opOk at h
   rw [if_pos k1] at h
   simp only [Bool.and_eq_true] at h
   exact h.2.2
  rcases List.mem_cons.1 hv with rfl | hv
  ·exact (opW_bare _).passC false
  rcases List.mem_cons.1 hv with rfl | hv
  ·exact itoa_passC _
  unfold callWs at hv
  split at hv
  ·rcases List.mem_cons.1 hv with rfl | hv
   ·exact (callW_bare _).passC false
   ·rw [List.mem_singleton] at hv;subst hv;exact quote_passC _
  ·split at hv
   ·rcases List.mem_cons.1 hv with rfl | hv
    ·exact (callW_bare _).passC false
    rcases List.mem_cons.1 hv with rfl | hv
    ·exact itoa_passC _
    ·rw [List.mem_singleton] at hv;subst hv;exact quote_passC _
   ·split at hv
    ·rcases List.mem_cons.1 hv with rfl | hv
     ·exact (callW_bare _).passC false
     ·rw [List.mem_singleton] at hv;subst hv;exact itoa_passC _
    ·next h1 h2 h3 =>
     rcases List.mem_cons.1 hv with rfl | hv
     ·exact (callW_bare _).passC false
     ·obtain ⟨p,hp,rfl⟩:=List.mem_map.1 hv
      unfold callOk at hc
      rw [if_neg h1,if_neg h2,if_neg h3] at hc
      by_cases c4:o.ck=4
      ·rw [if_pos c4,Bool.and_eq_true] at hc
       exact pair_passC (List.all_eq_true.1 hc.2 p hp)
      ·rw [if_neg c4] at hc;simp at hc
 ·rw [if_neg k1] at hv
  rcases List.mem_cons.1 hv with rfl | hv
  ·exact (opW_bare _).passC false
  ·obtain ⟨n,_,rfl⟩:=List.mem_map.1 hv
   exact itoa_passC n
theorem rfCall_back {o:Sop} (h:callOk o=true) (hI:SopI o) (hk:o.kind=1) (hn:o.nums=[]):∃ b args,callWs o=b :: args/\rfCall o.who (kindOfW callW 4 b) args=o:=by
 obtain ⟨kind,who,ck,id,text,ev,nums⟩:=o
 obtain ⟨i1,i2,i3⟩:=hI
 simp only at i1 i2 i3 hn hk
 subst hn hk
 unfold callOk callNm at h
 unfold callWs
 simp only at h ⊢
 by_cases c1:ck=1
 ·subst c1
  simp only [if_true,Bool.and_eq_true,decide_eq_true_eq] at h
  obtain ⟨⟨rfl,h2⟩,h3⟩:=h
  obtain rfl:=isEmpty_nil h2
  refine ⟨_,_,if_pos rfl, ?_⟩
  rw [kindOf_call (by decide) (by decide)]
  unfold rfCall
  rw [if_neg (by decide),if_neg (by decide)]
  show Sop.mk 1 who 1 0 (unqV (quoteL (Lb text))) [] []=_
  rw [unqV_lb]
 ·rw [if_neg c1,if_neg c1] at h
  rw [if_neg c1]
  by_cases c2:ck=2
  ·subst c2
   simp only [if_true,Bool.and_eq_true] at h
   obtain ⟨h2,h3⟩:=h
   obtain rfl:=isEmpty_nil h2
   refine ⟨_,_,if_pos rfl, ?_⟩
   rw [kindOf_call (by decide) (by decide)]
   unfold rfCall
   rw [if_neg (by decide),if_pos (Or.inl rfl)]
   show Sop.mk 1 who 2 (numR (Go.Lib.itoa id)) (unqV (quoteL (Lb text))) [] []=_
   rw [unqV_lb,numR_itoa i2]
  ·rw [if_neg c2,if_neg c2] at h
   rw [if_neg c2]
   by_cases c3:ck=3
   ·subst c3
    simp only [if_true,Bool.and_eq_true,decide_eq_true_eq] at h
    obtain ⟨⟨h1,h2⟩,h3⟩:=h
    obtain rfl:=isEmpty_nil h2
    obtain rfl:=size_zero h1
    refine ⟨_,_,if_pos rfl, ?_⟩
    rw [kindOf_call (by decide) (by decide)]
    unfold rfCall
    rw [if_neg (by decide),if_pos (Or.inr rfl)]
    show Sop.mk 1 who 3 (numR (Go.Lib.itoa id)) ⟨#[]⟩ [] []=_
    rw [numR_itoa i2]
   ·rw [if_neg c3,if_neg c3] at h
    rw [if_neg c3]
    by_cases c4:ck=4
    ·subst c4
     simp only [if_true,Bool.and_eq_true,decide_eq_true_eq] at h
     obtain ⟨⟨rfl,h1⟩,h3⟩:=h
     obtain rfl:=size_zero h1
     refine ⟨_,_,rfl, ?_⟩
     rw [kindOf_call (by decide) (by decide)]
     unfold rfCall
     rw [if_pos rfl,pairs_back h3]
    ·rw [if_neg c4] at h
     simp at h
theorem rfOp_back {o:Sop} (h:opOk o=true) (hI:SopI o):rfOp (lineB o)=o:=by
 have hp:=opWs_passC h
 unfold rfOp
 rw [lineB_words]
 have h0:=h
 unfold opOk at h
 by_cases k1:o.kind=1
 ·unfold opNm at h
  rw [if_pos k1,if_pos k1] at h
  simp only [Bool.and_eq_true,decide_eq_true_eq] at h
  obtain ⟨h1,⟨h2,h3⟩,h4⟩:=h
  have hw:opWs o=opW o.kind :: Go.Lib.itoa o.who :: callWs o:=by unfold opWs;rw [if_pos k1]
  rw [hw] at hp ⊢
  rw [cutL_words hp]
  obtain ⟨b,args,hb,hc⟩:=rfCall_back h4 hI k1 (isEmpty_nil h1)
  simp only
  unfold rfWs
  have hk:kindOfW opW 7 (opW o.kind)=1:=by rw [k1];decide
  rw [if_pos hk,hb]
  simp only
  rw [numR_itoa hI.who]
  exact hc
 ·have hw:opWs o=opW o.kind :: o.nums.map Go.Lib.itoa:=by unfold opWs;rw [if_neg k1]
  rw [hw] at hp ⊢
  rw [cutL_words hp]
  rw [if_neg k1] at h
  unfold opNm at h
  rw [if_neg k1] at h
  have hk7:=opOk_kind h0
  have ha:o.who=0/\callNo o=true:=by
   rw [Bool.and_eq_true] at h
   obtain ⟨ha,hb⟩:=h
   split at ha
   ·simp only [Bool.and_eq_true,decide_eq_true_eq] at ha;exact ha
   ·simp only [Bool.and_eq_true,decide_eq_true_eq] at ha;exact ⟨ha.1.1,ha.1.2⟩
  obtain ⟨a3,a4⟩:=ha
  simp only
  unfold rfWs
  rw [kindOf_op hk7.1 hk7.2,if_neg k1,nums_back hI.nums]
  unfold callNo at a4
  simp only [Bool.and_eq_true,decide_eq_true_eq] at a4
  obtain ⟨⟨⟨b1,b2⟩,b3⟩,b4⟩:=a4
  obtain ⟨kind,who,ck,id,text,ev,nums⟩:=o
  simp only at *
  subst a3 b1 b2
  obtain rfl:=size_zero b3
  obtain rfl:=isEmpty_nil b4
  rfl
theorem map_numR_I (l:List Bs):∀ n ∈ l.map numR,I64 n:=fun n hn=>by
 obtain ⟨w,_,rfl⟩:=List.mem_map.1 hn
 exact numR_I w
theorem rfCall_I (who ck:Int) (args:List Bs) (h:I64 who):SopI (rfCall who ck args):=by
 unfold rfCall
 split
 ·exact ⟨h,I64_0,fun n hn=>by simp at hn⟩
 ·split
  ·split
   ·exact ⟨h,I64_0,fun n hn=>by simp at hn⟩
   ·exact ⟨h,numR_I _,fun n hn=>by simp at hn⟩
  ·exact ⟨h,I64_0,fun n hn=>by simp at hn⟩
theorem rfOp_I (l:Bs):SopI (rfOp l):=by
 unfold rfOp
 split
 ·exact ⟨I64_0,I64_0,fun n hn=>by simp at hn⟩
 ·unfold rfWs
  split
  ·split
   ·exact rfCall_I _ _ _ (numR_I _)
   ·exact ⟨I64_0,I64_0,fun n hn=>by simp at hn⟩
  ·exact ⟨I64_0,I64_0,map_numR_I _⟩
/-- A line that the document takes is one that the program takes, and they read it alike. -/
theorem addS_op {s:Scr} {n:Nat} {line:Bs} (hn:n ≠ 1) (ha:¬ (nextW line).1=wAttr) :
  addS s n line=if s.ops.length + 1<=4096/\opOk (rfOp line)=true/\lineB (rfOp line)=line then some ⟨s.cfg,s.attrs,s.ops ++ [rfOp line]⟩ else none:=by
 unfold addS
 rw [if_neg hn,if_neg ha]
 have key:(opOk (rdOp (nextW line).1 (nextW line).2)=true/\lineB (rdOp (nextW line).1 (nextW line).2)=line) ↔ (opOk (rfOp line)=true/\lineB (rfOp line)=line):=by
  constructor
  ·rintro ⟨h1,h2⟩
   have h3:=rfOp_back h1 (rdOp_I _ _)
   rw [h2] at h3
   rw [h3]
   exact ⟨h1,h2⟩
  ·rintro ⟨h1,h2⟩
   have h3:=rdOp_back h1 (rfOp_I _)
   rw [h2] at h3
   rw [h3]
   exact ⟨h1,h2⟩
 by_cases h:s.ops.length + 1<=4096/\opOk (rdOp (nextW line).1 (nextW line).2)=true/\lineB (rdOp (nextW line).1 (nextW line).2)=line
 ·rw [if_pos h,if_pos ⟨h.1,key.1 h.2⟩]
  have h3:=rfOp_back h.2.1 (rdOp_I _ _)
  rw [h.2.2] at h3
  rw [h3]
 ·rw [if_neg h,if_neg (fun h2=>h ⟨h2.1,key.2 h2.2⟩)]
end Go.Proofs.YtdgoibnndfibnaaGreatDoor
