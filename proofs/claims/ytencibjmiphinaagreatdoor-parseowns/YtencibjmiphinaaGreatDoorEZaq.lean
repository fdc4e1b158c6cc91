/- The law ValueQuotes returns true at every text that is not too long. -/
import Derived.Test.YtencibjmiphinaaGreatDoorEZap
import Derived.Test.YtencibjmiphinaaGreatDoorEZao
import Derived.Test.YtencibjmiphinaaGreatDoorEZaa
namespace Go.Proofs.YtencibjmiphinaaGreatDoor.Lx
open Go.RowKit
theorem toList_eq {a b:ByteArray} (h:a=b):(a.toList == b.toList)=true:=by subst h;simp
end Go.Proofs.YtencibjmiphinaaGreatDoor.Lx
namespace Go.Proofs.YtencibjmiphinaaGreatDoor.Lx
open Go.RowKit
theorem itoa_inj {a b:Int} (ha:-2147483648<=a/\a<=2147483647) (hb:-2147483648<=b/\b<=2147483647) (h:Lib.itoa a=Lib.itoa b):a=b:=by
 have h1:=atoi_itoa a (by omega) (by omega)
 have h2:=atoi_itoa b (by omega) (by omega)
 rw [h,h2] at h1
 injection h1 with h1
 exact h1.symm
/-- The program's Parse at a text that is no value's. -/
theorem parse_none (s:ByteArray) (hg:¬ Good s.data.toList) (hno:∀ t:List UInt8,t.length<=64->s.data.toList ≠ quoteL t) (w:World) (hG:G w) (hmax:s.size<=1048576) :
    Calls Tryz.prog 116 #[.string s] w fun e w'=>e=.returned (.tuple #[.agg #[.int .i64 0,.int .i64 0,.string ⟨#[]⟩],.int .i64 10])/\Below w.heap.size w w':=by
  cases hp:Lib.hasPrefix s.data.toList [34]
  · by_cases hat:∃ v,Lib.atoiAll s.data.toList=.ok v
    · obtain ⟨v,hv⟩:=hat
      rcases chk_01 1 v ⟨#[]⟩ with hc | hc
      · refine parse_wrong s v w hG hp (by omega) hv (fun ht=>hg ?_) hc
        rcases chk_range hc with ⟨_,h1,h2,_⟩ | ⟨h,_⟩
        · refine ⟨v,h1,h2, ?_⟩
          rw [<- ht]
          unfold textB
          rw [if_pos hc,if_neg (by decide)];rfl
        · omega
      · exact parse_form s 1 v ⟨#[]⟩ w hG (fun w _=>read_num s v w hp (by omega) hv) hc
    · exact parse_miss s 1 ⟨#[]⟩ w hG (fun w hGw=>read_bad s w hGw hp (by omega) (fun v hv=>hat ⟨v,hv⟩))
  · by_cases hq:∃ t,s.data.toList=quoteL t
    · obtain ⟨t,ht⟩:=hq
      have h64:¬ t.length<=64:=fun h=>hno t h ht
      refine parse_form s 2 0 ⟨t.toArray⟩ w hG (fun w _=>read_word s t w ht (by omega)) ?_
      refine chk_no2 rfl fun h=>h64 ?_
      have:(⟨t.toArray⟩:ByteArray).size=t.length:=by simp [ByteArray.size]
      omega
    · exact parse_miss s 2 ⟨#[]⟩ w hG (fun w _=>(read_noword s w hp (fun t ht=>hq ⟨t,ht⟩) (by omega)).mono fun e w' ⟨he,hb⟩=>⟨⟨0,he⟩,hb⟩)
end Go.Proofs.YtencibjmiphinaaGreatDoor.Lx
namespace Go.Proofs.YtencibjmiphinaaGreatDoor.Lx
open Go.RowKit
def isLet (c:Int):Bool:=decide (97<=c) && decide (c<=122)
def isDig (c:Int):Bool:=decide (48<=c) && decide (c<=57)
def okB (c:Int):Bool:=isLet c || isDig c || c == 95
def byteI (s:ByteArray) (i:Nat):Int:=if h:i < s.size then (s[i].toNat:Int) else 0
theorem byteI_lt {s:ByteArray} {i:Nat} (h:i < s.size):byteI s i=(s[i].toNat:Int):=by unfold byteI;rw [dif_pos h]
/-- Is it a name? -/
def nameOk (s:ByteArray):Bool:=decide (1<=s.size) && decide (s.size<=32) && isLet (byteI s 0) && (List.range s.size).all fun i=>okB (byteI s i)
theorem name_no0 {s:ByteArray} (h:s.size < 1):nameOk s=false:=by unfold nameOk;simp;omega
theorem name_no32 {s:ByteArray} (h:32 < s.size):nameOk s=false:=by unfold nameOk;simp;omega
theorem name_noL {s:ByteArray} (h:isLet (byteI s 0)=false):nameOk s=false:=by unfold nameOk;simp [h]
theorem name_noB {s:ByteArray} {i:Nat} (hi:i < s.size) (h:okB (byteI s i)=false):nameOk s=false:=by
 unfold nameOk
 rw [Bool.and_eq_false_iff]
 right
 rw [Bool.eq_false_iff]
 intro hall
 rw [List.all_eq_true] at hall
 have:=hall i (by simpa using hi)
 rw [h] at this;cases this
theorem name_yes {s:ByteArray} (h1:1<=s.size) (h2:s.size<=32) (h3:isLet (byteI s 0)=true) (h:∀ j,j < s.size->okB (byteI s j)=true):nameOk s=true:=by
 unfold nameOk
 rw [h3]
 simp only [Bool.and_eq_true,decide_eq_true_eq,List.all_eq_true,List.mem_range]
 exact ⟨⟨⟨h1,h2⟩,trivial⟩,h⟩
set_option maxHeartbeats 400000 in
theorem schLet_any (c:Int) (w:World) :
  Calls Tryz.prog 102 #[.int .u8 c] w fun e w'=>e=.returned (.bool (isLet c))/\w'=w:=by
 by_cases h1:97<=c <;> by_cases h2:c<=122
 all_goals
  go_enter Tryz.func102,Tryz.ntmps102
  go_wp2
  go_ret
  exact ⟨ret_bool (by simp [isLet,h1,h2]),rfl⟩
set_option maxHeartbeats 400000 in
theorem schDig_any (c:Int) (w:World) :
  Calls Tryz.prog 103 #[.int .u8 c] w fun e w'=>e=.returned (.bool (isDig c))/\w'=w:=by
 by_cases h1:48<=c <;> by_cases h2:c<=57
 all_goals
  go_enter Tryz.func103,Tryz.ntmps103
  go_wp2
  go_ret
  exact ⟨ret_bool (by simp [isDig,h1,h2]),rfl⟩
set_option maxHeartbeats 1000000 in
theorem name_any (s:ByteArray) (w:World) :
  Calls Tryz.prog 60 #[.string s] w fun e w'=>e=.returned (.bool (nameOk s))/\w'=w:=by
 by_cases h1:s.size < 1
 ·have hn:=hide (name_no0 h1)
  have i1:(s.size:Int) < 1:=by omega
  go_enter Tryz.func60,Tryz.ntmps60
  go_wp2
  go_ret
  exact ⟨ret_bool (uh hn).symm,rfl⟩
 ·by_cases h2:32 < s.size
  ·have hn:=hide (name_no32 h2)
   have i1:¬ (s.size:Int) < 1:=by omega
   have i2:(32:Int) < (s.size:Int):=by omega
   go_enter Tryz.func60,Tryz.ntmps60
   go_wp2
   go_ret
   exact ⟨ret_bool (uh hn).symm,rfl⟩
  ·have i1:¬ (s.size:Int) < 1:=by omega
   have i2:¬ (32:Int) < (s.size:Int):=by omega
   have hb0:=byteI_lt (s:=s) (i:=0) (by omega)
   have hlt:=fun (c:Int) (W:World)=>schLet_any c W
   have hdg:=fun (c:Int) (W:World)=>schDig_any c W
   cases hl:isLet (byteI s 0) with
   | false =>
    have hn:=hide (name_noL hl)
    rw [hb0] at hl
    clear hb0
    have i0:(0:Int) < (s.size:Int):=by omega
    go_enter Tryz.func60,Tryz.ntmps60
    go_wp2_with (first | (go_at_call 102;refine (hlt _ _).mono ?_;rintro e w' ⟨rfl,rfl⟩))
    go_ret
    exact ⟨ret_bool (uh hn).symm,rfl⟩
   | true =>
    have Hl:=hide hl
    rw [hb0] at hl
    clear hb0
    have i0:(0:Int) < (s.size:Int):=by omega
    go_enter Tryz.func60,Tryz.ntmps60
    go_wp2_with (first | (go_at_call 102;refine (hlt _ _).mono ?_;rintro e w' ⟨rfl,rfl⟩))
    go_loop [20] (fun i=>∃ k:Nat,k<=s.size/\i=.int .i64 k/\∀ j,j < k->okB (byteI s j)=true) (fun i=>s.size - (intOf i).toNat)
    case atStart=>exact ⟨0,by omega,rfl,fun j hj=>by omega⟩
    case round =>
     obtain ⟨k,hk,rfl,hz⟩:=hrel
     have Hz:=hide hz
     clear hz
     by_cases hkl:k < s.size
     ·have ki0:(0:Int)<=(k:Int):=by omega
      have ki1:(k:Int) < (s.size:Int):=by omega
      have hbk:=byteI_lt hkl
      cases hok:okB (byteI s k) with
      | true =>
       have Hok:=hide hok
       rw [hbk] at hok
       have hparts:(isLet (s[k].toNat:Int)=true) ∨ (isLet (s[k].toNat:Int)=false/\isDig (s[k].toNat:Int)=true) ∨ (isLet (s[k].toNat:Int)=false/\isDig (s[k].toNat:Int)=false/\((s[k].toNat:Int) != 95)=false):=by
        revert hok;unfold okB
        cases isLet (s[k].toNat:Int) <;> cases isDig (s[k].toNat:Int) <;> simp
       clear hok hbk
       rcases hparts with p1 | ⟨p1,p2⟩ | ⟨p1,p2,p3⟩
       all_goals
        go_wp2_with (first | (go_at_call 102;refine (hlt _ _).mono ?_;rintro e w' ⟨rfl,rfl⟩) | (go_at_call 103;refine (hdg _ _).mono ?_;rintro e w' ⟨rfl,rfl⟩))
        go_round
        case rel=>exact ⟨k + 1,by omega,by go_num,fun j hj=>by
         by_cases e:j=k
         ·rw [e];exact uh Hok
         ·exact uh Hz j (by omega)⟩
        case measure=>simp [intOf];omega
      | false =>
       have hn:=hide (name_noB hkl hok)
       rw [hbk] at hok
       have hparts:isLet (s[k].toNat:Int)=false/\isDig (s[k].toNat:Int)=false/\((s[k].toNat:Int) != 95)=true:=by
        revert hok;unfold okB
        cases isLet (s[k].toNat:Int) <;> cases isDig (s[k].toNat:Int) <;> simp
       obtain ⟨p1,p2,p3⟩:=hparts
       clear hok hbk
       go_wp2_with (first | (go_at_call 102;refine (hlt _ _).mono ?_;rintro e w' ⟨rfl,rfl⟩) | (go_at_call 103;refine (hdg _ _).mono ?_;rintro e w' ⟨rfl,rfl⟩))
       go_ret
       exact ⟨ret_bool (uh hn).symm,rfl⟩
     ·obtain rfl:k=s.size:=by omega
      go_wp2
      go_ret
      exact ⟨ret_bool (name_yes (by omega) (by omega) (uh Hl) (uh Hz)).symm,rfl⟩
end Go.Proofs.YtencibjmiphinaaGreatDoor.Lx
namespace Go.Proofs.YtencibjmiphinaaGreatDoor.Lx
open Go.RowKit
def isBlank (c:Int):Bool:=c == 32 || c == 9 || c == 10 || c == 13
def signs:List UInt8:=[123,125,91,93,40,41,44,33,124,38,42]
def isSign (c:UInt8):Bool:=signs.contains c
/-- How many bytes at the front belong to a run. -/
def rl (p:Int->Bool):List UInt8->Nat
  | []=>0
  | c :: r=>if p (c.toNat:Int) then rl p r + 1 else 0
theorem rl_le (p:Int->Bool):∀ l,rl p l<=l.length
 | []=>Nat.le_refl _
 | c :: r=>by
  unfold rl
  split
  ·have:=rl_le p r;simp;omega
  ·simp
theorem rl_yes {p:Int->Bool} {c:UInt8} {r:List UInt8} (h:p (c.toNat:Int)=true):rl p (c :: r)=rl p r + 1:=by conv=>lhs;unfold rl;rw [if_pos h]
theorem rl_no {p:Int->Bool} {c:UInt8} {r:List UInt8} (h:p (c.toNat:Int)=false):rl p (c :: r)=0:=by unfold rl;rw [if_neg (by simp [h])]
theorem rl_drop {p:Int->Bool}:∀ (l:List UInt8),rl p (l.drop (rl p l))=0
 | []=>by simp [rl]
 | c :: r=>by
  cases h:p (c.toNat:Int) with
  | true=>rw [rl_yes h,List.drop_succ_cons];exact rl_drop r
  | false=>rw [rl_no h];simpa using rl_no h
/-- Behind the quotation mark of a word: how many bytes up to and with the one that ends it. -/
def wl:Bool->List UInt8->Option Nat
  | _,[]=>none
  | e,c :: r=>if c == 34 && !e then some 1 else (wl (c == 92 && !e) r).map (· + 1)
theorem wl_le:∀ (l:List UInt8) (e:Bool) (n:Nat),wl e l=some n->0 < n/\n<=l.length
 | [],_,_,h=>by simp [wl] at h
 | c :: r,e,n,h=>by
  unfold wl at h
  split at h
  ·cases h;simp
  ·obtain ⟨m,hm,rfl⟩:=Option.map_eq_some_iff.1 h
   have:=wl_le r _ m hm
   simp;omega
theorem wl_esc (c:UInt8) (r:List UInt8):wl false (esc c ++ r)=(wl false r).map (· + (esc c).length):=by
 unfold esc
 by_cases h1:needs c=true
 ·rw [if_pos h1]
  simp only [List.cons_append,List.nil_append,wl]
  simp [Option.map_map]
  rfl
 ·rw [if_neg h1]
  have h34:(c == 34)=false:=by cases h:(c == 34);rfl;exact absurd (by simp [needs,h]) h1
  have h92:(c == 92)=false:=by cases h:(c == 92);rfl;exact absurd (by simp [needs,h]) h1
  split
  ·simp only [List.cons_append,List.nil_append,wl,h34,h92];simp
  ·have hx:∀ n,n < 16->(hexd n == 34)=false/\(hexd n == 92)=false:=by decide
   have x1:=hx (c.toNat / 16) (hexAt_hi c)
   have x2:=hx (c.toNat % 16) (by omega)
   simp only [List.cons_append,List.nil_append,wl,x1.1,x1.2,x2.1,x2.2]
   simp [Option.map_map]
   rfl
theorem wl_escs:∀ (t r:List UInt8),wl false (escs t ++ r)=(wl false r).map (· + (escs t).length)
 | [],r=>by simp [escs]
 | c :: t,r=>by
  rw [escs_cons,List.append_assoc,wl_esc,wl_escs t r,Option.map_map]
  congr 1;funext n;simp;omega
/-- A word's text ends just there where it ends. -/
theorem wl_quote (t:List UInt8):∃ r,quoteL t=34 :: r/\wl false r=some r.length:=by
  refine ⟨escs t ++ [34],rfl, ?_⟩
  rw [wl_escs]
  simp [wl];omega
/-- The value whose text it is. -/
def IsVal (l:List UInt8) (q:Int × Int × ByteArray):Prop:=chkV q.1 q.2.1 q.2.2=0/\(textB q.1 q.2.1 q.2.2).data.toList=l
open Classical in
noncomputable def pv (l:List UInt8):Option (Int × Int × ByteArray):=if h:∃ q,IsVal l q then some (Classical.choose h) else none
theorem textB_num {n:Int} (hc:chkV 1 n ⟨#[]⟩=0):(textB 1 n ⟨#[]⟩).data.toList=Lib.itoa n:=by
 unfold textB;rw [if_pos hc,if_neg (by decide)];rfl
theorem textB_word {t:ByteArray} (hc:chkV 2 0 t=0):(textB 2 0 t).data.toList=quoteL t.data.toList:=by
 unfold textB;rw [if_pos hc,if_pos rfl];rfl
theorem isVal_cases {l:List UInt8} {q:Int × Int × ByteArray} (h:IsVal l q):(∃ n,q=(1,n,⟨#[]⟩)/\-2147483648<=n/\n<=2147483647/\l=Lib.itoa n) ∨ (∃ t:ByteArray,q=(2,0,t)/\t.size<=64/\l=quoteL t.data.toList):=by
 obtain ⟨k,n,t⟩:=q
 obtain ⟨hc,ht⟩:=h
 simp only at hc ht
 rcases chk_range hc with ⟨rfl,h1,h2,h3⟩ | ⟨rfl,rfl,h3⟩
 ·obtain rfl:=bytes_of_size h3
  exact Or.inl ⟨n,rfl,h1,h2,by rw [<- ht,textB_num hc]⟩
 ·exact Or.inr ⟨t,rfl,h3,by rw [<- ht,textB_word hc]⟩
theorem isVal_num {n:Int} (h1:-2147483648<=n) (h2:n<=2147483647):IsVal (Lib.itoa n) (1,n,⟨#[]⟩):=by
 have hc:chkV 1 n ⟨#[]⟩=0:=chk_yes1 rfl h1 h2 ((empty_iff _).2 rfl)
 exact ⟨hc,textB_num hc⟩
theorem isVal_word {t:ByteArray} (h:t.size<=64):IsVal (quoteL t.data.toList) (2,0,t):=by
 have hc:chkV 2 0 t=0:=chk_yes2 rfl rfl (by omega)
 exact ⟨hc,textB_word hc⟩
theorem itoa_quote (n:Int) (t:List UInt8):Lib.itoa n ≠ quoteL t:=by
 intro h
 have h1:=quote_quote t
 rw [<- h,itoa_noquote] at h1
 simp at h1
theorem isVal_one {l:List UInt8} {q q':Int × Int × ByteArray} (h:IsVal l q) (h':IsVal l q'):q=q':=by
 rcases isVal_cases h with ⟨n,rfl,h1,h2,e⟩ | ⟨t,rfl,h1,e⟩ <;> rcases isVal_cases h' with ⟨n',rfl,h1',h2',e'⟩ | ⟨t',rfl,h1',e'⟩
 ·rw [itoa_inj ⟨h1,h2⟩ ⟨h1',h2'⟩ (e.symm.trans e')]
 ·exact absurd (e.symm.trans e') (itoa_quote _ _)
 ·exact absurd (e'.symm.trans e) (itoa_quote _ _)
 ·have:=quoteL_inj (e.symm.trans e')
  rw [WideShapes.bytes_inj this]
theorem pv_some {l:List UInt8} {q:Int × Int × ByteArray} (h:IsVal l q):pv l=some q:=by
 unfold pv
 have hex:∃ q,IsVal l q:=⟨q,h⟩
 rw [dif_pos hex,isVal_one (Classical.choose_spec hex) h]
theorem pv_of {l:List UInt8} {q:Int × Int × ByteArray} (h:pv l=some q):IsVal l q:=by
 unfold pv at h
 split at h
 ·rename_i hex;cases h;exact Classical.choose_spec hex
 ·cases h
theorem pv_none {l:List UInt8} (h:pv l=none):∀ q,¬ IsVal l q:=fun q hq=>by rw [pv_some hq] at h;cases h
/-- The token at the front: its kind, how many bytes, its number, its text. -/
noncomputable def tokC (c:UInt8) (r:List UInt8):Option (Int × Nat × Int × ByteArray) :=
  if isLet (c.toNat:Int) then (if nameOk ⟨((c :: r).take (rl okB (c :: r))).toArray⟩ then some (1,rl okB (c :: r),0,⟨((c :: r).take (rl okB (c :: r))).toArray⟩) else none)
  else if (c == 45 || isDig (c.toNat:Int)) then (pv ((c :: r).take (rl isDig r + 1))).map fun q=>(if q.1=2 then 3 else 2,rl isDig r + 1,q.2.1,q.2.2)
  else if c == 34 then (match wl false r with | some n=>(pv ((c :: r).take (n + 1))).map fun q=>(if q.1=2 then 3 else 2,n + 1,q.2.1,q.2.2) | none=>none)
  else if isSign c then some (4,1,0,⟨#[c]⟩) else none
noncomputable def tokL:List UInt8->Option (Int × Nat × Int × ByteArray)
 | []=>none
 | c :: r=>tokC c r
theorem let_ok {c:Int} (h:isLet c=true):okB c=true:=by unfold okB;simp [h]
theorem tokL_len {l:List UInt8} {k:Int} {n:Nat} {v:Int} {t:ByteArray} (h:tokL l=some (k,n,v,t)):0 < n/\n<=l.length:=by
 cases l with
 | nil=>simp [tokL] at h
 | cons c r =>
  change tokC c r=_ at h
  unfold tokC at h
  split at h
  ·rename_i h1
   split at h
   ·cases h
    have:=rl_le okB (c :: r)
    have h2:=rl_yes (p:=okB) (c:=c) (r:=r) (let_ok h1)
    omega
   ·cases h
  ·split at h
   ·obtain ⟨q,_,hq⟩:=Option.map_eq_some_iff.1 h
    cases hq
    have:=rl_le isDig r
    simp;omega
   ·split at h
    ·split at h
     ·rename_i n' hn
      obtain ⟨q,_,hq⟩:=Option.map_eq_some_iff.1 h
      cases hq
      have:=wl_le _ _ _ hn
      simp;omega
     ·cases h
    ·split at h
     ·cases h;simp
     ·cases h
abbrev Tok:=Int × Int × Int × Int × ByteArray
/-- All tokens of l, which stands at the place i; with an error its place. -/
noncomputable def toksL (l:List UInt8) (i:Nat):List Tok × Option Nat :=
  let b:=rl isBlank l
  if l.length<=b then ([],none) else
  match _h:tokL (l.drop b) with
  | none=>([],some (i + b))
  | some (k,n,v,t) =>
    let r:=toksL ((l.drop b).drop n) (i + b + n)
    ((k,((i + b:Nat):Int),((i + b + n:Nat):Int),v,t) :: r.1,r.2)
termination_by l.length
decreasing_by
 have:=tokL_len _h
 simp only [List.length_drop] at *
 omega
theorem toksL_end {l:List UInt8} {i:Nat} (h:l.length<=rl isBlank l):toksL l i=([],none):=by
 rw [toksL];simp only [if_pos h]
theorem toksL_bad {l:List UInt8} {i:Nat} (h:¬ l.length<=rl isBlank l) (ht:tokL (l.drop (rl isBlank l))=none):toksL l i=([],some (i + rl isBlank l)):=by
 rw [toksL]
 simp only [if_neg h]
 split
 ·rfl
 ·rename_i h2;rw [ht] at h2;cases h2
theorem toksL_step {l:List UInt8} {i:Nat} {k:Int} {n:Nat} {v:Int} {t:ByteArray} (h:¬ l.length<=rl isBlank l) (ht:tokL (l.drop (rl isBlank l))=some (k,n,v,t)) :
  toksL l i=((k,((i + rl isBlank l:Nat):Int),((i + rl isBlank l + n:Nat):Int),v,t) :: (toksL ((l.drop (rl isBlank l)).drop n) (i + rl isBlank l + n)).1,(toksL ((l.drop (rl isBlank l)).drop n) (i + rl isBlank l + n)).2):=by
 rw [toksL]
 simp only [if_neg h]
 split
 ·rename_i h2;rw [ht] at h2;cases h2
 ·rename_i h2;rw [ht] at h2;cases h2;rfl
end Go.Proofs.YtencibjmiphinaaGreatDoor.Lx
