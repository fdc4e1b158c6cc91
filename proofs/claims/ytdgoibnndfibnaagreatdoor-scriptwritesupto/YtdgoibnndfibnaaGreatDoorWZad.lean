/- A number is read back from its numeral. -/
import Derived.Test.YtdgoibnndfibnaaGreatDoorWZab
import Derived.Lib.ItoaLen
import Derived.Test.YtdgoibnndfibnaaGreatDoorWUnquote
namespace Go.Proofs.YtdgoibnndfibnaaGreatDoor
open Go.RowKit
theorem parse_app (r:List UInt8):∀ (l:List UInt8) (acc a:Nat),Lib.parseUint10 acc l=.ok a->Lib.parseUint10 acc (l ++ r)=Lib.parseUint10 a r
 | [],acc,a,h=>by
  simp only [Lib.parseUint10] at h
  injection h with h
  subst h;rfl
 | c :: l,acc,a,h=>by
  simp only [List.cons_append,Lib.parseUint10] at h ⊢
  split at h
  ·rename_i h1
   rw [if_pos h1]
   split at h
   ·cases h
   ·rename_i h2
    rw [if_neg h2]
    split at h
    ·cases h
    ·rename_i h3
     rw [if_neg h3]
     exact parse_app r l _ a h
  ·cases h
theorem dec_digit (u:Nat):∀ c ∈ Lib.decDigits u,48<=c.toNat/\c.toNat<=57:=by
 induction u using Nat.strongRecOn with
 | _ u ih =>
  intro c hc
  rw [Lib.decDigits] at hc
  by_cases h:u < 10
  ·rw [dif_pos h] at hc
   simp only [List.mem_singleton] at hc
   subst hc
   rw [UInt8.toNat_ofNat',Nat.mod_eq_of_lt (by omega)]
   omega
  ·rw [dif_neg h] at hc
   rcases List.mem_append.1 hc with hc | hc
   ·exact ih (u / 10) (by omega) c hc
   ·simp only [List.mem_singleton] at hc
    subst hc
    rw [UInt8.toNat_ofNat',Nat.mod_eq_of_lt (by omega)]
    omega
theorem dec_ne (u:Nat):Lib.decDigits u ≠ []:=by
 intro h
 have:=Lib.decDigits_length u
 rw [h] at this
 have:=Lib.nDigits_pos u
 simp at *;omega
theorem parse_dec (u:Nat) (hu:u<=9223372036854775808):Lib.parseUint10 0 (Lib.decDigits u)=.ok u:=by
 induction u using Nat.strongRecOn with
 | _ u ih =>
  rw [Lib.decDigits]
  by_cases h:u < 10
  ·rw [dif_pos h]
   have e:(UInt8.ofNat (48 + u)).toNat=48 + u:=by rw [UInt8.toNat_ofNat',Nat.mod_eq_of_lt (by omega)]
   simp only [Lib.parseUint10,e]
   rw [if_pos (by omega),if_neg (by omega),if_neg (by omega)]
   congr 1;omega
  ·rw [dif_neg h,parse_app _ _ _ _ (ih (u / 10) (by omega) (by omega))]
   have e:(UInt8.ofNat (48 + u % 10)).toNat=48 + u % 10:=by rw [UInt8.toNat_ofNat',Nat.mod_eq_of_lt (by omega)]
   simp only [Lib.parseUint10,e]
   rw [if_pos (by omega),if_neg (by omega),if_neg (by omega)]
   congr 1;omega
theorem atoi_itoa (n:Int) (h0:-9223372036854775808<=n) (h1:n<=9223372036854775807):Lib.atoiAll (Lib.itoa n)=.ok n:=by
 unfold Lib.itoa
 by_cases h:n < 0
 ·rw [if_pos h]
  have hp:Lib.parseMag (Lib.decDigits n.natAbs)=.ok n.natAbs:=by
   unfold Lib.parseMag;rw [if_neg (dec_ne _),parse_dec _ (by omega)]
  unfold Lib.atoiAll
  have e45:(45:UInt8).toNat=45:=rfl
  simp only [e45,or_true,if_true,hp,not_true_eq_false,false_and,if_false,true_and]
  rw [if_neg (by omega)]
  congr 1;omega
 ·rw [if_neg h]
  cases hd:Lib.decDigits n.toNat with
  | nil=>exact absurd hd (dec_ne _)
  | cons c r =>
   have hc:=dec_digit n.toNat c (by rw [hd];exact List.mem_cons_self)
   have hp:Lib.parseMag (c :: r)=.ok n.toNat:=by
    rw [<- hd];unfold Lib.parseMag;rw [if_neg (dec_ne _),parse_dec _ (by omega)]
   unfold Lib.atoiAll
   simp only
   rw [if_neg (by omega),hp]
   simp only
   rw [if_neg (by omega),if_neg (by omega),if_neg (by omega)]
   congr 1;omega
theorem itoa_noquote (n:Int):Lib.hasPrefix (Lib.itoa n) [34]=false:=by
 unfold Lib.itoa Lib.hasPrefix
 by_cases h:n < 0
 ·rw [if_pos h];rfl
 ·rw [if_neg h]
  cases hd:Lib.decDigits n.toNat with
  | nil=>rfl
  | cons c r =>
   have hc:=dec_digit n.toNat c (by rw [hd];exact List.mem_cons_self)
   have:c ≠ 34:=fun e=>by subst e;have:(34:UInt8).toNat=34:=rfl;omega
   simp [List.isPrefixOf,Ne.symm this]
theorem quote_quote (t:List UInt8):Lib.hasPrefix (quoteL t) [34]=true:=by
 unfold quoteL Lib.hasPrefix
 simp [List.isPrefixOf]
theorem itoa_len (n:Int) (h0:-9223372036854775808<=n) (h1:n<=9223372036854775807):(Lib.itoa n).length<=21:=by
 unfold Lib.itoa
 split
 ·have:=Lib.nDigits_le20 n.natAbs (by omega)
  simp only [List.length_cons,Lib.decDigits_length];omega
 ·have:=Lib.nDigits_le20 n.toNat (by omega)
  simp only [Lib.decDigits_length];omega
end Go.Proofs.YtdgoibnndfibnaaGreatDoor
namespace Go.Proofs.YtdgoibnndfibnaaGreatDoor
open Go.RowKit
theorem quoteL_inj {l t:List UInt8} (h:quoteL l=quoteL t):l=t:=by
 unfold quoteL at h
 simp only [List.cons_append,List.cons.injEq,true_and] at h
 exact escs_inj (List.append_cancel_right h)
theorem unq_yes (s:ByteArray) (t:List UInt8) (ht:s.data.toList=quoteL t) (w:World) (hmax:s.size<=100000000000000) :
  Calls Tryz.prog 149 #[.string s] w fun e w'=>e=.returned (.tuple #[.string ⟨t.toArray⟩,.int .i64 0])/\Below w.heap.size w w' :=
 (unquote_any s w hmax).mono fun e w' ⟨he,hb⟩=>⟨by
  rcases he with ⟨t',ht',he⟩ | ⟨hno,_⟩
  ·rw [quoteL_inj (ht.symm.trans ht')];exact he
  ·exact absurd ht (hno t),hb⟩
theorem unq_no (s:ByteArray) (hno:∀ t,s.data.toList ≠ quoteL t) (w:World) (hmax:s.size<=100000000000000) :
  Calls Tryz.prog 149 #[.string s] w fun e w'=>e=.returned (.tuple #[.string ⟨#[]⟩,.int .i64 10])/\Below w.heap.size w w' :=
 (unquote_any s w hmax).mono fun e w' ⟨he,hb⟩=>⟨by
  rcases he with ⟨t',ht',_⟩ | ⟨_,he⟩
  ·exact absurd ht' (hno t')
  ·exact he,hb⟩
set_option maxHeartbeats 400000 in
theorem read_word (s:ByteArray) (t:List UInt8) (w:World) (ht:s.data.toList=quoteL t) (hmax:s.size<=100000000000000) :
  Calls Tryz.prog 166 #[.string s] w fun e w'=>e=.returned (.tuple #[.agg #[.int .i64 2,.int .i64 0,.string ⟨t.toArray⟩],.bool true])/\Below w.heap.size w w':=by
 have hpre:=Tryz.strings_HasPrefix s ⟨#[34]⟩
 rw [show (ByteArray.mk #[34]).data.toList=[34] from rfl,ht,quote_quote] at hpre
 have hq:=fun w=>unq_yes s t ht w hmax
 clear ht
 go_enter Tryz.func166,Tryz.ntmps166
 go_wp2_with (first
  | (go_at_call 175;refine (hpre _).mono ?_;rintro e w' ⟨rfl,rfl⟩)
  | (go_at_call 149;refine (hq _).mono ?_;rintro e w1 ⟨rfl,hb⟩;obtain ⟨hcell,hfr⟩:=bcell hb;simp at hcell hfr))
 refine bodyPost_ret (v:=.tuple #[.agg #[.int .i64 2,.int .i64 0,.string ⟨t.toArray⟩],.bool true]) (by simp [results,Tryz.results166,go_sem,hcell]) rfl ⟨rfl, ?_⟩
 exact below_st3 hb _ _ _
set_option maxHeartbeats 400000 in
theorem read_noword (s:ByteArray) (w:World) (hp:Lib.hasPrefix s.data.toList [34]=true) (hno:∀ t,s.data.toList ≠ quoteL t) (hmax:s.size<=100000000000000) :
  Calls Tryz.prog 166 #[.string s] w fun e w'=>e=.returned (.tuple #[.agg #[.int .i64 2,.int .i64 0,.string ⟨#[]⟩],.bool false])/\Below w.heap.size w w':=by
 have hpre:=Tryz.strings_HasPrefix s ⟨#[34]⟩
 rw [show (ByteArray.mk #[34]).data.toList=[34] from rfl,hp] at hpre
 have hq:=fun w=>unq_no s hno w hmax
 clear hno hp
 go_enter Tryz.func166,Tryz.ntmps166
 go_wp2_with (first
  | (go_at_call 175;refine (hpre _).mono ?_;rintro e w' ⟨rfl,rfl⟩)
  | (go_at_call 149;refine (hq _).mono ?_;rintro e w1 ⟨rfl,hb⟩;obtain ⟨hcell,hfr⟩:=bcell hb;simp at hcell hfr))
 refine bodyPost_ret (v:=.tuple #[.agg #[.int .i64 2,.int .i64 0,.string ⟨#[]⟩],.bool false]) (by simp [results,Tryz.results166,go_sem,hcell]) rfl ⟨rfl, ?_⟩
 exact below_st3 hb _ _ _
set_option maxHeartbeats 400000 in
theorem parse_hit (s:ByteArray) (k v:Int) (x:ByteArray) (w:World) (hG:G w)
  (hr:∀ w,G w->Calls Tryz.prog 166 #[.string s] w fun e w'=>e=.returned (.tuple #[.agg #[.int .i64 k,.int .i64 v,.string x],.bool true])/\Below w.heap.size w w') (ht:textB k v x=s) (hc:chkV k v x=0) :
  Calls Tryz.prog 150 #[.string s] w fun e w'=>e=.returned (.tuple #[.agg #[.int .i64 k,.int .i64 v,.string x],.int .i64 0])/\Below w.heap.size w w':=by
 have htx:=text_any k v x
 rw [ht,hc] at htx
 clear ht hc
 go_enter Tryz.func150,Tryz.ntmps150
 go_wp2_with (first
  | (go_at_call 166;refine (hr _ (by exact G_alloc hG _)).mono ?_;rintro e w1 ⟨rfl,hb⟩;obtain ⟨hcell,hfr⟩:=bcell hb;simp at hcell hfr;have hz:w.heap.size < w1.heap.size:=(by have:=hb.size;simp at this;omega))
  | (go_at_call 117;refine (htx _ (by exact G_alloc (G_below (G_alloc hG _) hb) _)).mono ?_;rintro e w2 ⟨rfl,hb2⟩;obtain ⟨hcell2,hfr2⟩:=bcell hb2;simp at hcell2 hfr2;have hz2:w.heap.size < w1.heap.size + 1:=(by omega)))
 refine bodyPost_ret (v:=.tuple #[.agg #[.int .i64 k,.int .i64 v,.string x],.int .i64 0]) (by simp [results,Tryz.results150,go_sem,hcell,hcell2,hz,hz2]) rfl ⟨rfl, ?_⟩
 exact below_st3 (below_sub (below_sub hb ((Below.refl _ _).alloc (Nat.le_refl _) _)) hb2) _ _ _
set_option maxHeartbeats 400000 in
theorem parse_form (s:ByteArray) (k v:Int) (x:ByteArray) (w:World) (hG:G w)
  (hr:∀ w,G w->Calls Tryz.prog 166 #[.string s] w fun e w'=>e=.returned (.tuple #[.agg #[.int .i64 k,.int .i64 v,.string x],.bool true])/\Below w.heap.size w w') (hc:chkV k v x=1) :
  Calls Tryz.prog 150 #[.string s] w fun e w'=>e=.returned (.tuple #[.agg #[.int .i64 0,.int .i64 0,.string ⟨#[]⟩],.int .i64 10])/\Below w.heap.size w w':=by
 have htx:=text_any k v x
 generalize textB k v x=tt at htx
 rw [hc] at htx
 clear hc
 go_enter Tryz.func150,Tryz.ntmps150
 go_wp2_with (first
  | (go_at_call 166;refine (hr _ (by exact G_alloc hG _)).mono ?_;rintro e w1 ⟨rfl,hb⟩;obtain ⟨hcell,hfr⟩:=bcell hb;simp at hcell hfr;have hz:w.heap.size < w1.heap.size:=(by have:=hb.size;simp at this;omega))
  | (go_at_call 117;refine (htx _ (by exact G_alloc (G_below (G_alloc hG _) hb) _)).mono ?_;rintro e w2 ⟨rfl,hb2⟩;obtain ⟨hcell2,hfr2⟩:=bcell hb2;simp at hcell2 hfr2;have hz2:w.heap.size < w1.heap.size + 1:=(by omega)))
 refine bodyPost_ret (v:=.tuple #[.agg #[.int .i64 0,.int .i64 0,.string ⟨#[]⟩],.int .i64 10]) (by simp [results,Tryz.results150,go_sem,hcell,hcell2,hz,hz2]) rfl ⟨rfl, ?_⟩
 exact below_st3 (below_sub (below_sub hb ((Below.refl _ _).alloc (Nat.le_refl _) _)) hb2) _ _ _
set_option maxHeartbeats 400000 in
theorem parse_miss (s:ByteArray) (k:Int) (x:ByteArray) (w:World) (hG:G w)
  (hr:∀ w,G w->Calls Tryz.prog 166 #[.string s] w fun e w'=>(∃ v,e=.returned (.tuple #[.agg #[.int .i64 k,.int .i64 v,.string x],.bool false]))/\Below w.heap.size w w') :
  Calls Tryz.prog 150 #[.string s] w fun e w'=>e=.returned (.tuple #[.agg #[.int .i64 0,.int .i64 0,.string ⟨#[]⟩],.int .i64 10])/\Below w.heap.size w w':=by
 go_enter Tryz.func150,Tryz.ntmps150
 go_wp2_with (go_at_call 166;refine (hr _ (by exact G_alloc hG _)).mono ?_;rintro e w1 ⟨⟨v,rfl⟩,hb⟩;obtain ⟨hcell,hfr⟩:=bcell hb;simp at hcell hfr;have hz:w.heap.size < w1.heap.size:=(by have:=hb.size;simp at this;omega))
 refine bodyPost_ret (v:=.tuple #[.agg #[.int .i64 0,.int .i64 0,.string ⟨#[]⟩],.int .i64 10]) (by simp [results,Tryz.results150,go_sem,hcell,hz]) rfl ⟨rfl, ?_⟩
 exact (below_st3 hb _ _ _).alloc (below_st3 hb _ _ _).size _
theorem bytes_of_size {s:ByteArray} (h:s.size=0):s=⟨#[]⟩:=by
 apply WideShapes.bytes_inj
 have:s.data.toList=[]:=by rw [<- List.length_eq_zero_iff];simpa using h
 rw [this]
theorem bytes_list (s:ByteArray):(⟨s.data.toList.toArray⟩:ByteArray)=s:=by simp
/-- A value in form is read back from its text. -/
theorem parse_text (k n:Int) (s:ByteArray) (hc:chkV k n s=0) (w:World) (hG:G w) :
  Calls Tryz.prog 150 #[.string (textB k n s)] w fun e w'=>e=.returned (.tuple #[.agg #[.int .i64 k,.int .i64 n,.string s],.int .i64 0])/\Below w.heap.size w w':=by
 rcases chk_range hc with ⟨rfl,h1,h2,h3⟩ | ⟨rfl,rfl,h3⟩
 ·obtain rfl:=bytes_of_size h3
  have ht:textB 1 n ⟨#[]⟩=itoaB n:=by unfold textB;rw [if_pos hc,if_neg (by decide)]
  have hl:(itoaB n).data.toList=Lib.itoa n:=rfl
  have hlen:=itoa_len n (by omega) (by omega)
  have hsz:(itoaB n).size<=21:=by
   have:(itoaB n).size=(Lib.itoa n).length:=by simp [itoaB,ByteArray.size]
   omega
  refine parse_hit _ 1 n ⟨#[]⟩ w hG (fun w _=>?_) rfl hc
  rw [ht]
  exact read_num _ n w (by rw [hl];exact itoa_noquote n) (by omega) (by rw [hl];exact atoi_itoa n (by omega) (by omega))
 ·have ht:textB 2 0 s=quoteB s:=by unfold textB;rw [if_pos hc,if_pos rfl]
  have hl:(quoteB s).data.toList=quoteL s.data.toList:=rfl
  have hsz:(quoteB s).size<=1000:=by
   have e:(quoteB s).size=(quoteL s.data.toList).length:=by simp [quoteB,ByteArray.size]
   have:=escs_le s.data.toList
   simp only [Array.length_toList] at this
   have h4:s.data.size=s.size:=rfl
   simp only [quoteL,List.cons_append,List.length_cons,List.length_append,List.length_nil] at e
   omega
  refine parse_hit _ 2 0 s w hG (fun w _=>?_) rfl hc
  rw [ht]
  have:=read_word (quoteB s) s.data.toList w hl (by omega)
  rw [bytes_list] at this
  exact this
end Go.Proofs.YtdgoibnndfibnaaGreatDoor
