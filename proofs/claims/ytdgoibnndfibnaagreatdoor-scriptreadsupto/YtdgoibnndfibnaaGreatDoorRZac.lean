/- What value.Unquote returns, for every text: the text that it was made of by Quote, or none. -/
import Derived.Test.YtdgoibnndfibnaaGreatDoorRUnq
import Derived.Test.YtdgoibnndfibnaaGreatDoorRZab
import Derived.Lib.ItoaLen
namespace Go.Proofs.YtdgoibnndfibnaaGreatDoor
open Go.RowKit
theorem esc_pos (c:UInt8):0 < (esc c).length:=by unfold esc;split;simp;split <;> simp
theorem escs_cons (c:UInt8) (l:List UInt8):escs (c :: l)=esc c ++ escs l:=by simp [escs]
theorem escs_split:∀ (l x t:List UInt8),escs l ++ x=escs t->∃ t',t=l ++ t'/\x=escs t'
 | [],x,t,h=>⟨t,rfl,by simpa [escs] using h⟩
 | c :: l,x,[],h=>by
  have:=congrArg List.length h
  have hp:=esc_pos c
  rw [escs_cons] at this
  simp only [List.length_append] at this
  have e:(escs []).length=0:=rfl
  omega
 | c :: l,x,d :: t,h=>by
  rw [escs_cons,escs_cons,List.append_assoc] at h
  have h1:=first_esc c (escs l ++ x)
  have h2:=first_esc d (escs t)
  rw [h,h2] at h1
  simp only [Prod.mk.injEq] at h1
  obtain ⟨rfl,_⟩:=h1
  obtain ⟨t',rfl,hx⟩:=escs_split l x t (List.append_cancel_left h)
  exact ⟨t',rfl,hx⟩
theorem escs_inj {l t:List UInt8} (h:escs l=escs t):l=t:=by
 obtain ⟨t',rfl,hx⟩:=escs_split l [] t (by simpa using h)
 cases t' with
 | nil=>simp
 | cons c r =>
  have:=congrArg List.length hx
  have hp:=esc_pos c
  rw [escs_cons] at this
  simp only [List.length_append,List.length_nil] at this
  omega
theorem no_writing {l x t:List UInt8} (hx:0 < x.length) (hf:(firstL x).2=0):escs l ++ x ≠ escs t:=by
 intro h
 obtain ⟨t',rfl,rfl⟩:=escs_split l x t h
 cases t' with
 | nil=>simp [escs] at hx
 | cons c r =>
  rw [escs_cons,first_esc] at hf
  have:=esc_pos c
  simp only at hf
  omega
theorem conv_nil (w:World):(convert 67 9 (.slice none 0 0)).run Tryz.prog w=.ok (.string ⟨#[]⟩) w:=by
 rw [run_convert_bytes_string w 67 9 5 none 0 0 Tryz.underlying67 Tryz.underlying5 Tryz.underlying9]
 rfl
def strLen:Value->Nat
 | .string b=>b.size
 | _=>0
theorem extract_all (s:ByteArray) (n:Nat):(s.extract n s.size).data.toList=s.data.toList.drop n:=by
 rw [ByteArray.data_extract,Array.toList_extract]
 simp only [List.extract_eq_take_drop]
 rw [List.take_of_length_le]
 simp
theorem extract_size (s:ByteArray) (n:Nat):(s.extract n s.size).size=s.size - n:=by
 rw [ByteArray.size_extract];omega
theorem escs_ge (l:List UInt8):l.length<=(escs l).length:=by
 induction l with
 | nil=>simp
 | cons c l ih=>rw [escs_cons];have:=esc_pos c;simp;omega
/-- What Unquote answers of the text between the marks. -/
def UnqPost (I:List UInt8) (e:Ending):Prop :=
 (∃ t,I=escs t/\e=.returned (.tuple #[.string ⟨t.toArray⟩,.int .i64 0])) ∨ ((∀ t,I ≠ escs t)/\e=.returned (.tuple #[.string ⟨#[]⟩,.int .i64 10]))
set_option maxRecDepth 100000 in
set_option maxHeartbeats 1000000 in
theorem unquote_marks (s:ByteArray) (w:World) (h2:2<=s.size) (hmax:s.size<=100000000000000) (h34:(s[0].toNat:Int)=34) (h34':(s[s.size - 1].toNat:Int)=34) :
  Calls Tryz.prog 149 #[.string s] w fun e w'=>UnqPost (s.extract 1 (s.size - 1)).data.toList e/\Below w.heap.size w w':=by
 obtain ⟨i0,hi,hz0,hz1,hz2⟩:=info_parts Tryz.info5
 have i1:(2:Int)<=(s.size:Int):=by omega
 have i2:(0:Int) < (s.size:Int):=by omega
 have i3:(0:Int)<=(s.size:Int) - 1:=by omega
 have i4:((s.size:Int) - 1).toNat=s.size - 1:=by omega
 have d1:(((s[0].toNat:Int)) != 34)=false:=by simp [h34]
 have d2:(((s[s.size - 1].toNat:Int)) != 34)=false:=by simp [h34']
 have hI:(s.extract 1 (s.size - 1)).data.toList.length<=100000000000000:=by
  have:(s.extract 1 (s.size - 1)).size<=s.size:=by rw [ByteArray.size_extract];omega
  simpa using Nat.le_trans this hmax
 clear h34 h34'
 go_enter Tryz.func149,Tryz.ntmps149
 go_wp2
 have HI:=hide hI
 clear d1 d2 hI hmax
 go_loopw [4,5] (fun a v wr=>∃ (x:ByteArray) (l:List UInt8),a=.string x/\Row w.heap.size wr v l/\Below w.heap.size w wr/\(s.extract 1 (s.size - 1)).data.toList=escs l ++ x.data.toList/\(l=[]->v=.slice none 0 0)) (fun a _ _=>strLen a)
 case atStart=>exact ⟨_,[],rfl,World.ownsRow_nil _ _ _ _,Below.refl _ _,by simp [escs],fun _=>rfl⟩
 case round =>
  obtain ⟨x,l,rfl,hrow,hb,heq,hnil⟩:=hrel
  have hll:=hide (show l.length + x.size<=100000000000000 by
   have h1:=uh HI
   rw [heq] at h1
   have h2:=escs_ge l
   simp only [List.length_append,Array.length_toList] at h1
   have h3:x.data.size=x.size:=rfl
   omega)
  by_cases hx:x.size=0
  ·have he:x.toList.isEmpty=true:=(empty_iff x).2 hx
   have hfin:=hide (show (s.extract 1 (s.size - 1)).data.toList=escs l by
    rw [heq]
    have:x.data.toList=[]:=by rw [<- List.length_eq_zero_iff];simpa using hx
    rw [this];simp)
   clear heq hx
   cases l with
   | nil =>
    obtain rfl:=hnil rfl
    have hcv:=conv_nil wr
    clear hnil hrow
    go_wp2
    go_ret2
    exact ⟨Or.inl ⟨[],uh hfin,rfl⟩,hb⟩
   | cons c l =>
    have hcv:=conv_row hrow (by simp)
    clear hnil hrow
    go_wp2
    go_ret2
    exact ⟨Or.inl ⟨c :: l,uh hfin,rfl⟩,hb⟩
  ·have he:x.toList.isEmpty=false:=by cases h:x.toList.isEmpty;rfl;exact absurd ((empty_iff x).1 h) hx
   have hfb:=fun W=>firstByte_any x W (by omega)
   by_cases hn:(firstL x.data.toList).2=0
   ·have hno:=hide (fun t=>no_writing (l:=l) (x:=x.data.toList) (t:=t) (by simpa using (show 0 < x.size by omega)) hn)
    rw [hn] at hfb
    clear hn hnil
    have Heq:=hide heq
    clear heq hrow
    go_wp2_with (go_at_call 165;refine (hfb _).mono ?_;rintro e w' ⟨rfl,rfl⟩)
    go_ret2
    exact ⟨Or.inr ⟨fun t=>by rw [uh Heq];exact uh hno t,rfl⟩,hb⟩
   ·obtain ⟨c,n,hcn⟩:∃ c n,firstL x.data.toList=(c,n):=⟨_,_,rfl⟩
    rw [hcn] at hfb hn
    simp only at hfb hn
    obtain ⟨r,hr,hlen⟩:=first_sound hcn (by omega)
    have hnle:n<=x.size:=by
     have:=congrArg List.length hr
     simp only [List.length_append,Array.length_toList] at this
     have h3:x.data.size=x.size:=rfl
     omega
    have n0:((n:Int) == 0)=false:=by simp;omega
    have n1:(0:Int)<=(n:Int):=by omega
    have n2:(n:Int)<=(x.size:Int):=by omega
    have hdr:(x.extract n x.size).data.toList=r:=by
     rw [extract_all,hr,hlen,List.drop_left]
    have hnew:=hide (show (s.extract 1 (s.size - 1)).data.toList=escs (l ++ [c]) ++ (x.extract n x.size).data.toList by
     rw [hdr,escs_snoc,heq,hr,List.append_assoc])
    have hsz:=hide (show (x.extract n x.size).size < x.size by rw [extract_size];omega)
    clear hcn hr hlen heq hdr hnil hn
    unfold Row at hrow
    have hBs:=hb.size
    have hl1:l.length<=100000000000000:=by have:=uh hll;omega
    go_wp2_with (first
     | (go_at_call 165;refine (hfb _).mono ?_;rintro e w' ⟨rfl,rfl⟩)
     | (at_builtin;refine wpList_append_own _ rfl _ _ 67 rfl w.heap.size 5 i0 (.int .u8 0) 1 1 Tryz.underlying67 hi hz0 hz1 hz2 rfl (by decide) _ _ _ rfl (hrow.alloc _) ⟨_,0,none⟩ 1 1 [bv c] rfl rfl news1 (bv_one [c]) (by unfold maxLen;omega) (by omega) (by simp;omega) ?_;intro v2 w2 hown2 hgrow2 hn2;have R2:=hide (And.intro (row_of (m:=[c]) rfl hown2) (grown_row hrow hBs ((Below.refl _ _).alloc hBs _) (by simp) hgrow2));clear hown2 hgrow2 hn2))
    go_roundw
    case rel=>exact ⟨_,l ++ [c],rfl,(uh R2).1,hb.trans (uh R2).2,uh hnew,fun h=>by simp at h⟩
    case measure=>exact uh hsz
set_option maxHeartbeats 400000 in
theorem unquote_short (s:ByteArray) (w:World) (h2:s.size < 2) :
  Calls Tryz.prog 149 #[.string s] w fun e w'=>e=.returned (.tuple #[.string ⟨#[]⟩,.int .i64 10])/\Below w.heap.size w w':=by
 have i1:(s.size:Int) < 2:=by omega
 go_enter Tryz.func149,Tryz.ntmps149
 go_wp2
 go_ret2
 exact ⟨rfl,Below.refl _ _⟩
set_option maxHeartbeats 400000 in
theorem unquote_head (s:ByteArray) (w:World) (h2:2<=s.size) (h34:¬ (s[0].toNat:Int)=34) :
  Calls Tryz.prog 149 #[.string s] w fun e w'=>e=.returned (.tuple #[.string ⟨#[]⟩,.int .i64 10])/\Below w.heap.size w w':=by
 have i1:(2:Int)<=(s.size:Int):=by omega
 have i2:(0:Int) < (s.size:Int):=by omega
 have d1:(((s[0].toNat:Int)) != 34)=true:=by simpa using h34
 clear h34
 go_enter Tryz.func149,Tryz.ntmps149
 go_wp2
 go_ret2
 exact ⟨rfl,Below.refl _ _⟩
set_option maxHeartbeats 400000 in
theorem unquote_tail (s:ByteArray) (w:World) (h2:2<=s.size) (h34:(s[0].toNat:Int)=34) (hmax:s.size<=100000000000000) (h34':¬ (s[s.size - 1].toNat:Int)=34) :
  Calls Tryz.prog 149 #[.string s] w fun e w'=>e=.returned (.tuple #[.string ⟨#[]⟩,.int .i64 10])/\Below w.heap.size w w':=by
 have i1:(2:Int)<=(s.size:Int):=by omega
 have i2:(0:Int) < (s.size:Int):=by omega
 have i3:(0:Int)<=(s.size:Int) - 1:=by omega
 have i4:((s.size:Int) - 1).toNat=s.size - 1:=by omega
 have d1:(((s[0].toNat:Int)) != 34)=false:=by simp [h34]
 have d2:(((s[s.size - 1].toNat:Int)) != 34)=true:=by simpa using h34'
 clear h34 h34'
 go_enter Tryz.func149,Tryz.ntmps149
 go_wp2
 go_ret2
 exact ⟨rfl,Below.refl _ _⟩
/-- The text of which l is the writing in quotation marks, if there is one. -/
def UnqOf (l:List UInt8) (e:Ending):Prop :=
 (∃ t,l=quoteL t/\e=.returned (.tuple #[.string ⟨t.toArray⟩,.int .i64 0])) ∨ ((∀ t,l ≠ quoteL t)/\e=.returned (.tuple #[.string ⟨#[]⟩,.int .i64 10]))
theorem quoteL_len (t:List UInt8):2<=(quoteL t).length:=by simp [quoteL]
theorem marks_list (s:ByteArray) (h2:2<=s.size):s.data.toList=s[0] :: (s.extract 1 (s.size - 1)).data.toList ++ [s[s.size - 1]]:=by
 have hx:(s.extract 1 (s.size - 1)).data.toList=(s.data.toList.drop 1).take (s.size - 2):=by
  rw [ByteArray.data_extract,Array.toList_extract,List.extract_eq_take_drop]
  congr 1
 have h1:=list1 s (by omega)
 conv=>lhs;rw [h1]
 rw [List.cons_append,hx]
 congr 1
 have hl:(s.data.toList.drop 1).length=s.size - 1:=by simp
 conv=>lhs;rw [<- List.take_append_drop (s.size - 2) (s.data.toList.drop 1)]
 congr 1
 rw [List.drop_drop,show 1 + (s.size - 2)=s.size - 1 by omega]
 rw [List.drop_eq_getElem_cons (by simpa using (show s.size - 1 < s.size by omega)),List.drop_of_length_le (by simp;omega)]
 rfl
theorem quote_iff (s:ByteArray) (h2:2<=s.size) (t:List UInt8):s.data.toList=quoteL t ↔ s[0]=34/\s[s.size - 1]=34/\(s.extract 1 (s.size - 1)).data.toList=escs t:=by
 rw [marks_list s h2]
 unfold quoteL
 generalize (s.extract 1 (s.size - 1)).data.toList=I
 constructor
 ·intro h
  simp only [List.cons_append,List.cons.injEq] at h
  obtain ⟨h1,h3⟩:=h
  have:=List.append_inj' h3 rfl
  exact ⟨h1,by simpa using this.2,this.1⟩
 ·rintro ⟨h1,h3,h4⟩
  rw [h1,h3,h4]
theorem unquote_any (s:ByteArray) (w:World) (hmax:s.size<=100000000000000) :
  Calls Tryz.prog 149 #[.string s] w fun e w'=>UnqOf s.data.toList e/\Below w.heap.size w w':=by
 by_cases h2:s.size < 2
 ·refine (unquote_short s w h2).mono fun e w' ⟨he,hb⟩=>⟨Or.inr ⟨fun t ht=>?_,he⟩,hb⟩
  have:=quoteL_len t
  rw [<- ht] at this
  simp only [Array.length_toList] at this
  have h3:s.data.size=s.size:=rfl
  omega
 ·have h2':2<=s.size:=by omega
  by_cases h34:(s[0].toNat:Int)=34
  ·by_cases h34':(s[s.size - 1].toNat:Int)=34
   ·have e1:s[0]=34:=(toNat_is s[0]  34 (by omega)).1 h34
    have e2:s[s.size - 1]=34:=(toNat_is s[s.size - 1]  34 (by omega)).1 h34'
    refine (unquote_marks s w h2' hmax h34 h34').mono fun e w' ⟨he,hb⟩=>⟨?_,hb⟩
    rcases he with ⟨t,ht,he⟩ | ⟨ht,he⟩
    ·exact Or.inl ⟨t,(quote_iff s h2' t).2 ⟨e1,e2,ht⟩,he⟩
    ·exact Or.inr ⟨fun t h=>ht t ((quote_iff s h2' t).1 h).2.2,he⟩
   ·refine (unquote_tail s w h2' h34 hmax h34').mono fun e w' ⟨he,hb⟩=>⟨Or.inr ⟨fun t ht=>?_,he⟩,hb⟩
    exact h34' ((toNat_is s[s.size - 1]  34 (by omega)).2 ((quote_iff s h2' t).1 ht).2.1)
  ·refine (unquote_head s w h2' h34).mono fun e w' ⟨he,hb⟩=>⟨Or.inr ⟨fun t ht=>?_,he⟩,hb⟩
   exact h34 ((toNat_is s[0]  34 (by omega)).2 ((quote_iff s h2' t).1 ht).1)
end Go.Proofs.YtdgoibnndfibnaaGreatDoor
namespace Go.Proofs.YtdgoibnndfibnaaGreatDoor
open Go.RowKit
theorem parse_app (r:List UInt8):∀ (l:List UInt8) (acc a:Nat),Lib.parseUint10 acc l=.ok a->Lib.parseUint10 acc (l ++ r)=Lib.parseUint10 a r
 | [],acc,a,h=>by
  simp only [Lib.parseUint10] at h
  injection h with h
  subst h;rfl
 | c :: l,acc,a,h=>by
  simp only [List.cons_append,Lib.parseUint10] at h ⊢
  split at h
  ·rename_i h1
   rw [if_pos h1]
   split at h
   ·cases h
   ·rename_i h2
    rw [if_neg h2]
    split at h
    ·cases h
    ·rename_i h3
     rw [if_neg h3]
     exact parse_app r l _ a h
  ·cases h
theorem dec_digit (u:Nat):∀ c ∈ Lib.decDigits u,48<=c.toNat/\c.toNat<=57:=by
 induction u using Nat.strongRecOn with
 | _ u ih =>
  intro c hc
  rw [Lib.decDigits] at hc
  by_cases h:u < 10
  ·rw [dif_pos h] at hc
   simp only [List.mem_singleton] at hc
   subst hc
   rw [UInt8.toNat_ofNat',Nat.mod_eq_of_lt (by omega)]
   omega
  ·rw [dif_neg h] at hc
   rcases List.mem_append.1 hc with hc | hc
   ·exact ih (u / 10) (by omega) c hc
   ·simp only [List.mem_singleton] at hc
    subst hc
    rw [UInt8.toNat_ofNat',Nat.mod_eq_of_lt (by omega)]
    omega
theorem dec_ne (u:Nat):Lib.decDigits u ≠ []:=by
 intro h
 have:=Lib.decDigits_length u
 rw [h] at this
 have:=Lib.nDigits_pos u
 simp at *;omega
theorem parse_dec (u:Nat) (hu:u<=9223372036854775808):Lib.parseUint10 0 (Lib.decDigits u)=.ok u:=by
 induction u using Nat.strongRecOn with
 | _ u ih =>
  rw [Lib.decDigits]
  by_cases h:u < 10
  ·rw [dif_pos h]
   have e:(UInt8.ofNat (48 + u)).toNat=48 + u:=by rw [UInt8.toNat_ofNat',Nat.mod_eq_of_lt (by omega)]
   simp only [Lib.parseUint10,e]
   rw [if_pos (by omega),if_neg (by omega),if_neg (by omega)]
   congr 1;omega
  ·rw [dif_neg h,parse_app _ _ _ _ (ih (u / 10) (by omega) (by omega))]
   have e:(UInt8.ofNat (48 + u % 10)).toNat=48 + u % 10:=by rw [UInt8.toNat_ofNat',Nat.mod_eq_of_lt (by omega)]
   simp only [Lib.parseUint10,e]
   rw [if_pos (by omega),if_neg (by omega),if_neg (by omega)]
   congr 1;omega
theorem atoi_itoa (n:Int) (h0:-9223372036854775808<=n) (h1:n<=9223372036854775807):Lib.atoiAll (Lib.itoa n)=.ok n:=by
 unfold Lib.itoa
 by_cases h:n < 0
 ·rw [if_pos h]
  have hp:Lib.parseMag (Lib.decDigits n.natAbs)=.ok n.natAbs:=by
   unfold Lib.parseMag;rw [if_neg (dec_ne _),parse_dec _ (by omega)]
  unfold Lib.atoiAll
  have e45:(45:UInt8).toNat=45:=rfl
  simp only [e45,or_true,if_true,hp,not_true_eq_false,false_and,if_false,true_and]
  rw [if_neg (by omega)]
  congr 1;omega
 ·rw [if_neg h]
  cases hd:Lib.decDigits n.toNat with
  | nil=>exact absurd hd (dec_ne _)
  | cons c r =>
   have hc:=dec_digit n.toNat c (by rw [hd];exact List.mem_cons_self)
   have hp:Lib.parseMag (c :: r)=.ok n.toNat:=by
    rw [<- hd];unfold Lib.parseMag;rw [if_neg (dec_ne _),parse_dec _ (by omega)]
   unfold Lib.atoiAll
   simp only
   rw [if_neg (by omega),hp]
   simp only
   rw [if_neg (by omega),if_neg (by omega),if_neg (by omega)]
   congr 1;omega
theorem itoa_noquote (n:Int):Lib.hasPrefix (Lib.itoa n) [34]=false:=by
 unfold Lib.itoa Lib.hasPrefix
 by_cases h:n < 0
 ·rw [if_pos h];rfl
 ·rw [if_neg h]
  cases hd:Lib.decDigits n.toNat with
  | nil=>rfl
  | cons c r =>
   have hc:=dec_digit n.toNat c (by rw [hd];exact List.mem_cons_self)
   have:c ≠ 34:=fun e=>by subst e;have:(34:UInt8).toNat=34:=rfl;omega
   simp [List.isPrefixOf,Ne.symm this]
theorem quote_quote (t:List UInt8):Lib.hasPrefix (quoteL t) [34]=true:=by
 unfold quoteL Lib.hasPrefix
 simp [List.isPrefixOf]
theorem itoa_len (n:Int) (h0:-9223372036854775808<=n) (h1:n<=9223372036854775807):(Lib.itoa n).length<=21:=by
 unfold Lib.itoa
 split
 ·have:=Lib.nDigits_le20 n.natAbs (by omega)
  simp only [List.length_cons,Lib.decDigits_length];omega
 ·have:=Lib.nDigits_le20 n.toNat (by omega)
  simp only [Lib.decDigits_length];omega
end Go.Proofs.YtdgoibnndfibnaaGreatDoor
namespace Go.Proofs.YtdgoibnndfibnaaGreatDoor
open Go.RowKit
theorem quoteL_inj {l t:List UInt8} (h:quoteL l=quoteL t):l=t:=by
 unfold quoteL at h
 simp only [List.cons_append,List.cons.injEq,true_and] at h
 exact escs_inj (List.append_cancel_right h)
theorem unq_yes (s:ByteArray) (t:List UInt8) (ht:s.data.toList=quoteL t) (w:World) (hmax:s.size<=100000000000000) :
  Calls Tryz.prog 149 #[.string s] w fun e w'=>e=.returned (.tuple #[.string ⟨t.toArray⟩,.int .i64 0])/\Below w.heap.size w w' :=
 (unquote_any s w hmax).mono fun e w' ⟨he,hb⟩=>⟨by
  rcases he with ⟨t',ht',he⟩ | ⟨hno,_⟩
  ·rw [quoteL_inj (ht.symm.trans ht')];exact he
  ·exact absurd ht (hno t),hb⟩
theorem unq_no (s:ByteArray) (hno:∀ t,s.data.toList ≠ quoteL t) (w:World) (hmax:s.size<=100000000000000) :
  Calls Tryz.prog 149 #[.string s] w fun e w'=>e=.returned (.tuple #[.string ⟨#[]⟩,.int .i64 10])/\Below w.heap.size w w' :=
 (unquote_any s w hmax).mono fun e w' ⟨he,hb⟩=>⟨by
  rcases he with ⟨t',ht',_⟩ | ⟨_,he⟩
  ·exact absurd ht' (hno t')
  ·exact he,hb⟩
set_option maxHeartbeats 400000 in
theorem read_word (s:ByteArray) (t:List UInt8) (w:World) (ht:s.data.toList=quoteL t) (hmax:s.size<=100000000000000) :
  Calls Tryz.prog 166 #[.string s] w fun e w'=>e=.returned (.tuple #[.agg #[.int .i64 2,.int .i64 0,.string ⟨t.toArray⟩],.bool true])/\Below w.heap.size w w':=by
 have hpre:=Tryz.strings_HasPrefix s ⟨#[34]⟩
 rw [show (ByteArray.mk #[34]).data.toList=[34] from rfl,ht,quote_quote] at hpre
 have hq:=fun w=>unq_yes s t ht w hmax
 clear ht
 go_enter Tryz.func166,Tryz.ntmps166
 go_wp2_with (first
  | (go_at_call 175;refine (hpre _).mono ?_;rintro e w' ⟨rfl,rfl⟩)
  | (go_at_call 149;refine (hq _).mono ?_;rintro e w1 ⟨rfl,hb⟩;obtain ⟨hcell,hfr⟩:=bcell hb;simp at hcell hfr))
 refine bodyPost_ret (v:=.tuple #[.agg #[.int .i64 2,.int .i64 0,.string ⟨t.toArray⟩],.bool true]) (by simp [results,Tryz.results166,go_sem,hcell]) rfl ⟨rfl, ?_⟩
 exact below_st3 hb _ _ _
set_option maxHeartbeats 400000 in
theorem read_noword (s:ByteArray) (w:World) (hp:Lib.hasPrefix s.data.toList [34]=true) (hno:∀ t,s.data.toList ≠ quoteL t) (hmax:s.size<=100000000000000) :
  Calls Tryz.prog 166 #[.string s] w fun e w'=>e=.returned (.tuple #[.agg #[.int .i64 2,.int .i64 0,.string ⟨#[]⟩],.bool false])/\Below w.heap.size w w':=by
 have hpre:=Tryz.strings_HasPrefix s ⟨#[34]⟩
 rw [show (ByteArray.mk #[34]).data.toList=[34] from rfl,hp] at hpre
 have hq:=fun w=>unq_no s hno w hmax
 clear hno hp
 go_enter Tryz.func166,Tryz.ntmps166
 go_wp2_with (first
  | (go_at_call 175;refine (hpre _).mono ?_;rintro e w' ⟨rfl,rfl⟩)
  | (go_at_call 149;refine (hq _).mono ?_;rintro e w1 ⟨rfl,hb⟩;obtain ⟨hcell,hfr⟩:=bcell hb;simp at hcell hfr))
 refine bodyPost_ret (v:=.tuple #[.agg #[.int .i64 2,.int .i64 0,.string ⟨#[]⟩],.bool false]) (by simp [results,Tryz.results166,go_sem,hcell]) rfl ⟨rfl, ?_⟩
 exact below_st3 hb _ _ _
set_option maxHeartbeats 400000 in
theorem parse_hit (s:ByteArray) (k v:Int) (x:ByteArray) (w:World) (hG:G w)
  (hr:∀ w,G w->Calls Tryz.prog 166 #[.string s] w fun e w'=>e=.returned (.tuple #[.agg #[.int .i64 k,.int .i64 v,.string x],.bool true])/\Below w.heap.size w w') (ht:textB k v x=s) (hc:chkV k v x=0) :
  Calls Tryz.prog 150 #[.string s] w fun e w'=>e=.returned (.tuple #[.agg #[.int .i64 k,.int .i64 v,.string x],.int .i64 0])/\Below w.heap.size w w':=by
 have htx:=text_any k v x
 rw [ht,hc] at htx
 clear ht hc
 go_enter Tryz.func150,Tryz.ntmps150
 go_wp2_with (first
  | (go_at_call 166;refine (hr _ (by exact G_alloc hG _)).mono ?_;rintro e w1 ⟨rfl,hb⟩;obtain ⟨hcell,hfr⟩:=bcell hb;simp at hcell hfr;have hz:w.heap.size < w1.heap.size:=(by have:=hb.size;simp at this;omega))
  | (go_at_call 117;refine (htx _ (by exact G_alloc (G_below (G_alloc hG _) hb) _)).mono ?_;rintro e w2 ⟨rfl,hb2⟩;obtain ⟨hcell2,hfr2⟩:=bcell hb2;simp at hcell2 hfr2;have hz2:w.heap.size < w1.heap.size + 1:=(by omega)))
 refine bodyPost_ret (v:=.tuple #[.agg #[.int .i64 k,.int .i64 v,.string x],.int .i64 0]) (by simp [results,Tryz.results150,go_sem,hcell,hcell2,hz,hz2]) rfl ⟨rfl, ?_⟩
 exact below_st3 (below_sub (below_sub hb ((Below.refl _ _).alloc (Nat.le_refl _) _)) hb2) _ _ _
set_option maxHeartbeats 400000 in
theorem parse_form (s:ByteArray) (k v:Int) (x:ByteArray) (w:World) (hG:G w)
  (hr:∀ w,G w->Calls Tryz.prog 166 #[.string s] w fun e w'=>e=.returned (.tuple #[.agg #[.int .i64 k,.int .i64 v,.string x],.bool true])/\Below w.heap.size w w') (hc:chkV k v x=1) :
  Calls Tryz.prog 150 #[.string s] w fun e w'=>e=.returned (.tuple #[.agg #[.int .i64 0,.int .i64 0,.string ⟨#[]⟩],.int .i64 10])/\Below w.heap.size w w':=by
 have htx:=text_any k v x
 generalize textB k v x=tt at htx
 rw [hc] at htx
 clear hc
 go_enter Tryz.func150,Tryz.ntmps150
 go_wp2_with (first
  | (go_at_call 166;refine (hr _ (by exact G_alloc hG _)).mono ?_;rintro e w1 ⟨rfl,hb⟩;obtain ⟨hcell,hfr⟩:=bcell hb;simp at hcell hfr;have hz:w.heap.size < w1.heap.size:=(by have:=hb.size;simp at this;omega))
  | (go_at_call 117;refine (htx _ (by exact G_alloc (G_below (G_alloc hG _) hb) _)).mono ?_;rintro e w2 ⟨rfl,hb2⟩;obtain ⟨hcell2,hfr2⟩:=bcell hb2;simp at hcell2 hfr2;have hz2:w.heap.size < w1.heap.size + 1:=(by omega)))
 refine bodyPost_ret (v:=.tuple #[.agg #[.int .i64 0,.int .i64 0,.string ⟨#[]⟩],.int .i64 10]) (by simp [results,Tryz.results150,go_sem,hcell,hcell2,hz,hz2]) rfl ⟨rfl, ?_⟩
 exact below_st3 (below_sub (below_sub hb ((Below.refl _ _).alloc (Nat.le_refl _) _)) hb2) _ _ _
set_option maxHeartbeats 400000 in
theorem parse_miss (s:ByteArray) (k:Int) (x:ByteArray) (w:World) (hG:G w)
  (hr:∀ w,G w->Calls Tryz.prog 166 #[.string s] w fun e w'=>(∃ v,e=.returned (.tuple #[.agg #[.int .i64 k,.int .i64 v,.string x],.bool false]))/\Below w.heap.size w w') :
  Calls Tryz.prog 150 #[.string s] w fun e w'=>e=.returned (.tuple #[.agg #[.int .i64 0,.int .i64 0,.string ⟨#[]⟩],.int .i64 10])/\Below w.heap.size w w':=by
 go_enter Tryz.func150,Tryz.ntmps150
 go_wp2_with (go_at_call 166;refine (hr _ (by exact G_alloc hG _)).mono ?_;rintro e w1 ⟨⟨v,rfl⟩,hb⟩;obtain ⟨hcell,hfr⟩:=bcell hb;simp at hcell hfr;have hz:w.heap.size < w1.heap.size:=(by have:=hb.size;simp at this;omega))
 refine bodyPost_ret (v:=.tuple #[.agg #[.int .i64 0,.int .i64 0,.string ⟨#[]⟩],.int .i64 10]) (by simp [results,Tryz.results150,go_sem,hcell,hz]) rfl ⟨rfl, ?_⟩
 exact (below_st3 hb _ _ _).alloc (below_st3 hb _ _ _).size _
theorem bytes_of_size {s:ByteArray} (h:s.size=0):s=⟨#[]⟩:=by
 apply WideShapes.bytes_inj
 have:s.data.toList=[]:=by rw [<- List.length_eq_zero_iff];simpa using h
 rw [this]
theorem bytes_list (s:ByteArray):(⟨s.data.toList.toArray⟩:ByteArray)=s:=by simp
/-- A value in form is read back from its text. -/
theorem parse_text (k n:Int) (s:ByteArray) (hc:chkV k n s=0) (w:World) (hG:G w) :
  Calls Tryz.prog 150 #[.string (textB k n s)] w fun e w'=>e=.returned (.tuple #[.agg #[.int .i64 k,.int .i64 n,.string s],.int .i64 0])/\Below w.heap.size w w':=by
 rcases chk_range hc with ⟨rfl,h1,h2,h3⟩ | ⟨rfl,rfl,h3⟩
 ·obtain rfl:=bytes_of_size h3
  have ht:textB 1 n ⟨#[]⟩=itoaB n:=by unfold textB;rw [if_pos hc,if_neg (by decide)]
  have hl:(itoaB n).data.toList=Lib.itoa n:=rfl
  have hlen:=itoa_len n (by omega) (by omega)
  have hsz:(itoaB n).size<=21:=by
   have:(itoaB n).size=(Lib.itoa n).length:=by simp [itoaB,ByteArray.size]
   omega
  refine parse_hit _ 1 n ⟨#[]⟩ w hG (fun w _=>?_) rfl hc
  rw [ht]
  exact read_num _ n w (by rw [hl];exact itoa_noquote n) (by omega) (by rw [hl];exact atoi_itoa n (by omega) (by omega))
 ·have ht:textB 2 0 s=quoteB s:=by unfold textB;rw [if_pos hc,if_pos rfl]
  have hl:(quoteB s).data.toList=quoteL s.data.toList:=rfl
  have hsz:(quoteB s).size<=1000:=by
   have e:(quoteB s).size=(quoteL s.data.toList).length:=by simp [quoteB,ByteArray.size]
   have:=escs_le s.data.toList
   simp only [Array.length_toList] at this
   have h4:s.data.size=s.size:=rfl
   simp only [quoteL,List.cons_append,List.length_cons,List.length_append,List.length_nil] at e
   omega
  refine parse_hit _ 2 0 s w hG (fun w _=>?_) rfl hc
  rw [ht]
  have:=read_word (quoteB s) s.data.toList w hl (by omega)
  rw [bytes_list] at this
  exact this
end Go.Proofs.YtdgoibnndfibnaaGreatDoor
