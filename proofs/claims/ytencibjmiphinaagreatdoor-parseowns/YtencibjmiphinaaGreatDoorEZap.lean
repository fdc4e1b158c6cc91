/- The loose reading of a quoted text: the plain function, and that it undoes Quote. -/
import Derived.Test.YtencibjmiphinaaGreatDoorELxUnquote
import Derived.Test.YtencibjmiphinaaGreatDoorEZan
namespace Go.Proofs.YtencibjmiphinaaGreatDoor.Lx
open Go.RowKit
/-- A hexadecimal digit's number, else 0. -/
def dig (c:UInt8):UInt8:=if 0<=idx c then UInt8.ofNat (idx c).toNat else 0
/-- The loose reading of what is left, the closing mark with it. -/
def lo:Nat->List UInt8->List UInt8
  | 0,_=>[]
  | f + 1,c0 :: c1 :: r =>
    if c0=92 then
      match r with
      | c2 :: c3 :: r4=>if c1=120 then (dig c2 * 16 + dig c3) :: lo f r4 else c1 :: lo f r
      | _=>c1 :: lo f r
    else c0 :: lo f (c1 :: r)
  | _ + 1,_=>[]
end Go.Proofs.YtencibjmiphinaaGreatDoor.Lx
namespace Go.Proofs.YtencibjmiphinaaGreatDoor.Lx
open Go.RowKit
theorem drop_at (s:ByteArray) (k:Nat) (h:k < s.size):s.data.toList.drop k=s[k] :: s.data.toList.drop (k + 1):=by
 rw [List.drop_eq_getElem_cons (by simpa using h)];rfl
theorem idx_at (k:Nat) (hk:k < 16) (c:UInt8) (h:hexd k=c):dig c=UInt8.ofNat k:=by
 subst h;unfold dig;rw [hexd_idx k hk,if_pos (by omega)];simp
theorem dig_none (c:UInt8) (h:∀ k,k < 16->hexd k ≠ c):dig c=0:=by
 unfold dig
 by_cases h0:0<=idx c
 ·exfalso
  have:=idx_rng c
  exact h (idx c).toNat (by omega) (idx_hexd c h0).symm
 ·rw [if_neg h0]
set_option maxHeartbeats 400000 in
theorem digit_any (c:UInt8) (w:World) :
  Calls Tryz.prog 159 #[.int .u8 (c.toNat:Int)] w fun e w'=>e=.returned (.int .u8 ((dig c).toNat:Int))/\w'=w:=by
 go_enter Tryz.func159,Tryz.ntmps159
 go_wp2
 go_loop [3] (fun i=>∃ k:Nat,k<=16/\i=.int .i64 k/\∀ j,j < k->hexd j ≠ c) (fun i=>16 - (intOf i).toNat)
 case atStart=>exact ⟨0,by omega,rfl,fun j h=>by omega⟩
 case round =>
  obtain ⟨k,hk,rfl,hz⟩:=hrel
  have Hz:=hide hz
  clear hz
  by_cases hlt:k < 16
  ·have k0:(0:Int)<=(k:Int):=by omega
   have k1:(k:Int) < 16:=by omega
   have hx:∀ h,(ByteArray.mk #[48,49,50,51,52,53,54,55,56,57,97,98,99,100,101,102])[k]'h=hexd k:=fun h=>hexAt k h
   by_cases hc:hexd k=c
   ·have hd:(((hexd k).toNat:Int) == (c.toNat:Int))=true:=by simp [hc]
    have Hf:=hide (idx_at k hlt c hc)
    clear hc
    go_wp2
    go_ret
    exact ⟨ret_int (by rw [uh Hf,UInt8.toNat_ofNat',Nat.mod_eq_of_lt (by omega)]),rfl⟩
   ·have hd:(((hexd k).toNat:Int) == (c.toNat:Int))=false:=by
     rw [beq_eq_false_iff_ne];intro e;exact hc (UInt8.toNat_inj.1 (by omega))
    have Hc:=hide hc
    clear hc
    go_wp2
    go_round
    case rel=>exact ⟨k + 1,by omega,by go_num,fun j hj=>by
     by_cases e:j=k
     ·rw [e];exact uh Hc
     ·exact uh Hz j (by omega)⟩
    case measure=>simp [intOf];omega
  ·have Hf:=hide (dig_none c (fun j hj=>uh Hz j (by omega)))
   go_wp2
   go_ret
   exact ⟨ret_int (by rw [uh Hf];rfl),rfl⟩
end Go.Proofs.YtencibjmiphinaaGreatDoor.Lx
namespace Go.Proofs.YtencibjmiphinaaGreatDoor.Lx
open Go.RowKit
theorem quoteL_inj {l t:List UInt8} (h:quoteL l=quoteL t):l=t:=by
 unfold quoteL at h
 simp only [List.cons_append,List.cons.injEq,true_and] at h
 exact escs_inj (List.append_cancel_right h)
theorem unq_yes (s:ByteArray) (t:List UInt8) (ht:s.data.toList=quoteL t) (w:World) (hmax:s.size<=100000000000000) :
  Calls Tryz.prog 152 #[.string s] w fun e w'=>e=.returned (.tuple #[.string ⟨t.toArray⟩,.int .i64 0])/\Below w.heap.size w w' :=
 (unquote_any s w hmax).mono fun e w' ⟨he,hb⟩=>⟨by
  rcases he with ⟨t',ht',he⟩ | ⟨hno,_⟩
  ·rw [quoteL_inj (ht.symm.trans ht')];exact he
  ·exact absurd ht (hno t),hb⟩
theorem unq_no (s:ByteArray) (hno:∀ t,s.data.toList ≠ quoteL t) (w:World) (hmax:s.size<=100000000000000) :
  Calls Tryz.prog 152 #[.string s] w fun e w'=>e=.returned (.tuple #[.string ⟨#[]⟩,.int .i64 10])/\Below w.heap.size w w' :=
 (unquote_any s w hmax).mono fun e w' ⟨he,hb⟩=>⟨by
  rcases he with ⟨t',ht',_⟩ | ⟨_,he⟩
  ·exact absurd ht' (hno t')
  ·exact he,hb⟩
set_option maxHeartbeats 400000 in
theorem read_word (s:ByteArray) (t:List UInt8) (w:World) (ht:s.data.toList=quoteL t) (hmax:s.size<=100000000000000) :
  Calls Tryz.prog 137 #[.string s] w fun e w'=>e=.returned (.tuple #[.agg #[.int .i64 2,.int .i64 0,.string ⟨t.toArray⟩],.bool true])/\Below w.heap.size w w':=by
 have hpre:=Tryz.strings_HasPrefix s ⟨#[34]⟩
 rw [show (ByteArray.mk #[34]).data.toList=[34] from rfl,ht,quote_quote] at hpre
 have hq:=fun w=>unq_yes s t ht w hmax
 clear ht
 go_enter Tryz.func137,Tryz.ntmps137
 go_wp2_with (first
  | (go_at_call 151;refine (hpre _).mono ?_;rintro e w' ⟨rfl,rfl⟩)
  | (go_at_call 152;refine (hq _).mono ?_;rintro e w1 ⟨rfl,hb⟩;obtain ⟨hcell,hfr⟩:=bcell hb;simp at hcell hfr))
 refine bodyPost_ret (v:=.tuple #[.agg #[.int .i64 2,.int .i64 0,.string ⟨t.toArray⟩],.bool true]) (by simp [results,Tryz.results137,go_sem,hcell]) rfl ⟨rfl, ?_⟩
 exact below_st3 hb _ _ _
set_option maxHeartbeats 400000 in
theorem read_noword (s:ByteArray) (w:World) (hp:Lib.hasPrefix s.data.toList [34]=true) (hno:∀ t,s.data.toList ≠ quoteL t) (hmax:s.size<=100000000000000) :
  Calls Tryz.prog 137 #[.string s] w fun e w'=>e=.returned (.tuple #[.agg #[.int .i64 2,.int .i64 0,.string ⟨#[]⟩],.bool false])/\Below w.heap.size w w':=by
 have hpre:=Tryz.strings_HasPrefix s ⟨#[34]⟩
 rw [show (ByteArray.mk #[34]).data.toList=[34] from rfl,hp] at hpre
 have hq:=fun w=>unq_no s hno w hmax
 clear hno hp
 go_enter Tryz.func137,Tryz.ntmps137
 go_wp2_with (first
  | (go_at_call 151;refine (hpre _).mono ?_;rintro e w' ⟨rfl,rfl⟩)
  | (go_at_call 152;refine (hq _).mono ?_;rintro e w1 ⟨rfl,hb⟩;obtain ⟨hcell,hfr⟩:=bcell hb;simp at hcell hfr))
 refine bodyPost_ret (v:=.tuple #[.agg #[.int .i64 2,.int .i64 0,.string ⟨#[]⟩],.bool false]) (by simp [results,Tryz.results137,go_sem,hcell]) rfl ⟨rfl, ?_⟩
 exact below_st3 hb _ _ _
set_option maxHeartbeats 400000 in
theorem parse_hit (s:ByteArray) (k v:Int) (x:ByteArray) (w:World) (hG:G w)
  (hr:∀ w,G w->Calls Tryz.prog 137 #[.string s] w fun e w'=>e=.returned (.tuple #[.agg #[.int .i64 k,.int .i64 v,.string x],.bool true])/\Below w.heap.size w w') (ht:textB k v x=s) (hc:chkV k v x=0) :
  Calls Tryz.prog 116 #[.string s] w fun e w'=>e=.returned (.tuple #[.agg #[.int .i64 k,.int .i64 v,.string x],.int .i64 0])/\Below w.heap.size w w':=by
 have htx:=text_any k v x
 rw [ht,hc] at htx
 clear ht hc
 go_enter Tryz.func116,Tryz.ntmps116
 go_wp2_with (first
  | (go_at_call 137;refine (hr _ (by exact G_alloc hG _)).mono ?_;rintro e w1 ⟨rfl,hb⟩;obtain ⟨hcell,hfr⟩:=bcell hb;simp at hcell hfr;have hz:w.heap.size < w1.heap.size:=(by have:=hb.size;simp at this;omega))
  | (go_at_call 135;refine (htx _ (by exact G_alloc (G_below (G_alloc hG _) hb) _)).mono ?_;rintro e w2 ⟨rfl,hb2⟩;obtain ⟨hcell2,hfr2⟩:=bcell hb2;simp at hcell2 hfr2;have hz2:w.heap.size < w1.heap.size + 1:=(by omega)))
 refine bodyPost_ret (v:=.tuple #[.agg #[.int .i64 k,.int .i64 v,.string x],.int .i64 0]) (by simp [results,Tryz.results116,go_sem,hcell,hcell2,hz,hz2]) rfl ⟨rfl, ?_⟩
 exact below_st3 (below_sub (below_sub hb ((Below.refl _ _).alloc (Nat.le_refl _) _)) hb2) _ _ _
set_option maxHeartbeats 400000 in
theorem parse_form (s:ByteArray) (k v:Int) (x:ByteArray) (w:World) (hG:G w)
  (hr:∀ w,G w->Calls Tryz.prog 137 #[.string s] w fun e w'=>e=.returned (.tuple #[.agg #[.int .i64 k,.int .i64 v,.string x],.bool true])/\Below w.heap.size w w') (hc:chkV k v x=1) :
  Calls Tryz.prog 116 #[.string s] w fun e w'=>e=.returned (.tuple #[.agg #[.int .i64 0,.int .i64 0,.string ⟨#[]⟩],.int .i64 10])/\Below w.heap.size w w':=by
 have htx:=text_any k v x
 generalize textB k v x=tt at htx
 rw [hc] at htx
 clear hc
 go_enter Tryz.func116,Tryz.ntmps116
 go_wp2_with (first
  | (go_at_call 137;refine (hr _ (by exact G_alloc hG _)).mono ?_;rintro e w1 ⟨rfl,hb⟩;obtain ⟨hcell,hfr⟩:=bcell hb;simp at hcell hfr;have hz:w.heap.size < w1.heap.size:=(by have:=hb.size;simp at this;omega))
  | (go_at_call 135;refine (htx _ (by exact G_alloc (G_below (G_alloc hG _) hb) _)).mono ?_;rintro e w2 ⟨rfl,hb2⟩;obtain ⟨hcell2,hfr2⟩:=bcell hb2;simp at hcell2 hfr2;have hz2:w.heap.size < w1.heap.size + 1:=(by omega)))
 refine bodyPost_ret (v:=.tuple #[.agg #[.int .i64 0,.int .i64 0,.string ⟨#[]⟩],.int .i64 10]) (by simp [results,Tryz.results116,go_sem,hcell,hcell2,hz,hz2]) rfl ⟨rfl, ?_⟩
 exact below_st3 (below_sub (below_sub hb ((Below.refl _ _).alloc (Nat.le_refl _) _)) hb2) _ _ _
set_option maxHeartbeats 400000 in
theorem parse_miss (s:ByteArray) (k:Int) (x:ByteArray) (w:World) (hG:G w)
  (hr:∀ w,G w->Calls Tryz.prog 137 #[.string s] w fun e w'=>(∃ v,e=.returned (.tuple #[.agg #[.int .i64 k,.int .i64 v,.string x],.bool false]))/\Below w.heap.size w w') :
  Calls Tryz.prog 116 #[.string s] w fun e w'=>e=.returned (.tuple #[.agg #[.int .i64 0,.int .i64 0,.string ⟨#[]⟩],.int .i64 10])/\Below w.heap.size w w':=by
 go_enter Tryz.func116,Tryz.ntmps116
 go_wp2_with (go_at_call 137;refine (hr _ (by exact G_alloc hG _)).mono ?_;rintro e w1 ⟨⟨v,rfl⟩,hb⟩;obtain ⟨hcell,hfr⟩:=bcell hb;simp at hcell hfr;have hz:w.heap.size < w1.heap.size:=(by have:=hb.size;simp at this;omega))
 refine bodyPost_ret (v:=.tuple #[.agg #[.int .i64 0,.int .i64 0,.string ⟨#[]⟩],.int .i64 10]) (by simp [results,Tryz.results116,go_sem,hcell,hz]) rfl ⟨rfl, ?_⟩
 exact (below_st3 hb _ _ _).alloc (below_st3 hb _ _ _).size _
theorem bytes_of_size {s:ByteArray} (h:s.size=0):s=⟨#[]⟩:=by
 apply WideShapes.bytes_inj
 have:s.data.toList=[]:=by rw [<- List.length_eq_zero_iff];simpa using h
 rw [this]
theorem bytes_list (s:ByteArray):(⟨s.data.toList.toArray⟩:ByteArray)=s:=by simp
/-- A value in form is read back from its text. -/
theorem parse_text (k n:Int) (s:ByteArray) (hc:chkV k n s=0) (w:World) (hG:G w) :
    Calls Tryz.prog 116 #[.string (textB k n s)] w fun e w'=>e=.returned (.tuple #[.agg #[.int .i64 k,.int .i64 n,.string s],.int .i64 0])/\Below w.heap.size w w':=by
  rcases chk_range hc with ⟨rfl,h1,h2,h3⟩ | ⟨rfl,rfl,h3⟩
  · obtain rfl:=bytes_of_size h3
    have ht:textB 1 n ⟨#[]⟩=itoaB n:=by unfold textB;rw [if_pos hc,if_neg (by decide)]
    have hl:(itoaB n).data.toList=Lib.itoa n:=rfl
    have hlen:=itoa_len n (by omega) (by omega)
    have hsz:(itoaB n).size<=21:=by
      have:(itoaB n).size=(Lib.itoa n).length:=by simp [itoaB,ByteArray.size]
      omega
    refine parse_hit _ 1 n ⟨#[]⟩ w hG (fun w _=>?_) rfl hc
    rw [ht]
    exact read_num _ n w (by rw [hl];exact itoa_noquote n) (by omega) (by rw [hl];exact atoi_itoa n (by omega) (by omega))
  · have ht:textB 2 0 s=quoteB s:=by unfold textB;rw [if_pos hc,if_pos rfl]
    have hl:(quoteB s).data.toList=quoteL s.data.toList:=rfl
    have hsz:(quoteB s).size<=1000:=by
      have e:(quoteB s).size=(quoteL s.data.toList).length:=by simp [quoteB,ByteArray.size]
      have:=escs_le s.data.toList
      simp only [Array.length_toList] at this
      have h4:s.data.size=s.size:=rfl
      simp only [quoteL,List.cons_append,List.length_cons,List.length_append,List.length_nil] at e
      omega
    refine parse_hit _ 2 0 s w hG (fun w _=>?_) rfl hc
    rw [ht]
    have:=read_word (quoteB s) s.data.toList w hl (by omega)
    rw [bytes_list] at this
    exact this
end Go.Proofs.YtencibjmiphinaaGreatDoor.Lx
