/- What value.Parse returns, for every text. -/
import Derived.Test.YtencibjmiphinaaGreatDoorEZan
import Derived.Test.YtencibjmiphinaaGreatDoorEZam
import Derived.Test.YtencibjmiphinaaGreatDoorEZao
namespace Go.Proofs.YtencibjmiphinaaGreatDoor.Lx
open Go.RowKit

theorem quoteL_inj {l t:List UInt8} (h:quoteL l=quoteL t):l=t:=by
 unfold quoteL at h
 simp only [List.cons_append,List.cons.injEq,true_and] at h
 exact escs_inj (List.append_cancel_right h)
theorem unq_yes (s:ByteArray) (t:List UInt8) (ht:s.data.toList=quoteL t) (w:World) (hmax:s.size≤100000000000000) :
  Calls Tryz.prog 152 #[.string s] w fun e w'=>e=.returned (.tuple #[.string ⟨t.toArray⟩,.int .i64 0])∧Below w.heap.size w w' :=
 (unquote_any s w hmax).mono fun e w' ⟨he,hb⟩=>⟨by
  rcases he with ⟨t',ht',he⟩ | ⟨hno,_⟩
  ·rw [quoteL_inj (ht.symm.trans ht')];exact he
  ·exact absurd ht (hno t),hb⟩
theorem unq_no (s:ByteArray) (hno:∀ t,s.data.toList ≠ quoteL t) (w:World) (hmax:s.size≤100000000000000) :
  Calls Tryz.prog 152 #[.string s] w fun e w'=>e=.returned (.tuple #[.string ⟨#[]⟩,.int .i64 10])∧Below w.heap.size w w' :=
 (unquote_any s w hmax).mono fun e w' ⟨he,hb⟩=>⟨by
  rcases he with ⟨t',ht',_⟩ | ⟨_,he⟩
  ·exact absurd ht' (hno t')
  ·exact he,hb⟩

set_option maxHeartbeats 400000 in
theorem read_word (s:ByteArray) (t:List UInt8) (w:World) (ht:s.data.toList=quoteL t) (hmax:s.size≤100000000000000) :
  Calls Tryz.prog 137 #[.string s] w fun e w'=>e=.returned (.tuple #[.agg #[.int .i64 2,.int .i64 0,.string ⟨t.toArray⟩],.bool true])∧Below w.heap.size w w':=by
 have hpre:=Tryz.strings_HasPrefix s ⟨#[34]⟩
 rw [show (ByteArray.mk #[34]).data.toList=[34] from rfl,ht,quote_quote] at hpre
 have hq:=fun w=>unq_yes s t ht w hmax
 clear ht
 go_enter Tryz.func137,Tryz.ntmps137
 go_wp2_with (first
  | (go_at_call 151;refine (hpre _).mono ?_;rintro e w' ⟨rfl,rfl⟩)
  | (go_at_call 152;refine (hq _).mono ?_;rintro e w1 ⟨rfl,hb⟩;obtain ⟨hcell,hfr⟩:=bcell hb;simp at hcell hfr))
 refine bodyPost_ret (v:=.tuple #[.agg #[.int .i64 2,.int .i64 0,.string ⟨t.toArray⟩],.bool true]) (by simp [results,Tryz.results137,go_sem,hcell]) rfl ⟨rfl, ?_⟩
 exact below_st3 hb _ _ _

set_option maxHeartbeats 400000 in
theorem read_noword (s:ByteArray) (w:World) (hp:Lib.hasPrefix s.data.toList [34]=true) (hno:∀ t,s.data.toList ≠ quoteL t) (hmax:s.size≤100000000000000) :
  Calls Tryz.prog 137 #[.string s] w fun e w'=>e=.returned (.tuple #[.agg #[.int .i64 2,.int .i64 0,.string ⟨#[]⟩],.bool false])∧Below w.heap.size w w':=by
 have hpre:=Tryz.strings_HasPrefix s ⟨#[34]⟩
 rw [show (ByteArray.mk #[34]).data.toList=[34] from rfl,hp] at hpre
 have hq:=fun w=>unq_no s hno w hmax
 clear hno hp
 go_enter Tryz.func137,Tryz.ntmps137
 go_wp2_with (first
  | (go_at_call 151;refine (hpre _).mono ?_;rintro e w' ⟨rfl,rfl⟩)
  | (go_at_call 152;refine (hq _).mono ?_;rintro e w1 ⟨rfl,hb⟩;obtain ⟨hcell,hfr⟩:=bcell hb;simp at hcell hfr))
 refine bodyPost_ret (v:=.tuple #[.agg #[.int .i64 2,.int .i64 0,.string ⟨#[]⟩],.bool false]) (by simp [results,Tryz.results137,go_sem,hcell]) rfl ⟨rfl, ?_⟩
 exact below_st3 hb _ _ _

set_option maxHeartbeats 400000 in
theorem parse_hit (s:ByteArray) (k v:Int) (x:ByteArray) (w:World) (hG:G w)
  (hr:∀ w,G w→Calls Tryz.prog 137 #[.string s] w fun e w'=>e=.returned (.tuple #[.agg #[.int .i64 k,.int .i64 v,.string x],.bool true])∧Below w.heap.size w w') (ht:textB k v x=s) (hc:chkV k v x=0) :
  Calls Tryz.prog 116 #[.string s] w fun e w'=>e=.returned (.tuple #[.agg #[.int .i64 k,.int .i64 v,.string x],.int .i64 0])∧Below w.heap.size w w':=by
 have htx:=text_any k v x
 rw [ht,hc] at htx
 clear ht hc
 go_enter Tryz.func116,Tryz.ntmps116
 go_wp2_with (first
  | (go_at_call 137;refine (hr _ (by exact G_alloc hG _)).mono ?_;rintro e w1 ⟨rfl,hb⟩;obtain ⟨hcell,hfr⟩:=bcell hb;simp at hcell hfr;have hz:w.heap.size < w1.heap.size:=(by have:=hb.size;simp at this;omega))
  | (go_at_call 135;refine (htx _ (by exact G_alloc (G_below (G_alloc hG _) hb) _)).mono ?_;rintro e w2 ⟨rfl,hb2⟩;obtain ⟨hcell2,hfr2⟩:=bcell hb2;simp at hcell2 hfr2;have hz2:w.heap.size < w1.heap.size + 1:=(by omega)))
 refine bodyPost_ret (v:=.tuple #[.agg #[.int .i64 k,.int .i64 v,.string x],.int .i64 0]) (by simp [results,Tryz.results116,go_sem,hcell,hcell2,hz,hz2]) rfl ⟨rfl, ?_⟩
 exact below_st3 (below_sub (below_sub hb ((Below.refl _ _).alloc (Nat.le_refl _) _)) hb2) _ _ _

set_option maxHeartbeats 400000 in
theorem parse_form (s:ByteArray) (k v:Int) (x:ByteArray) (w:World) (hG:G w)
  (hr:∀ w,G w→Calls Tryz.prog 137 #[.string s] w fun e w'=>e=.returned (.tuple #[.agg #[.int .i64 k,.int .i64 v,.string x],.bool true])∧Below w.heap.size w w') (hc:chkV k v x=1) :
  Calls Tryz.prog 116 #[.string s] w fun e w'=>e=.returned (.tuple #[.agg #[.int .i64 0,.int .i64 0,.string ⟨#[]⟩],.int .i64 10])∧Below w.heap.size w w':=by
 have htx:=text_any k v x
 generalize textB k v x=tt at htx
 rw [hc] at htx
 clear hc
 go_enter Tryz.func116,Tryz.ntmps116
 go_wp2_with (first
  | (go_at_call 137;refine (hr _ (by exact G_alloc hG _)).mono ?_;rintro e w1 ⟨rfl,hb⟩;obtain ⟨hcell,hfr⟩:=bcell hb;simp at hcell hfr;have hz:w.heap.size < w1.heap.size:=(by have:=hb.size;simp at this;omega))
  | (go_at_call 135;refine (htx _ (by exact G_alloc (G_below (G_alloc hG _) hb) _)).mono ?_;rintro e w2 ⟨rfl,hb2⟩;obtain ⟨hcell2,hfr2⟩:=bcell hb2;simp at hcell2 hfr2;have hz2:w.heap.size < w1.heap.size + 1:=(by omega)))
 refine bodyPost_ret (v:=.tuple #[.agg #[.int .i64 0,.int .i64 0,.string ⟨#[]⟩],.int .i64 10]) (by simp [results,Tryz.results116,go_sem,hcell,hcell2,hz,hz2]) rfl ⟨rfl, ?_⟩
 exact below_st3 (below_sub (below_sub hb ((Below.refl _ _).alloc (Nat.le_refl _) _)) hb2) _ _ _

set_option maxHeartbeats 400000 in
theorem parse_miss (s:ByteArray) (k:Int) (x:ByteArray) (w:World) (hG:G w)
  (hr:∀ w,G w→Calls Tryz.prog 137 #[.string s] w fun e w'=>(∃ v,e=.returned (.tuple #[.agg #[.int .i64 k,.int .i64 v,.string x],.bool false]))∧Below w.heap.size w w') :
  Calls Tryz.prog 116 #[.string s] w fun e w'=>e=.returned (.tuple #[.agg #[.int .i64 0,.int .i64 0,.string ⟨#[]⟩],.int .i64 10])∧Below w.heap.size w w':=by
 go_enter Tryz.func116,Tryz.ntmps116
 go_wp2_with (go_at_call 137;refine (hr _ (by exact G_alloc hG _)).mono ?_;rintro e w1 ⟨⟨v,rfl⟩,hb⟩;obtain ⟨hcell,hfr⟩:=bcell hb;simp at hcell hfr;have hz:w.heap.size < w1.heap.size:=(by have:=hb.size;simp at this;omega))
 refine bodyPost_ret (v:=.tuple #[.agg #[.int .i64 0,.int .i64 0,.string ⟨#[]⟩],.int .i64 10]) (by simp [results,Tryz.results116,go_sem,hcell,hz]) rfl ⟨rfl, ?_⟩
 exact (below_st3 hb _ _ _).alloc (below_st3 hb _ _ _).size _

theorem bytes_of_size {s:ByteArray} (h:s.size=0):s=⟨#[]⟩:=by
 apply WideShapes.bytes_inj
 have:s.data.toList=[]:=by rw [← List.length_eq_zero_iff];simpa using h
 rw [this]
theorem bytes_list (s:ByteArray):(⟨s.data.toList.toArray⟩:ByteArray)=s:=by simp
/-- A value in form is read back from its text. -/
theorem parse_text (k n:Int) (s:ByteArray) (hc:chkV k n s=0) (w:World) (hG:G w) :
  Calls Tryz.prog 116 #[.string (textB k n s)] w fun e w'=>e=.returned (.tuple #[.agg #[.int .i64 k,.int .i64 n,.string s],.int .i64 0])∧Below w.heap.size w w':=by
 rcases chk_range hc with ⟨rfl,h1,h2,h3⟩ | ⟨rfl,rfl,h3⟩
 ·obtain rfl:=bytes_of_size h3
  have ht:textB 1 n ⟨#[]⟩=itoaB n:=by unfold textB;rw [if_pos hc,if_neg (by decide)]
  have hl:(itoaB n).data.toList=Lib.itoa n:=rfl
  have hlen:=itoa_len n (by omega) (by omega)
  have hsz:(itoaB n).size≤21:=by
   have:(itoaB n).size=(Lib.itoa n).length:=by simp [itoaB,ByteArray.size]
   omega
  refine parse_hit _ 1 n ⟨#[]⟩ w hG (fun w _=>?_) rfl hc
  rw [ht]
  exact read_num _ n w (by rw [hl];exact itoa_noquote n) (by omega) (by rw [hl];exact atoi_itoa n (by omega) (by omega))
 ·have ht:textB 2 0 s=quoteB s:=by unfold textB;rw [if_pos hc,if_pos rfl]
  have hl:(quoteB s).data.toList=quoteL s.data.toList:=rfl
  have hsz:(quoteB s).size≤1000:=by
   have e:(quoteB s).size=(quoteL s.data.toList).length:=by simp [quoteB,ByteArray.size]
   have:=escs_le s.data.toList
   simp only [Array.length_toList] at this
   have h4:s.data.size=s.size:=rfl
   simp only [quoteL,List.cons_append,List.length_cons,List.length_append,List.length_nil] at e
   omega
  refine parse_hit _ 2 0 s w hG (fun w _=>?_) rfl hc
  rw [ht]
  have:=read_word (quoteB s) s.data.toList w hl (by omega)
  rw [bytes_list] at this
  exact this
end Go.Proofs.YtencibjmiphinaaGreatDoor.Lx
namespace Go.Proofs.YtencibjmiphinaaGreatDoor.Lx
open Go.RowKit

theorem loose_len (s:ByteArray):(loL s.data.toList.tail).length≤s.size:=by
 have:=lo_len s.data.toList.tail.length s.data.toList.tail
 unfold loL
 simp only [List.length_tail,Array.length_toList] at this ⊢
 have h:s.data.size=s.size:=rfl
 omega
theorem toList_eq {a b:ByteArray} (h:a=b):(a.toList == b.toList)=true:=by subst h;simp
theorem loose_yes (s:ByteArray) (t:List UInt8) (ht:s.data.toList=quoteL t):loL s.data.toList.tail=t:=by
 rw [ht,← List.drop_one];exact loose_quote t

set_option maxHeartbeats 400000 in
theorem refUnq_yes (s:ByteArray) (t:List UInt8) (ht:s.data.toList=quoteL t) (w:World) (hmax:s.size≤100000000000) :
  Calls Tryz.prog 122 #[.string s] w fun e w'=>e=.returned (.tuple #[.string ⟨t.toArray⟩,.int .i64 0])∧Below w.heap.size w w':=by
 have hlo:=fun w=>loose_any s w hmax
 have hll:=loose_len s
 rw [loose_yes s t ht] at hlo hll
 have hsz:(⟨t.toArray⟩:ByteArray).size≤1000000000000:=by
  have:(⟨t.toArray⟩:ByteArray).size=t.length:=by simp [ByteArray.size]
  omega
 have hq:=fun w=>refQuote_any ⟨t.toArray⟩ w hsz
 have heq:quoteB ⟨t.toArray⟩=s:=WideShapes.bytes_inj (by rw [ht];rfl)
 rw [heq] at hq
 clear heq hsz hll ht
 go_enter Tryz.func122,Tryz.ntmps122
 go_wp2_with (first
  | (go_at_call 142;refine (hlo _).mono ?_;rintro e w1 ⟨rfl,hb⟩)
  | (go_at_call 143;refine (hq _).mono ?_;rintro e w2 ⟨rfl,hb2⟩))
 go_ret2
 exact ⟨rfl,below_sub hb hb2⟩

set_option maxHeartbeats 400000 in
theorem refUnq_no (s:ByteArray) (hno:∀ t,s.data.toList ≠ quoteL t) (w:World) (hmax:s.size≤100000000000) :
  Calls Tryz.prog 122 #[.string s] w fun e w'=>e=.returned (.tuple #[.string ⟨#[]⟩,.int .i64 10])∧Below w.heap.size w w':=by
 have hlo:=fun w=>loose_any s w hmax
 have hll:=loose_len s
 generalize loL s.data.toList.tail=t at hlo hll
 have hsz:(⟨t.toArray⟩:ByteArray).size≤1000000000000:=by
  have:(⟨t.toArray⟩:ByteArray).size=t.length:=by simp [ByteArray.size]
  omega
 have hq:=fun w=>refQuote_any ⟨t.toArray⟩ w hsz
 have hne:quoteB ⟨t.toArray⟩ ≠ s:=fun h=>hno t (by rw [← h];rfl)
 have hd:=toList_ne hne
 generalize quoteB ⟨t.toArray⟩=Q at hq hd
 clear hne hsz hll hno
 go_enter Tryz.func122,Tryz.ntmps122
 go_wp2_with (first
  | (go_at_call 142;refine (hlo _).mono ?_;rintro e w1 ⟨rfl,hb⟩)
  | (go_at_call 143;refine (hq _).mono ?_;rintro e w2 ⟨rfl,hb2⟩))
 go_ret2
 exact ⟨rfl,below_sub hb hb2⟩
end Go.Proofs.YtencibjmiphinaaGreatDoor.Lx
namespace Go.Proofs.YtencibjmiphinaaGreatDoor.Lx
open Go.RowKit

theorem itoa_inj {a b:Int} (ha:-2147483648≤a∧a≤2147483647) (hb:-2147483648≤b∧b≤2147483647) (h:Lib.itoa a=Lib.itoa b):a=b:=by
 have h1:=atoi_itoa a (by omega) (by omega)
 have h2:=atoi_itoa b (by omega) (by omega)
 rw [h,h2] at h1
 injection h1 with h1
 exact h1.symm
theorem num_yes (s:ByteArray) (n:Int) (h1:-2147483648≤n) (h2:n≤2147483647) (h:s.data.toList=Lib.itoa n) (w:World) (hmax:s.size≤1048576) :
  Calls Tryz.prog 96 #[.string s,.int .i64 (-2147483648),.int .i64 2147483647] w fun e w'=>e=.returned (.tuple #[.int .i64 n,.bool true])∧Below w.heap.size w w' :=
 (number_any s w hmax).mono fun e w' ⟨he,hb⟩=>⟨by
  rcases he with ⟨m,m1,m2,hm,he⟩ | ⟨hno,_⟩
  ·rw [itoa_inj ⟨h1,h2⟩ ⟨m1,m2⟩ (h.symm.trans hm)];exact he
  ·exact absurd ⟨n,h1,h2,h⟩ hno,hb⟩
theorem num_no (s:ByteArray) (hno:¬ Good s.data.toList) (w:World) (hmax:s.size≤1048576) :
  Calls Tryz.prog 96 #[.string s,.int .i64 (-2147483648),.int .i64 2147483647] w fun e w'=>e=.returned (.tuple #[.int .i64 0,.bool false])∧Below w.heap.size w w' :=
 (number_any s w hmax).mono fun e w' ⟨he,hb⟩=>⟨by
  rcases he with ⟨m,m1,m2,hm,_⟩ | ⟨_,he⟩
  ·exact absurd ⟨m,m1,m2,hm⟩ hno
  ·exact he,hb⟩
theorem quote_bad (t:List UInt8):¬ Good (quoteL t):=by
 rintro ⟨n,_,_,h⟩
 have h1:=quote_quote t
 rw [h,itoa_noquote] at h1
 simp at h1

set_option maxHeartbeats 400000 in
theorem refParse_word (s:ByteArray) (t:List UInt8) (ht:s.data.toList=quoteL t) (h64:t.length≤64) (w:World) (hmax:s.size≤1048576) :
  Calls Tryz.prog 98 #[.string s] w fun e w'=>e=.returned (.tuple #[.agg #[.int .i64 2,.int .i64 0,.string ⟨t.toArray⟩],.int .i64 0])∧Below w.heap.size w w':=by
 have hn:=fun w=>num_no s (by rw [ht];exact quote_bad t) w hmax
 have hu:=fun w=>refUnq_yes s t ht w (by omega)
 obtain ⟨x,hx⟩:∃ x:ByteArray,x=⟨t.toArray⟩:=⟨_,rfl⟩
 have hsz:(x.size:Int)≤64:=by
  have:(⟨t.toArray⟩:ByteArray).size=t.length:=by simp [ByteArray.size]
  rw [hx];omega
 rw [← hx] at hu ⊢
 clear ht h64 hx
 go_enter Tryz.func98,Tryz.ntmps98
 go_wp2_with (first
  | (go_at_call 96;refine (hn _).mono ?_;rintro e w1 ⟨rfl,hb⟩;obtain ⟨hcell,hfr⟩:=bcell hb;simp at hcell hfr;have hz:w.heap.size < w1.heap.size:=(by have:=hb.size;simp at this;omega))
  | (go_at_call 122;refine (hu _).mono ?_;rintro e w2 ⟨rfl,hb2⟩;obtain ⟨hcell2,hfr2⟩:=bcell hb2))
 refine bodyPost_ret (v:=.tuple #[.agg #[.int .i64 2,.int .i64 0,.string x],.int .i64 0]) (by simp [results,Tryz.results98,go_sem,hcell,hcell2,hz]) rfl ⟨rfl, ?_⟩
 exact below_st3 (below_sub hb hb2) _ _ _

set_option maxHeartbeats 400000 in
theorem refParse_long (s:ByteArray) (t:List UInt8) (ht:s.data.toList=quoteL t) (h64:¬ t.length≤64) (w:World) (hmax:s.size≤1048576) :
  Calls Tryz.prog 98 #[.string s] w fun e w'=>e=.returned (.tuple #[.agg #[.int .i64 0,.int .i64 0,.string ⟨#[]⟩],.int .i64 10])∧Below w.heap.size w w':=by
 have hn:=fun w=>num_no s (by rw [ht];exact quote_bad t) w hmax
 have hu:=fun w=>refUnq_yes s t ht w (by omega)
 obtain ⟨x,hx⟩:∃ x:ByteArray,x=⟨t.toArray⟩:=⟨_,rfl⟩
 have hsz:(64:Int) < (x.size:Int):=by
  have:(⟨t.toArray⟩:ByteArray).size=t.length:=by simp [ByteArray.size]
  rw [hx];omega
 rw [← hx] at hu
 clear ht h64 hx
 go_enter Tryz.func98,Tryz.ntmps98
 go_wp2_with (first
  | (go_at_call 96;refine (hn _).mono ?_;rintro e w1 ⟨rfl,hb⟩;obtain ⟨hcell,hfr⟩:=bcell hb;simp at hcell hfr;have hz:w.heap.size < w1.heap.size:=(by have:=hb.size;simp at this;omega))
  | (go_at_call 122;refine (hu _).mono ?_;rintro e w2 ⟨rfl,hb2⟩;obtain ⟨hcell2,hfr2⟩:=bcell hb2))
 refine bodyPost_ret (v:=.tuple #[.agg #[.int .i64 0,.int .i64 0,.string ⟨#[]⟩],.int .i64 10]) (by simp [results,Tryz.results98,go_sem,hcell,hcell2,hz]) rfl ⟨rfl, ?_⟩
 exact below_st3 (below_sub hb hb2) _ _ _

set_option maxHeartbeats 400000 in
theorem refParse_none (s:ByteArray) (hg:¬ Good s.data.toList) (hno:∀ t,s.data.toList ≠ quoteL t) (w:World) (hmax:s.size≤1048576) :
  Calls Tryz.prog 98 #[.string s] w fun e w'=>e=.returned (.tuple #[.agg #[.int .i64 0,.int .i64 0,.string ⟨#[]⟩],.int .i64 10])∧Below w.heap.size w w':=by
 have hn:=fun w=>num_no s hg w hmax
 have hu:=fun w=>refUnq_no s hno w (by omega)
 clear hg hno
 go_enter Tryz.func98,Tryz.ntmps98
 go_wp2_with (first
  | (go_at_call 96;refine (hn _).mono ?_;rintro e w1 ⟨rfl,hb⟩;obtain ⟨hcell,hfr⟩:=bcell hb;simp at hcell hfr;have hz:w.heap.size < w1.heap.size:=(by have:=hb.size;simp at this;omega))
  | (go_at_call 122;refine (hu _).mono ?_;rintro e w2 ⟨rfl,hb2⟩;obtain ⟨hcell2,hfr2⟩:=bcell hb2))
 refine bodyPost_ret (v:=.tuple #[.agg #[.int .i64 0,.int .i64 0,.string ⟨#[]⟩],.int .i64 10]) (by simp [results,Tryz.results98,go_sem,hcell,hcell2,hz]) rfl ⟨rfl, ?_⟩
 exact below_st3 (below_sub hb hb2) _ _ _

/-- The program's Parse at a text that is no value's. -/
theorem parse_none (s:ByteArray) (hg:¬ Good s.data.toList) (hno:∀ t:List UInt8,t.length≤64→s.data.toList ≠ quoteL t) (w:World) (hG:G w) (hmax:s.size≤1048576) :
  Calls Tryz.prog 116 #[.string s] w fun e w'=>e=.returned (.tuple #[.agg #[.int .i64 0,.int .i64 0,.string ⟨#[]⟩],.int .i64 10])∧Below w.heap.size w w':=by
 cases hp:Lib.hasPrefix s.data.toList [34]
 ·by_cases hat:∃ v,Lib.atoiAll s.data.toList=.ok v
  ·obtain ⟨v,hv⟩:=hat
   rcases chk_01 1 v ⟨#[]⟩ with hc | hc
   ·refine parse_wrong s v w hG hp (by omega) hv (fun ht=>hg ?_) hc
    rcases chk_range hc with ⟨_,h1,h2,_⟩ | ⟨h,_⟩
    ·refine ⟨v,h1,h2, ?_⟩
     rw [← ht]
     unfold textB
     rw [if_pos hc,if_neg (by decide)];rfl
    ·omega
   ·exact parse_form s 1 v ⟨#[]⟩ w hG (fun w _=>read_num s v w hp (by omega) hv) hc
  ·exact parse_miss s 1 ⟨#[]⟩ w hG (fun w hGw=>read_bad s w hGw hp (by omega) (fun v hv=>hat ⟨v,hv⟩))
 ·by_cases hq:∃ t,s.data.toList=quoteL t
  ·obtain ⟨t,ht⟩:=hq
   have h64:¬ t.length≤64:=fun h=>hno t h ht
   refine parse_form s 2 0 ⟨t.toArray⟩ w hG (fun w _=>read_word s t w ht (by omega)) ?_
   refine chk_no2 rfl fun h=>h64 ?_
   have:(⟨t.toArray⟩:ByteArray).size=t.length:=by simp [ByteArray.size]
   omega
  ·exact parse_miss s 2 ⟨#[]⟩ w hG (fun w _=>(read_noword s w hp (fun t ht=>hq ⟨t,ht⟩) (by omega)).mono fun e w' ⟨he,hb⟩=>⟨⟨0,he⟩,hb⟩)

end Go.Proofs.YtencibjmiphinaaGreatDoor.Lx
