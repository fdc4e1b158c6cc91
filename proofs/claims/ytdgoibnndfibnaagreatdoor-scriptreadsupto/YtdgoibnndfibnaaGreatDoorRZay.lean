/- The law ValueQuotes returns true at every text that is not too long. -/
import Derived.Test.YtdgoibnndfibnaaGreatDoorRZax
import Derived.Test.YtdgoibnndfibnaaGreatDoorRZac
import Derived.Test.YtdgoibnndfibnaaGreatDoorRZaw
namespace Go.Proofs.YtdgoibnndfibnaaGreatDoor
open Go.RowKit
theorem loose_len (s:ByteArray):(loL s.data.toList.tail).length<=s.size:=by
 have:=lo_len s.data.toList.tail.length s.data.toList.tail
 unfold loL
 simp only [List.length_tail,Array.length_toList] at this ⊢
 have h:s.data.size=s.size:=rfl
 omega
theorem toList_eq {a b:ByteArray} (h:a=b):(a.toList == b.toList)=true:=by subst h;simp
theorem loose_yes (s:ByteArray) (t:List UInt8) (ht:s.data.toList=quoteL t):loL s.data.toList.tail=t:=by
 rw [ht,<- List.drop_one];exact loose_quote t
set_option maxHeartbeats 400000 in
theorem refUnq_yes (s:ByteArray) (t:List UInt8) (ht:s.data.toList=quoteL t) (w:World) (hmax:s.size<=100000000000) :
  Calls Tryz.prog 76 #[.string s] w fun e w'=>e=.returned (.tuple #[.string ⟨t.toArray⟩,.int .i64 0])/\Below w.heap.size w w':=by
 have hlo:=fun w=>loose_any s w hmax
 have hll:=loose_len s
 rw [loose_yes s t ht] at hlo hll
 have hsz:(⟨t.toArray⟩:ByteArray).size<=1000000000000:=by
  have:(⟨t.toArray⟩:ByteArray).size=t.length:=by simp [ByteArray.size]
  omega
 have hq:=fun w=>refQuote_any ⟨t.toArray⟩ w hsz
 have heq:quoteB ⟨t.toArray⟩=s:=WideShapes.bytes_inj (by rw [ht];rfl)
 rw [heq] at hq
 clear heq hsz hll ht
 go_enter Tryz.func76,Tryz.ntmps76
 go_wp2_with (first
  | (go_at_call 105;refine (hlo _).mono ?_;rintro e w1 ⟨rfl,hb⟩)
  | (go_at_call 67;refine (hq _).mono ?_;rintro e w2 ⟨rfl,hb2⟩))
 go_ret2
 exact ⟨rfl,below_sub hb hb2⟩
set_option maxHeartbeats 400000 in
theorem refUnq_no (s:ByteArray) (hno:∀ t,s.data.toList ≠ quoteL t) (w:World) (hmax:s.size<=100000000000) :
  Calls Tryz.prog 76 #[.string s] w fun e w'=>e=.returned (.tuple #[.string ⟨#[]⟩,.int .i64 10])/\Below w.heap.size w w':=by
 have hlo:=fun w=>loose_any s w hmax
 have hll:=loose_len s
 generalize loL s.data.toList.tail=t at hlo hll
 have hsz:(⟨t.toArray⟩:ByteArray).size<=1000000000000:=by
  have:(⟨t.toArray⟩:ByteArray).size=t.length:=by simp [ByteArray.size]
  omega
 have hq:=fun w=>refQuote_any ⟨t.toArray⟩ w hsz
 have hne:quoteB ⟨t.toArray⟩ ≠ s:=fun h=>hno t (by rw [<- h];rfl)
 have hd:=toList_ne hne
 generalize quoteB ⟨t.toArray⟩=Q at hq hd
 clear hne hsz hll hno
 go_enter Tryz.func76,Tryz.ntmps76
 go_wp2_with (first
  | (go_at_call 105;refine (hlo _).mono ?_;rintro e w1 ⟨rfl,hb⟩)
  | (go_at_call 67;refine (hq _).mono ?_;rintro e w2 ⟨rfl,hb2⟩))
 go_ret2
 exact ⟨rfl,below_sub hb hb2⟩
end Go.Proofs.YtdgoibnndfibnaaGreatDoor
namespace Go.Proofs.YtdgoibnndfibnaaGreatDoor
open Go.RowKit
theorem itoa_injL {a b:Int} (ha:-2147483648<=a/\a<=2147483647) (hb:-2147483648<=b/\b<=2147483647) (h:Lib.itoa a=Lib.itoa b):a=b:=by
 have h1:=atoi_itoa a (by omega) (by omega)
 have h2:=atoi_itoa b (by omega) (by omega)
 rw [h,h2] at h1
 injection h1 with h1
 exact h1.symm
theorem num_yes (s:ByteArray) (n:Int) (h1:-2147483648<=n) (h2:n<=2147483647) (h:s.data.toList=Lib.itoa n) (w:World) (hmax:s.size<=1048576) :
  Calls Tryz.prog 128 #[.string s,.int .i64 (-2147483648),.int .i64 2147483647] w fun e w'=>e=.returned (.tuple #[.int .i64 n,.bool true])/\Below w.heap.size w w' :=
 (number_any s w hmax).mono fun e w' ⟨he,hb⟩=>⟨by
  rcases he with ⟨m,m1,m2,hm,he⟩ | ⟨hno,_⟩
  ·rw [itoa_injL ⟨h1,h2⟩ ⟨m1,m2⟩ (h.symm.trans hm)];exact he
  ·exact absurd ⟨n,h1,h2,h⟩ hno,hb⟩
theorem num_no (s:ByteArray) (hno:¬ Good s.data.toList) (w:World) (hmax:s.size<=1048576) :
  Calls Tryz.prog 128 #[.string s,.int .i64 (-2147483648),.int .i64 2147483647] w fun e w'=>e=.returned (.tuple #[.int .i64 0,.bool false])/\Below w.heap.size w w' :=
 (number_any s w hmax).mono fun e w' ⟨he,hb⟩=>⟨by
  rcases he with ⟨m,m1,m2,hm,_⟩ | ⟨_,he⟩
  ·exact absurd ⟨m,m1,m2,hm⟩ hno
  ·exact he,hb⟩
theorem quote_bad (t:List UInt8):¬ Good (quoteL t):=by
 rintro ⟨n,_,_,h⟩
 have h1:=quote_quote t
 rw [h,itoa_noquote] at h1
 simp at h1
set_option maxHeartbeats 400000 in
theorem refParse_num (s:ByteArray) (n:Int) (h1:-2147483648<=n) (h2:n<=2147483647) (h:s.data.toList=Lib.itoa n) (w:World) (hmax:s.size<=1048576) :
  Calls Tryz.prog 104 #[.string s] w fun e w'=>e=.returned (.tuple #[.agg #[.int .i64 1,.int .i64 n,.string ⟨#[]⟩],.int .i64 0])/\Below w.heap.size w w':=by
 have hn:=fun w=>num_yes s n h1 h2 h w hmax
 clear h
 go_enter Tryz.func104,Tryz.ntmps104
 go_wp2_with (go_at_call 128;refine (hn _).mono ?_;rintro e w1 ⟨rfl,hb⟩;obtain ⟨hcell,hfr⟩:=bcell hb;simp at hcell hfr)
 refine bodyPost_ret (v:=.tuple #[.agg #[.int .i64 1,.int .i64 n,.string ⟨#[]⟩],.int .i64 0]) (by simp [results,Tryz.results104,go_sem,hcell]) rfl ⟨rfl, ?_⟩
 exact below_st3 hb _ _ _
set_option maxHeartbeats 400000 in
theorem refParse_word (s:ByteArray) (t:List UInt8) (ht:s.data.toList=quoteL t) (h64:t.length<=64) (w:World) (hmax:s.size<=1048576) :
  Calls Tryz.prog 104 #[.string s] w fun e w'=>e=.returned (.tuple #[.agg #[.int .i64 2,.int .i64 0,.string ⟨t.toArray⟩],.int .i64 0])/\Below w.heap.size w w':=by
 have hn:=fun w=>num_no s (by rw [ht];exact quote_bad t) w hmax
 have hu:=fun w=>refUnq_yes s t ht w (by omega)
 obtain ⟨x,hx⟩:∃ x:ByteArray,x=⟨t.toArray⟩:=⟨_,rfl⟩
 have hsz:(x.size:Int)<=64:=by
  have:(⟨t.toArray⟩:ByteArray).size=t.length:=by simp [ByteArray.size]
  rw [hx];omega
 rw [<- hx] at hu ⊢
 clear ht h64 hx
 go_enter Tryz.func104,Tryz.ntmps104
 go_wp2_with (first
  | (go_at_call 128;refine (hn _).mono ?_;rintro e w1 ⟨rfl,hb⟩;obtain ⟨hcell,hfr⟩:=bcell hb;simp at hcell hfr;have hz:w.heap.size < w1.heap.size:=(by have:=hb.size;simp at this;omega))
  | (go_at_call 76;refine (hu _).mono ?_;rintro e w2 ⟨rfl,hb2⟩;obtain ⟨hcell2,hfr2⟩:=bcell hb2))
 refine bodyPost_ret (v:=.tuple #[.agg #[.int .i64 2,.int .i64 0,.string x],.int .i64 0]) (by simp [results,Tryz.results104,go_sem,hcell,hcell2,hz]) rfl ⟨rfl, ?_⟩
 exact below_st3 (below_sub hb hb2) _ _ _
set_option maxHeartbeats 400000 in
theorem refParse_long (s:ByteArray) (t:List UInt8) (ht:s.data.toList=quoteL t) (h64:¬ t.length<=64) (w:World) (hmax:s.size<=1048576) :
  Calls Tryz.prog 104 #[.string s] w fun e w'=>e=.returned (.tuple #[.agg #[.int .i64 0,.int .i64 0,.string ⟨#[]⟩],.int .i64 10])/\Below w.heap.size w w':=by
 have hn:=fun w=>num_no s (by rw [ht];exact quote_bad t) w hmax
 have hu:=fun w=>refUnq_yes s t ht w (by omega)
 obtain ⟨x,hx⟩:∃ x:ByteArray,x=⟨t.toArray⟩:=⟨_,rfl⟩
 have hsz:(64:Int) < (x.size:Int):=by
  have:(⟨t.toArray⟩:ByteArray).size=t.length:=by simp [ByteArray.size]
  rw [hx];omega
 rw [<- hx] at hu
 clear ht h64 hx
 go_enter Tryz.func104,Tryz.ntmps104
 go_wp2_with (first
  | (go_at_call 128;refine (hn _).mono ?_;rintro e w1 ⟨rfl,hb⟩;obtain ⟨hcell,hfr⟩:=bcell hb;simp at hcell hfr;have hz:w.heap.size < w1.heap.size:=(by have:=hb.size;simp at this;omega))
  | (go_at_call 76;refine (hu _).mono ?_;rintro e w2 ⟨rfl,hb2⟩;obtain ⟨hcell2,hfr2⟩:=bcell hb2))
 refine bodyPost_ret (v:=.tuple #[.agg #[.int .i64 0,.int .i64 0,.string ⟨#[]⟩],.int .i64 10]) (by simp [results,Tryz.results104,go_sem,hcell,hcell2,hz]) rfl ⟨rfl, ?_⟩
 exact below_st3 (below_sub hb hb2) _ _ _
set_option maxHeartbeats 400000 in
theorem refParse_none (s:ByteArray) (hg:¬ Good s.data.toList) (hno:∀ t,s.data.toList ≠ quoteL t) (w:World) (hmax:s.size<=1048576) :
  Calls Tryz.prog 104 #[.string s] w fun e w'=>e=.returned (.tuple #[.agg #[.int .i64 0,.int .i64 0,.string ⟨#[]⟩],.int .i64 10])/\Below w.heap.size w w':=by
 have hn:=fun w=>num_no s hg w hmax
 have hu:=fun w=>refUnq_no s hno w (by omega)
 clear hg hno
 go_enter Tryz.func104,Tryz.ntmps104
 go_wp2_with (first
  | (go_at_call 128;refine (hn _).mono ?_;rintro e w1 ⟨rfl,hb⟩;obtain ⟨hcell,hfr⟩:=bcell hb;simp at hcell hfr;have hz:w.heap.size < w1.heap.size:=(by have:=hb.size;simp at this;omega))
  | (go_at_call 76;refine (hu _).mono ?_;rintro e w2 ⟨rfl,hb2⟩;obtain ⟨hcell2,hfr2⟩:=bcell hb2))
 refine bodyPost_ret (v:=.tuple #[.agg #[.int .i64 0,.int .i64 0,.string ⟨#[]⟩],.int .i64 10]) (by simp [results,Tryz.results104,go_sem,hcell,hcell2,hz]) rfl ⟨rfl, ?_⟩
 exact below_st3 (below_sub hb hb2) _ _ _
end Go.Proofs.YtdgoibnndfibnaaGreatDoor
namespace Go.Proofs.YtdgoibnndfibnaaGreatDoor
open Go.RowKit Go.Sort
theorem refUnq_val (s:ByteArray) (w:World) (hz:s.size<=1048576) :
  Calls Tryz.prog 76 #[.string s] w fun e w'=>(∃ E:Int,e=.returned (.tuple #[.string (unqV (Lb s)),.int .i64 E]))/\Below w.heap.size w w':=by
 by_cases h:∃ t,Lb s=quoteL t
 ·obtain ⟨t,ht⟩:=h
  rw [ht,unqV_quote]
  exact (refUnq_yes s t ht w (by omega)).mono fun e w' ⟨he,hb⟩=>⟨⟨_,he⟩,hb⟩
 ·have hno:∀ t,Lb s ≠ quoteL t:=fun t ht=>h ⟨t,ht⟩
  rw [unqV_no hno]
  exact (refUnq_no s hno w (by omega)).mono fun e w' ⟨he,hb⟩=>⟨⟨_,he⟩,hb⟩
theorem refParse_val (s:ByteArray) (w:World) (hz:s.size<=1048576) :
  Calls Tryz.prog 104 #[.string s] w fun e w'=>(∃ E:Int,e=.returned (.tuple #[.agg #[.int .i64 (valV s).1,.int .i64 (valV s).2.1,.string (valV s).2.2],.int .i64 E]))/\Below w.heap.size w w':=by
 by_cases hg:Good (Lb s)
 ·obtain ⟨n,h1,h2,hn⟩:=hg
  have hc:chkV 1 n ⟨#[]⟩=0:=chk_yes1 rfl h1 h2 ((empty_iff _).2 rfl)
  have ht:textB 1 n ⟨#[]⟩=s:=by
   refine lb_inj ?_
   rcases textB_ok hc with ⟨_,_,_,e⟩ | ⟨e,_,_⟩
   ·rw [e,hn]
   ·cases e
  rw [<- ht,valV_text hc,ht]
  exact (refParse_num s n h1 h2 hn w hz).mono fun e w' ⟨he,hb⟩=>⟨⟨_,he⟩,hb⟩
 ·by_cases hq:∃ t,Lb s=quoteL t
  ·obtain ⟨t,ht⟩:=hq
   by_cases h64:t.length<=64
   ·have hc:chkV 2 0 ⟨t.toArray⟩=0:=chk_yes2 rfl rfl (by rw [ba_size];omega)
    have hs:textB 2 0 ⟨t.toArray⟩=s:=by
     refine lb_inj ?_
     rcases textB_ok hc with ⟨e,_⟩ | ⟨_,_,e⟩
     ·cases e
     ·rw [e,ht,lb_mk]
    rw [<- hs,valV_text hc,hs]
    exact (refParse_word s t ht h64 w hz).mono fun e w' ⟨he,hb⟩=>⟨⟨_,he⟩,hb⟩
   ·have hno:∀ k n x,chkV k n x=0->textB k n x ≠ s:=by
     intro k n x hc he
     have he2:=congrArg Lb he
     rcases textB_ok hc with ⟨rfl,hI,rfl,e⟩ | ⟨rfl,rfl,e⟩
     ·rcases chk_range hc with ⟨_,a1,a2,_⟩ | ⟨h9,_⟩
      ·exact hg ⟨n,a1,a2,by rw [<- he2,e]⟩
      ·cases h9
     ·rw [e,ht] at he2
      have h3:=quoteL_inj he2
      rcases chk_range hc with ⟨h9,_⟩ | ⟨_,_,a3⟩
      ·cases h9
      ·exact h64 (by rw [<- h3,lb_len];exact a3)
    rw [valV_no hno]
    exact (refParse_long s t ht h64 w hz).mono fun e w' ⟨he,hb⟩=>⟨⟨_,he⟩,hb⟩
  ·have hno:∀ k n x,chkV k n x=0->textB k n x ≠ s:=by
    intro k n x hc he
    have he2:=congrArg Lb he
    rcases textB_ok hc with ⟨rfl,hI,rfl,e⟩ | ⟨rfl,rfl,e⟩
    ·rcases chk_range hc with ⟨_,a1,a2,_⟩ | ⟨h9,_⟩
     ·exact hg ⟨n,a1,a2,by rw [<- he2,e]⟩
     ·cases h9
    ·exact hq ⟨Lb x,by rw [<- he2,e]⟩
   rw [valV_no hno]
   exact (refParse_none s hg (fun t ht=>hq ⟨t,ht⟩) w hz).mono fun e w' ⟨he,hb⟩=>⟨⟨_,he⟩,hb⟩
theorem cut61_at:∀ {a r:Bs},(∀ c ∈ a,c ≠ 61)->cut61 (a ++ 61 :: r)=(a,r):=fun h=>cut_name h
theorem set4_all {W:World} {b:Nat} {T:TypeId} {a0 a1 a2 a3:Value} (h:W.heap[b]? = some (.cells #[a0,a1,a2,a3] T (0,0))) (v0 v1 v2 v3:Value):((((W.setCell ⟨b,0,none⟩ v0).setCell ⟨b,1,none⟩ v1).setCell ⟨b,2,none⟩ v2).setCell ⟨b,3,none⟩ v3).heap[b]? = some (.cells #[v0,v1,v2,v3] T (0,0))/\W.grownBy ((((W.setCell ⟨b,0,none⟩ v0).setCell ⟨b,1,none⟩ v1).setCell ⟨b,2,none⟩ v2).setCell ⟨b,3,none⟩ v3) (some b):=by
 refine ⟨?_,gr_set (gr_set (gr_set (gr_set (gr_refl _ _) _ _) _ _) _ _) _ _⟩
 simp [World.setCell,Array.getElem?_modify,h]
theorem Tryz.info78s:(Tryz.prog.info? 78).map (·.size)=some 4:=by kernel_rfl
theorem of4z {W:World} {b:Nat} {a0 a1 a2 a3:Value} {T:TypeId} (h:W.heap[b]? = some (.cells #[a0,a1,a2,a3] T (0,0))):W.cell? ⟨b,0,none⟩=some a0/\W.cell? ⟨b,1,none⟩=some a1/\W.cell? ⟨b,2,none⟩=some a2/\W.cell? ⟨b,3,none⟩=some a3/\∀ o,W.frozen? ⟨b,o,none⟩=false:=by
 obtain ⟨x0,x1,x2,x3⟩:=of4s h
 exact ⟨x0,x1,x2,x3,fun o=>frozen_free h⟩
theorem of3z {W:World} {b:Nat} {a0 a1 a2:Value} {T:TypeId} (h:W.heap[b]? = some (.cells #[a0,a1,a2] T (0,0))):W.cell? ⟨b,0,none⟩=some a0/\W.cell? ⟨b,1,none⟩=some a1/\W.cell? ⟨b,2,none⟩=some a2:=by
 refine ⟨?_, ?_, ?_⟩ <;> (unfold World.cell?;simp [h])
set_option maxHeartbeats 8000000 in
set_option maxRecDepth 100000 in
theorem refPair_any (s:ByteArray) (w:World) (hz:s.size<=1048576) (P:Pq) (hP:pairR (Lb s)=P) :
  Calls Tryz.prog 75 #[.string s] w fun e w'=>e=.returned (.agg #[.string P.1,.int .i64 P.2.1,.int .i64 P.2.2.1,.string P.2.2.2])/\Below w.heap.size w w':=by
 have mixed:Tryz.prog.follows .mixedOrders=true:=by kernel_rfl
 obtain ⟨X,HX⟩:∃ X,w.alloc (.cells #[.string ⟨#[]⟩,.int .i64 0,.int .i64 0,.string ⟨#[]⟩] 78)=X:=⟨_,rfl⟩
 have bX:Below w.heap.size w X:=by rw [<- HX];exact (Below.refl _ _).alloc (Nat.le_refl _) _
 have hX:X.heap[w.heap.size]? = some (.cells #[.string ⟨#[]⟩,.int .i64 0,.int .i64 0,.string ⟨#[]⟩] 78 (0,0)):=by rw [<- HX];exact box_new _ _
 have HXB:=hide hX
 have BX:=hide bX
 have a0:(s.size:Int)<=1048576:=by omega
 have HLN:=hide (lb_len s)
 have HPP:=hide hP
 clear bX hX hP
 go_enter Tryz.func75,Tryz.ntmps75
 go_wp2
 go_loopw [3] (fun i wr=>wr=X/\∃ k:Nat,k<=s.size/\i=.int .i64 (k:Int)/\Hid (∀ c ∈ (Lb s).take k,c ≠ 61)) (fun i _=>s.size - (intOf i).toNat)
 case atStart=>exact ⟨by first | rfl | trivial,0,Nat.zero_le _,rfl,hide (fun c hc=>by simp at hc)⟩
 case round =>
  obtain ⟨rfl,k,hk,rfl,HN⟩:=hrel
  have ki0:(0:Int)<=(k:Int):=by omega
  have hwr:w.heap.size < wr.heap.size:=heap_lt (uh HXB)
  by_cases hlt:k < s.size
  ·have ki1:(k:Int) < (s.size:Int):=by omega
   have ks:k < s.size:=hlt
   have hd:=drop_at hlt
   have htk:(Lb s).take (k + 1)=(Lb s).take k ++ [s[k]]:=take_snoc_of (by have h:=congrArg (fun l=>l[0]?) hd;rw [List.getElem?_drop] at h;simp only [Nat.add_zero,List.getElem?_cons_zero] at h;exact h)
   obtain ⟨c,hc⟩:∃ c,s[k]=c:=⟨_,rfl⟩
   rw [hc] at hd htk
   have e61:=u8_eq c 61 (by decide)
   by_cases h61:c=61
   ·have n61:((c.toNat:Int) == 61)=true:=by rw [h61];rfl
    obtain ⟨D,hD⟩:∃ D,s.extract (k + 1) s.size=D:=⟨_,rfl⟩
    obtain ⟨A,hA⟩:∃ A,s.extract 0 k=A:=⟨_,rfl⟩
    have hDl:Lb D=(Lb s).drop (k + 1):=by rw [<- hD,ext_str,List.take_of_length_le (by rw [List.length_drop];have:=uh HLN;omega)]
    have hAl:Lb A=(Lb s).take k:=by rw [<- hA,ext_str];simp
    have hls:Lb s=Lb A ++ 61 :: Lb D:=by rw [hAl,hDl,<- h61,<- hd,List.take_append_drop]
    have hPV:P=(A,valV D):=by
     rw [<- uh HPP]
     unfold pairR
     rw [if_pos (by rw [hls];simp)]
     unfold rdPair
     rw [hls,cut61_at (by rw [hAl];exact uh HN)]
     rw [<- lb_self A,<- lb_self D]
    have hds:D.size<=1048576:=by rw [<- lb_len,hDl,List.length_drop];have:=uh HLN;omega
    have hpv:=fun W=>refParse_val D W hds
    obtain ⟨v1,v2,v3⟩:True/\True/\True:=⟨trivial,trivial,trivial⟩
    obtain ⟨V,hV⟩:∃ V,valV D=V:=⟨_,rfl⟩
    rw [hV] at hpv hPV
    subst hPV
    have ke:(k:Int) + 1<=(s.size:Int):=by omega
    have HPV:=hide hpv
    have HDD:=hide hD
    have HAA:=hide hA
    clear hd htk e61 h61 hDl hAl hls hds hpv hV v1 v2 v3
    go_wp2_with (go_at_call 104;refine (uh HPV _).mono ?_;rintro e w2 ⟨⟨E,rfl⟩,b2⟩;obtain ⟨Y,HY⟩:∃ Y,w2.alloc (.cells #[.int .i64 V.1,.int .i64 V.2.1,.string V.2.2] 76)=Y:=⟨_,rfl⟩;have bY:Below w2.heap.size w2 Y:=(by rw [<- HY];exact (Below.refl _ _).alloc (Nat.le_refl _) _);have hY:Y.heap[w2.heap.size]? = some (.cells #[.int .i64 V.1,.int .i64 V.2.1,.string V.2.2] 76 (0,0)):=(by rw [<- HY];exact box_new _ _);have B2:=hide (below_sub b2 bY);have hYX:=blk_onS (uh HXB) (uh B2);obtain ⟨y0,y1,y2⟩:=of3z hY;obtain ⟨x0,x1,x2,x3,xf⟩:=of4z hYX;have HYX:=hide hYX;have hne1:¬ w.heap.size=w2.heap.size:=(by have:=b2.size;omega);have hne2:¬ w2.heap.size=w.heap.size:=(by omega);clear bY hY hYX b2)
    obtain ⟨hres,hg⟩:=set4_all (uh HYX) (.string A) (.int .i64 V.1) (.int .i64 V.2.1) (.string V.2.2)
    have hbel:=below_gr hg (heap_lt (uh HYX))
    obtain ⟨W7,HW7⟩:∃ Z,((((Y.setCell ⟨w.heap.size,0,none⟩ (.string A)).setCell ⟨w.heap.size,1,none⟩ (.int .i64 V.1)).setCell ⟨w.heap.size,2,none⟩ (.int .i64 V.2.1)).setCell ⟨w.heap.size,3,none⟩ (.string V.2.2))=Z:=⟨_,rfl⟩
    rw [HW7] at hres hbel
    have HRES:=hide hres
    have HBEL:=hide (below_tr (below_sub (uh BX) (uh B2)) hbel)
    clear hres hg hbel
    go_region_law (fail)
    all_goals
     go_wp2
     refine bodyPost_ret (results_cell_row rfl _ _ w.heap.size 78 _ (0,0) _ rfl (uh HRES) Tryz.underlying78 rfl Tryz.info78s) rfl ?_
     exact ⟨rfl,by repeat (first | exact uh HBEL | refine Below.drew ?_)⟩
   ·have n61:((c.toNat:Int) == 61)=false:=by rw [show ((c.toNat:Int) == 61)=decide (c=61) from e61];exact decide_eq_false h61
    have HN2:=hide (show ∀ d ∈ (Lb s).take (k + 1),d ≠ 61 by
     rw [htk]
     intro d hd
     rcases List.mem_append.1 hd with h | h
     ·exact uh HN d h
     ·rw [List.mem_singleton] at h;subst h;exact h61)
    clear hd htk e61 h61
    go_wp2
    exact ⟨⟨by first | rfl | trivial,k + 1,by omega,by go_num,HN2⟩,by simp [intOf];omega⟩
  ·obtain rfl:k=s.size:=by omega
   have ki1:¬ (s.size:Int) < (s.size:Int):=by omega
   have hPV:P=(⟨#[]⟩,0,0,⟨#[]⟩):=by
    rw [<- uh HPP]
    unfold pairR
    rw [if_neg (fun h=>by
     have:=uh HN 61 (by rw [List.take_of_length_le (by have:=uh HLN;omega)];exact h)
     exact this rfl)]
   subst hPV
   obtain ⟨x0,x1,x2,x3,xf⟩:=of4z (uh HXB)
   obtain ⟨hres,hg⟩:=set4_all (uh HXB) (.string ⟨#[]⟩) (.int .i64 0) (.int .i64 0) (.string ⟨#[]⟩)
   have hbel:=below_gr hg (heap_lt (uh HXB))
   obtain ⟨W7,HW7⟩:∃ Z,((((wr.setCell ⟨w.heap.size,0,none⟩ (.string ⟨#[]⟩)).setCell ⟨w.heap.size,1,none⟩ (.int .i64 0)).setCell ⟨w.heap.size,2,none⟩ (.int .i64 0)).setCell ⟨w.heap.size,3,none⟩ (.string ⟨#[]⟩))=Z:=⟨_,rfl⟩
   rw [HW7] at hres hbel
   have HRES:=hide hres
   have HBEL:=hide (below_tr (uh BX) hbel)
   clear hres hg hbel
   go_wp2
   refine bodyPost_ret (results_cell_row rfl _ _ w.heap.size 78 _ (0,0) _ rfl (uh HRES) Tryz.underlying78 rfl Tryz.info78s) rfl ?_
   exact ⟨rfl,uh HBEL⟩
end Go.Proofs.YtdgoibnndfibnaaGreatDoor
namespace Go.Proofs.YtdgoibnndfibnaaGreatDoor
open Go.RowKit Go.Sort
/-- Does a line begin as an attribute's? -/
def begA (l:Bs):Bool:=l.take 5 == [97,116,116,114,32]
set_option maxHeartbeats 4000000 in
set_option maxRecDepth 100000 in
theorem refBegins_any (s:ByteArray) (w:World) (hz:s.size<=100000000) :
  Calls Tryz.prog 44 #[.string s,.string ⟨#[97,116,116,114,32]⟩] w fun e w'=>e=.returned (.bool (begA (Lb s)))/\w'=w:=by
 have a0:(s.size:Int)<=100000000:=by omega
 by_cases h5:5<=s.size
 ·have i1:(s.size:Int) ≥ 5:=by omega
  have i2:(5:Int)<=(s.size:Int):=by omega
  have i3:decide ((s.size:Int) ≥ 5)=true:=decide_eq_true i1
  obtain ⟨A,hA⟩:∃ A,s.extract 0 5=A:=⟨_,rfl⟩
  have hAl:Lb A=(Lb s).take 5:=by rw [<- hA,ext_str];simp
  have hb:(A.toList == [97,116,116,114,32])=begA (Lb s):=by
   unfold begA
   rw [<- hAl]
   have:A.toList=Lb A:=ByteArray.toList_eq A
   rw [this]
  have HA:=hide hA
  clear hAl
  go_enter Tryz.func44,Tryz.ntmps44
  go_wp2
  go_ret
  exact ⟨rfl,rfl⟩
 ·have i1:¬ (s.size:Int) ≥ 5:=by omega
  have i2:¬ (5:Int)<=(s.size:Int):=by omega
  have i3:decide ((s.size:Int) ≥ 5)=false:=decide_eq_false i1
  have hb:begA (Lb s)=false:=by
   unfold begA
   rw [beq_eq_false_iff_ne]
   intro e
   have:=congrArg List.length e
   rw [List.length_take,lb_len] at this
   simp at this
   omega
  rw [hb]
  clear hb
  go_enter Tryz.func44,Tryz.ntmps44
  go_wp2
  go_ret
  exact ⟨rfl,rfl⟩
end Go.Proofs.YtdgoibnndfibnaaGreatDoor
