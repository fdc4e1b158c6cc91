/- ScriptAhead: the law. -/
import Derived.Test.YtdgoibnndfibnaaGreatDoorAZaj
import Derived.Test.YtdgoibnndfibnaaGreatDoorAS39
namespace Go.Proofs.YtdgoibnndfibnaaGreatDoor
open Go.RowKit Go.Sort
theorem go_cases:∀ (k n:Nat) (s:Scr) (t:Bs),t.length < k->(∃ s',readFrom n s t=(0,some s')) ∨ ∃ m,readFrom n s t=(m,none)
 | 0,_,_,_,h=>by omega
 | k + 1,n,s,t,hk=>by
  by_cases he:n ≠ 1/\t=[]
  ·obtain ⟨h1,rfl⟩:=he
   exact Or.inl ⟨s,readFrom_end h1 s⟩
  ·cases hc:cut10 t with
   | none=>exact Or.inr ⟨n,readFrom_none he hc⟩
   | some x =>
    cases ha:addS s n x.1 with
    | none=>exact Or.inr ⟨n,readFrom_bad hc ha⟩
    | some s' =>
     rw [readFrom_step hc ha]
     obtain ⟨e,_⟩:=cut10_len hc
     have hl:t.length=x.1.length + (x.2.length + 1):=by rw [e];simp
     exact go_cases k (n + 1) s' x.2 (by omega)
theorem readS_cases (t:Bs):(∃ s,readS t=(0,some s)) ∨ ∃ n,readS t=(n,none):=go_cases (t.length + 1) 1 scr0 t (by omega)
theorem parse_good (L:Bs) (s:Scr) (h:readS L=(0,some s)) (text:ByteArray) (ht:text=⟨L.toArray⟩) (hz:L.length<=100000000000) (W:World) (hG:G W) :
  Calls Tryz.prog 18 #[.string text] W fun e w'=>(∃ (i0 i1 i2 i3 i4 i5 i6 i7:Int) (qa:Option Addr) (la ca:Nat) (qo:Option Addr) (lo co:Nat),e=.returned (.tuple #[.agg #[.int .i64 i0,.int .i64 i1,.int .i64 i2,.int .i64 i3,.int .i64 i4,.int .i64 i5,.int .i64 i6,.int .i64 i7,.slice qa la ca,.slice qo lo co],.int .i64 0,.int .i64 0]))/\Below W.heap.size W w':=by
 refine (parseScr_any L W hG hz text ht).mono ?_
 rintro e w' ⟨h1,hb⟩
 refine ⟨?_,hb⟩
 rcases h1 with ⟨s',hs,qa,ca,qo,co,us,rfl,hr⟩ | ⟨n,hn,_⟩
 ·rw [h] at hs
  injection hs with _ hs
  injection hs with hs
  subst hs
  exact ⟨_,_,_,_,_,_,_,_,_,_,_,_,_,_,rfl⟩
 ·rw [h] at hn
  injection hn with _ hn
  cases hn
theorem parse_bad (L:Bs) (m:Nat) (h:readS L=(m,none)) (text:ByteArray) (ht:text=⟨L.toArray⟩) (hz:L.length<=100000000000) (W:World) (hG:G W) :
  Calls Tryz.prog 18 #[.string text] W fun e w'=>(∃ (i0 i1 i2 i3 i4 i5 i6 i7:Int) (qa:Option Addr) (la ca:Nat) (qo:Option Addr) (lo co:Nat),e=.returned (.tuple #[.agg #[.int .i64 i0,.int .i64 i1,.int .i64 i2,.int .i64 i3,.int .i64 i4,.int .i64 i5,.int .i64 i6,.int .i64 i7,.slice qa la ca,.slice qo lo co],.int .i64 (m:Int),.int .i64 10]))/\Below W.heap.size W w':=by
 refine (parseScr_any L W hG hz text ht).mono ?_
 rintro e w' ⟨h1,hb⟩
 refine ⟨?_,hb⟩
 rcases h1 with ⟨s',hs,_⟩ | ⟨n,hn,rfl⟩
 ·rw [h] at hs
  injection hs with _ hs
  cases hs
 ·rw [h] at hn
  injection hn with hn _
  subst hn
  exact ⟨_,_,_,_,_,_,_,_,_,_,_,_,_,_,rfl⟩
theorem lb_self (s:ByteArray):s=⟨(Lb s).toArray⟩:=str_eq rfl
theorem lb_len (s:ByteArray):(Lb s).length=s.size:=by unfold Lb;rw [Array.length_toList];rfl
set_option maxHeartbeats 8000000 in
set_option maxRecDepth 100000 in
theorem ahead_good {w:World} (text:ByteArray) (s:Scr) (hs:readS (Lb text)=(0,some s)) (hz:text.size<=100000000000) (hG:G w) :
  Calls Tryz.prog 7 #[.string text] w fun e w'=>e=.returned (.bool true)/\Below w.heap.size w w':=by
 have HF:=hide (fixed_any w hG)
 have HP:=hide (fun (W:World) (hW:Below w.heap.size w W)=>parse_good (Lb text) s hs text (lb_self text) (by rw [lb_len];exact hz) W (G_below hG hW))
 clear hs hz hG
 go_enter Tryz.func7,Tryz.ntmps7
 go_wp2_with (first
  | (go_at_call 18;refine (uh HP _ (uh B1)).mono ?_;rintro e v2 ⟨⟨i02,i12,i22,i32,i42,i52,i62,i72,qa2,la2,ca2,qo2,lo2,co2,rfl⟩,bb⟩;have B2:=hide (bal (below_sub (uh B1) bb) (.cells #[.int .i64 i02,.int .i64 i12,.int .i64 i22,.int .i64 i32,.int .i64 i42,.int .i64 i52,.int .i64 i62,.int .i64 i72,.slice qa2 la2 ca2,.slice qo2 lo2 co2] 29));clear bb)
  | (go_at_call 9;refine (uh HF).mono ?_;rintro e w1 ⟨rfl,b1⟩;have B1:=hide b1;clear b1))
 go_ret
 exact ⟨rfl,uh B2⟩
set_option maxHeartbeats 8000000 in
set_option maxRecDepth 100000 in
theorem ahead_bad {w:World} (text:ByteArray) (n:Nat) (hn:readS (Lb text)=(n,none)) (hz:text.size<=100000000000) (hG:G w) :
  Calls Tryz.prog 7 #[.string text] w fun e w'=>e=.returned (.bool true)/\Below w.heap.size w w':=by
 have mixed:Tryz.prog.follows .mixedOrders=true:=by kernel_rfl
 have HF:=hide (fixed_any w hG)
 have HP:=hide (fun (W:World) (hW:Below w.heap.size w W)=>parse_bad (Lb text) n hn text (lb_self text) (by rw [lb_len];exact hz) W (G_below hG hW))
 obtain ⟨h1,rest,pre,hA,hL,hpre,hfull⟩:=readS_ahead hn
 have hll:=lb_len text
 have hz2:(Lb text).length<=100000000000:=by omega
 have HQ:=hide (fun (k:Nat) (hk:pre=(Lb text).take k) (s':Scr) (hs':readS pre=(0,some s')) (W:World) (hW:Below w.heap.size w W)=>parse_good pre s' hs' (text.extract 0 k) (by rw [take_str,hk]) (by rw [hk,List.length_take];omega) W (G_below hG hW))
 have HR:=hide (fun (k:Nat) (hk:pre ++ lineF rest=(Lb text).take k) (W:World) (hW:Below w.heap.size w W)=>parse_bad (pre ++ lineF rest) n hfull (text.extract 0 k) (by rw [take_str,hk]) (by rw [hk,List.length_take];omega) W (G_below hG hW))
 have HPRE:=hide hpre
 have HL:=hide hL
 have HLL:=hide hll
 have HN1:=hide h1
 have a0:(text.size:Int)<=140737488355328:=by omega
 have hnz:n<=text.size + 1:=by
  have key:∀ (k:Nat) (t:Bs) (r:Bs),afterL k t=some r->k<=t.length:=by
   intro k
   induction k with
   | zero=>intro t r _;omega
   | succ k ih =>
    intro t r h
    unfold afterL at h
    cases hc:cut10 t with
    | none=>rw [hc] at h;cases h
    | some x =>
     rw [hc] at h
     have e:=(cut10_len hc).1
     have:=ih x.2 r h
     rw [e];simp;omega
  have:=key _ _ _ hA
  omega
 have a1:(n:Int)<=140737488355328:=by omega
 have HA:=hide hA
 clear hn hz hG hA hL hpre hfull hll hz2 hnz
 go_enter Tryz.func7,Tryz.ntmps7
 go_wp2_with (first
  | (go_at_call 18;refine (uh HP _ (uh B1)).mono ?_;rintro e v2 ⟨⟨i02,i12,i22,i32,i42,i52,i62,i72,qa2,la2,ca2,qo2,lo2,co2,rfl⟩,bb⟩;have B2:=hide (bal (below_sub (uh B1) bb) (.cells #[.int .i64 i02,.int .i64 i12,.int .i64 i22,.int .i64 i32,.int .i64 i42,.int .i64 i52,.int .i64 i62,.int .i64 i72,.slice qa2 la2 ca2,.slice qo2 lo2 co2] 29));clear bb)
  | (go_at_call 9;refine (uh HF).mono ?_;rintro e w1 ⟨rfl,b1⟩;have B1:=hide b1;clear b1))
 rename_i w2
 go_loopw [6,7] (fun i l wr=>Hid (Below w.heap.size w wr)/\∃ (k j:Nat),i=.int .i64 (k:Int)/\l=.int .i64 (j:Int)/\k<=text.size/\1<=j/\j<=n/\Hid (afterL (n - j) ((Lb text).drop k)=some rest)) (fun _ l _=>n - (intOf l).toNat)
 case atStart=>exact ⟨B2,0,1,rfl,rfl,Nat.zero_le _,Nat.le_refl _,uh HN1,HA⟩
 case round =>
  clear HA HP HF
  obtain ⟨BW,k,j,rfl,rfl,hk,hj1,hjn,HA⟩:=hrel
  by_cases hlt:j < n
  ·have ji:(j:Int) < (n:Int):=by omega
   have ji0:(0:Int)<=(j:Int):=by omega
   go_wp2
   go_loopw [6] (fun i wr=>wr=wr/\Hid (Below w.heap.size w wr)/\∃ (k:Nat),i=.int .i64 (k:Int)/\k<=text.size/\Hid (afterL (n - j) ((Lb text).drop k)=some rest)) (fun i _=>text.size - (intOf i).toNat)
   case atStart=>exact ⟨rfl,BW,k,rfl,hk,HA⟩
   case round =>
    clear HA BW hk
    obtain ⟨_,BW,k,rfl,hk,HA⟩:=hrel
    have ki0:(0:Int)<=(k:Int):=by omega
    by_cases hks:k < text.size
    ·have ki1:(k:Int) < (text.size:Int):=by omega
     have ks:k < text.size:=hks
     have hd:=drop_at hks
     obtain ⟨c,hc⟩:∃ c,text[k]=c:=⟨_,rfl⟩
     rw [hc] at hd
     have hh:=uh HA
     rw [hd,show n - j=(n - (j + 1)) + 1 by omega] at hh
     by_cases h10:c=10
     ·have n10:((c.toNat:Int) != 10)=false:=by rw [h10];rfl
      rw [h10] at hh
      have HA2:=hide (afterL_end hh)
      have ki2:¬ (k:Int) ≥ (text.size:Int):=by omega
      have ki3:decide ((k:Int) ≥ (text.size:Int))=false:=decide_eq_false ki2
      have ki4:¬ (text.size:Int)<=(k:Int):=by omega
      clear hh hd h10
      go_wp2
      go_roundw
      case rel=>exact ⟨BW,k + 1,j + 1,by go_num,by go_num,by omega,by omega,by omega,HA2⟩
      case measure=>simp [intOf];omega
     ·have n10:((c.toNat:Int) != 10)=true:=by
       have:=u8_eq c 10 (by decide)
       rw [bne,show ((c.toNat:Int) == 10)=decide (c=10) from this,decide_eq_false h10];rfl
      have HA2:=hide (show afterL (n - j) ((Lb text).drop (k + 1))=some rest by rw [show n - j=(n - (j + 1)) + 1 by omega];exact afterL_pass h10 hh)
      clear hh hd h10
      go_wp2
      exact ⟨⟨trivial,BW,k + 1,by go_num,by omega,HA2⟩,by simp [intOf];omega⟩
    ·exfalso
     have hh:=uh HA
     rw [List.drop_eq_nil_of_le (by have:=uh HLL;omega),show n - j=(n - (j + 1)) + 1 by omega] at hh
     exact afterL_nil hh
  ·obtain rfl:j=n:=by omega
   have ji:¬ (j:Int) < (j:Int):=by omega
   have hrest:(Lb text).drop k=rest:=by have h:=uh HA;rw [Nat.sub_self] at h;exact Option.some.inj h
   have hpk:pre=(Lb text).take k:=by
    have h:=uh HL
    rw [<- hrest] at h
    have h2:pre.length=k:=by
     have h3:=congrArg List.length h
     rw [List.length_append,List.length_drop] at h3
     have:=uh HLL
     omega
    rw [h,List.take_left' h2]
   have ki0:(0:Int)<=(k:Int):=by omega
   have kle:(k:Int)<=(text.size:Int):=by omega
   by_cases h1:j=1
   ·have e1:((j:Int) == 1)=true:=by rw [h1];rfl
    clear hrest hpk HA HQ HR HPRE HL h1
    go_wp2
    go_ret
    exact ⟨rfl,uh BW⟩
   ·have e1:((j:Int) == 1)=false:=by simp;omega
    obtain ⟨s',hs'⟩:=uh HPRE h1
    have HQ2:=hide (uh HQ k hpk s' hs')
    have HPK:=hide (show pre ++ lineF rest=(Lb text).take k ++ lineF ((Lb text).drop k) by rw [hrest,<- hpk])
    have hjj:((j:Int) == (j:Int))=true:=by simp
    clear hrest hpk HA HQ HPRE HL h1 hs'
    go_wp2_with (go_at_call 18;refine (uh HQ2 _ (uh BW)).mono ?_;rintro e v3 ⟨⟨i03,i13,i23,i33,i43,i53,i63,i73,qa3,la3,ca3,qo3,lo3,co3,rfl⟩,bb⟩;have B3:=hide (bal (below_sub (uh BW) bb) (.cells #[.int .i64 i03,.int .i64 i13,.int .i64 i23,.int .i64 i33,.int .i64 i43,.int .i64 i53,.int .i64 i63,.int .i64 i73,.slice qa3 la3 ca3,.slice qo3 lo3 co3] 29));clear bb)
    go_loopw [11] (fun i wr=>Hid (Below w.heap.size w wr)/\∃ (k:Nat),i=.int .i64 (k:Int)/\k<=text.size/\Hid (pre ++ lineF rest=(Lb text).take k ++ lineF ((Lb text).drop k))) (fun i _=>text.size - (intOf i).toNat)
    case atStart=>exact ⟨B3,k,rfl,hk,HPK⟩
    case round =>
     clear HPK hk ki0 kle
     obtain ⟨BW,k,rfl,hk,HPK⟩:=hrel
     have ki0:(0:Int)<=(k:Int):=by omega
     by_cases hks:k < text.size
     ·have ki1:(k:Int) < (text.size:Int):=by omega
      have ks:k < text.size:=hks
      have hd:=drop_at hks
      have htk:(Lb text).take (k + 1)=(Lb text).take k ++ [text[k]]:=take_snoc_of (by have h:=congrArg (fun l=>l[0]?) hd;rw [List.getElem?_drop] at h;simpa using h)
      obtain ⟨c,hc⟩:∃ c,text[k]=c:=⟨_,rfl⟩
      rw [hc] at hd htk
      have hh:=uh HPK
      rw [hd] at hh
      by_cases h10:c=10
      ·have n10:((c.toNat:Int) != 10)=false:=by rw [h10];rfl
       rw [h10,lineF_end] at hh
       rw [h10] at htk
       have HR2:=hide (uh HR (k + 1) (by rw [hh,htk]))
       have hm:(min ((k:Int) + 1) (text.size:Int)).toNat=k + 1:=by omega
       have hmi:min ((k:Int) + 1) (text.size:Int)<=(text.size:Int):=by omega
       have hmj:0<=min ((k:Int) + 1) (text.size:Int):=by omega
       clear hh hd h10 htk
       go_wp2_with (go_at_call 18;refine (uh HR2 _ (uh BW)).mono ?_;rintro e v4 ⟨⟨i04,i14,i24,i34,i44,i54,i64,i74,qa4,la4,ca4,qo4,lo4,co4,rfl⟩,bb⟩;have B4:=hide (bal (below_sub (uh BW) bb) (.cells #[.int .i64 i04,.int .i64 i14,.int .i64 i24,.int .i64 i34,.int .i64 i44,.int .i64 i54,.int .i64 i64,.int .i64 i74,.slice qa4 la4 ca4,.slice qo4 lo4 co4] 29));clear bb)
       go_ret
       exact ⟨rfl,uh B4⟩
      ·have n10:((c.toNat:Int) != 10)=true:=by
        have:=u8_eq c 10 (by decide)
        rw [bne,show ((c.toNat:Int) == 10)=decide (c=10) from this,decide_eq_false h10];rfl
       have HPK2:=hide (show pre ++ lineF rest=(Lb text).take (k + 1) ++ lineF ((Lb text).drop (k + 1)) by rw [hh,lineF_pass h10,htk];simp)
       clear hh hd h10 htk
       go_wp2
       exact ⟨⟨BW,k + 1,by go_num,by omega,HPK2⟩,by simp [intOf];omega⟩
     ·obtain rfl:k=text.size:=by omega
      have ki1:¬ (text.size:Int) < (text.size:Int):=by omega
      have hm:(min ((text.size:Int) + 1) (text.size:Int)).toNat=text.size:=by omega
      have hmi:min ((text.size:Int) + 1) (text.size:Int)<=(text.size:Int):=by omega
      have hmj:0<=min ((text.size:Int) + 1) (text.size:Int):=by omega
      have hh:=uh HPK
      rw [List.drop_eq_nil_of_le (by have:=uh HLL;omega)] at hh
      have HR2:=hide (uh HR text.size (by rw [hh];simp [lineF,cut10]))
      have hex:text.extract 0 text.size=text:=by simp
      rw [hex] at HR2
      clear hh hex
      go_wp2_with (go_at_call 18;with_reducible refine (uh HR2 _ (uh BW)).mono ?_;rintro e v4 ⟨⟨i04,i14,i24,i34,i44,i54,i64,i74,qa4,la4,ca4,qo4,lo4,co4,rfl⟩,bb⟩;have B4:=hide (bal (below_sub (uh BW) bb) (.cells #[.int .i64 i04,.int .i64 i14,.int .i64 i24,.int .i64 i34,.int .i64 i44,.int .i64 i54,.int .i64 i64,.int .i64 i74,.slice qa4 la4 ca4,.slice qo4 lo4 co4] 29));clear bb)
      go_ret
      exact ⟨rfl,uh B4⟩
theorem scriptAhead_law {w:World} (text:ByteArray) (hz:text.size<=100000000000) (hG:G w) :
  Calls Tryz.prog 7 #[.string text] w fun e w'=>e=.returned (.bool true)/\Below w.heap.size w w':=by
 rcases readS_cases (Lb text) with ⟨s,hs⟩ | ⟨n,hn⟩
 ·exact ahead_good text s hs hz hG
 ·exact ahead_bad text n hn hz hG
end Go.Proofs.YtdgoibnndfibnaaGreatDoor
