/- The contracts of the Go library for strconv.Itoa and for the method String of strings.Builder, laid at this program. -/
import Derived.Shelf.Strconv.Itoa3
import Derived.Shelf.LaysM
import Derived.Shelf.Strings.BuilderK
import Derived.Test.YtdgoibnndfibnaaGreatDoorRShelf
import Derived.Test.YtdgoibnndfibnaaGreatDoorRZag
import Derived.Test.YtdgoibnndfibnaaGreatDoorRSBase
namespace Go.Proofs
open Go.Shelf
def Tryz.lays169_ren:Go.Shelf.Ren:=⟨fun | 169=>59 | n=>n,fun | 70=>98 | 9=>9 | 0=>0 | 72=>100 | 37=>67 | 127=>127 | 3=>3 | 5=>5 | n=>n,fun | n=>n⟩
theorem Tryz.lays169:Go.Proofs.Lays.n169 Tryz.prog Tryz.lays169_ren:={
 mixed:=by kernel_rfl
 f169:=Tryz.func59.trans (congrArg some (by kernel_rfl))
 t0:=Tryz.underlying0
 a0:=Tryz.isAgg0
 z0:=Tryz.sizeOf0
 v0:=Tryz.zeroValue0
 t3:=Tryz.underlying3
 a3:=Tryz.isAgg3
 z3:=Tryz.sizeOf3
 v3:=Tryz.zeroValue3
 t9:=Tryz.underlying9
 a9:=Tryz.isAgg9
 z9:=Tryz.sizeOf9
 v9:=Tryz.zeroValue9
 t37:=Tryz.underlying67
 a37:=Tryz.isAgg67
 z37:=Tryz.sizeOf67
 v37:=Tryz.zeroValue67
 t70:=Tryz.underlying98
 a70:=Tryz.isAgg98
 z70:=Tryz.sizeOf98
 v70:=Tryz.zeroValue98
 t72:=Tryz.underlying100
 a72:=Tryz.isAgg100
 z72:=Tryz.sizeOf100
 v72:=Tryz.zeroValue100
 t127:=Tryz.underlying127
 a127:=Tryz.isAgg127
 z127:=Tryz.sizeOf127
 v127:=Tryz.zeroValue127 }
theorem Tryz.Builder_Extra_169:Builder.Extra Tryz.prog Tryz.lays169_ren:={
 sizeBuilder:=by kernel_rfl
 liesBuilder:=by kernel_rfl
 t5:=Tryz.underlying5
 a5:=Tryz.isAgg5
 z5:=Tryz.sizeOf5
 v5:=Tryz.zeroValue5
 infoByte:=by kernel_rfl
 cellsByte:=by kernel_rfl
 sizeByte:=by kernel_rfl
 neB5:=by decide }
open Go.RowKit in
/-- (*strings.Builder).String: "String returns the accumulated string.": WHATEVER THE BUILDER HOLDS; THE FORM '_k': OVER 'Lib.IsBuilderF' (a builder that 'String()' may have read), AND WITH THE FRAME THAT REACHES ABOVE THE BUILDER: 'Lib.OthersKept': every block that is not b and is no row of uint8's stands as it stood: the iterator of a range among them. (LAID: no walk: one application.) -/
theorem Tryz.Builder_String_any_k (B b:Nat) (l:List UInt8) (w:World) (h:Lib.IsBuilderF 100 5 B b (Lib.byteCells l) w) (hBw:B<=w.heap.size) :
  Calls Tryz.prog 59 #[.pointer (some ⟨b,0,none⟩)] w fun e w'=>e=.returned (.string ⟨l.toArray⟩)/\(Lib.IsBuilderF 100 5 B b (Lib.byteCells l) w'/\Below B w w'/\Lib.OthersKept 5 (some b) w w'):=Any.Builder_String_any_k Tryz.lays169 Tryz.Builder_Extra_169 B b l w h hBw
end Go.Proofs
namespace Go.Proofs.YtdgoibnndfibnaaGreatDoor
open Go.RowKit
theorem opWord_any (k:Int) (w:World) :
  Calls Tryz.prog 65 #[.int .i64 k] w fun e w'=>e=.returned (.string ⟨(opW k).toArray⟩)/\w'=w:=by
 by_cases c1:k=1
 ·subst c1
  go_enter Tryz.func65,Tryz.ntmps65
  go_wp2
  go_ret
  exact ⟨rfl,rfl⟩
 have n1:(k == 1)=false:=by simpa using c1
 by_cases c2:k=2
 ·subst c2
  go_enter Tryz.func65,Tryz.ntmps65
  go_wp2
  go_ret
  exact ⟨rfl,rfl⟩
 have n2:(k == 2)=false:=by simpa using c2
 by_cases c3:k=3
 ·subst c3
  go_enter Tryz.func65,Tryz.ntmps65
  go_wp2
  go_ret
  exact ⟨rfl,rfl⟩
 have n3:(k == 3)=false:=by simpa using c3
 by_cases c4:k=4
 ·subst c4
  go_enter Tryz.func65,Tryz.ntmps65
  go_wp2
  go_ret
  exact ⟨rfl,rfl⟩
 have n4:(k == 4)=false:=by simpa using c4
 by_cases c5:k=5
 ·subst c5
  go_enter Tryz.func65,Tryz.ntmps65
  go_wp2
  go_ret
  exact ⟨rfl,rfl⟩
 have n5:(k == 5)=false:=by simpa using c5
 by_cases c6:k=6
 ·subst c6
  go_enter Tryz.func65,Tryz.ntmps65
  go_wp2
  go_ret
  exact ⟨rfl,rfl⟩
 have n6:(k == 6)=false:=by simpa using c6
 by_cases c7:k=7
 ·subst c7
  go_enter Tryz.func65,Tryz.ntmps65
  go_wp2
  go_ret
  exact ⟨rfl,rfl⟩
 have n7:(k == 7)=false:=by simpa using c7
 have e:opW k=[]:=by unfold opW;rw [if_neg c1,if_neg c2,if_neg c3,if_neg c4,if_neg c5,if_neg c6,if_neg c7]
 rw [e]
 go_enter Tryz.func65,Tryz.ntmps65
 go_wp2
 go_ret
 exact ⟨rfl,rfl⟩
theorem callWord_any (k:Int) (w:World) :
  Calls Tryz.prog 92 #[.int .i64 k] w fun e w'=>e=.returned (.string ⟨(callW k).toArray⟩)/\w'=w:=by
 by_cases c1:k=1
 ·subst c1
  go_enter Tryz.func92,Tryz.ntmps92
  go_wp2
  go_ret
  exact ⟨rfl,rfl⟩
 have n1:(k == 1)=false:=by simpa using c1
 by_cases c2:k=2
 ·subst c2
  go_enter Tryz.func92,Tryz.ntmps92
  go_wp2
  go_ret
  exact ⟨rfl,rfl⟩
 have n2:(k == 2)=false:=by simpa using c2
 by_cases c3:k=3
 ·subst c3
  go_enter Tryz.func92,Tryz.ntmps92
  go_wp2
  go_ret
  exact ⟨rfl,rfl⟩
 have n3:(k == 3)=false:=by simpa using c3
 by_cases c4:k=4
 ·subst c4
  go_enter Tryz.func92,Tryz.ntmps92
  go_wp2
  go_ret
  exact ⟨rfl,rfl⟩
 have n4:(k == 4)=false:=by simpa using c4
 have e:callW k=[]:=by unfold callW;rw [if_neg c1,if_neg c2,if_neg c3,if_neg c4]
 rw [e]
 go_enter Tryz.func92,Tryz.ntmps92
 go_wp2
 go_ret
 exact ⟨rfl,rfl⟩
theorem kindWord_any (k:Int) (w:World) :
  Calls Tryz.prog 56 #[.int .i64 k] w fun e w'=>e=.returned (.string ⟨(kindW k).toArray⟩)/\w'=w:=by
 by_cases c1:k=1
 ·subst c1
  go_enter Tryz.func56,Tryz.ntmps56
  go_wp2
  go_ret
  exact ⟨rfl,rfl⟩
 have n1:(k == 1)=false:=by simpa using c1
 by_cases c2:k=2
 ·subst c2
  go_enter Tryz.func56,Tryz.ntmps56
  go_wp2
  go_ret
  exact ⟨rfl,rfl⟩
 have n2:(k == 2)=false:=by simpa using c2
 have e:kindW k=[]:=by unfold kindW;rw [if_neg c1,if_neg c2]
 rw [e]
 go_enter Tryz.func56,Tryz.ntmps56
 go_wp2
 go_ret
 exact ⟨rfl,rfl⟩
theorem textInForm_any (s:ByteArray) (w:World) :
  Calls Tryz.prog 89 #[.string s] w fun e w'=>e=.returned (.bool (txOk s))/\w'=w:=by
 have e:txOk s=decide ((s.size:Int)<=4096):=by unfold txOk;rw [Bool.eq_iff_iff,decide_eq_true_eq,decide_eq_true_eq];omega
 rw [e]
 go_enter Tryz.func89,Tryz.ntmps89
 go_wp2
 go_ret
 exact ⟨rfl,rfl⟩
theorem idInForm_any (n:Int) (w:World) :
  Calls Tryz.prog 90 #[.int .i64 n] w fun e w'=>e=.returned (.bool (idOk n))/\w'=w:=by
 by_cases h:1<=n
 ·have h1:decide (1<=n)=true:=by simpa using h
  by_cases h2:n<=1099511627776
  ·have h3:decide (n<=1099511627776)=true:=by simpa using h2
   have e:idOk n=true:=by unfold idOk;simp [h,h2]
   rw [e]
   go_enter Tryz.func90,Tryz.ntmps90
   go_wp2
   go_ret
   exact ⟨rfl,rfl⟩
  ·have h3:decide (n<=1099511627776)=false:=by simpa using h2
   have e:idOk n=false:=by unfold idOk;simp [h2]
   rw [e]
   go_enter Tryz.func90,Tryz.ntmps90
   go_wp2
   go_ret
   exact ⟨rfl,rfl⟩
 ·have h1:decide (1<=n)=false:=by simpa using h
  have e:idOk n=false:=by unfold idOk;simp [h]
  rw [e]
  go_enter Tryz.func90,Tryz.ntmps90
  go_wp2
  go_ret
  exact ⟨rfl,rfl⟩
end Go.Proofs.YtdgoibnndfibnaaGreatDoor
namespace Go.Proofs.YtdgoibnndfibnaaGreatDoor
open Go.RowKit Go.Sort
set_option maxHeartbeats 4000000 in
set_option maxRecDepth 100000 in
theorem numbered_any (s:ByteArray) (q:Option Addr) (c:Nat) (l:List Int) (w:World) (hG:G w) (hI:∀ n ∈ l,I64 n) (hz:s.size + l.length * 22<=140737488355328) (hl:SlOf encI 1 w q c l) :
  Calls Tryz.prog 55 #[.string s,.slice q l.length c] w fun e w'=>e=.returned (.string ⟨(Lb s ++ numsB l).toArray⟩)/\Below w.heap.size w w':=by
 obtain ⟨X,HX⟩:∃ X,w.alloc (.cells #[.pointer none,.slice none 0 0] 100)=X:=⟨_,rfl⟩
 have hwX:Below w.heap.size w X:=by rw [<- HX];exact (Below.refl _ _).alloc (Nat.le_refl _) _
 have hb0:Bld w.heap.size w.heap.size [] X:=by rw [<- HX];exact Bld.new w
 have h1:=writeString_any w.heap.size w.heap.size [] s X hb0 (by simp;omega) hwX.size
 have HL:=hide hl
 have HG:=hide hG
 have HI:=hide hI
 have HWX:=hide hwX
 have HZ:=hide hz
 have a0:(l.length:Int)<=140737488355328:=by omega
 clear hl hG hI hwX hb0 hz
 go_enter Tryz.func55,Tryz.ntmps55
 go_wp2_with (go_at_call 58;refine h1.mono ?_;rintro e w1 ⟨rfl,bb,kk⟩;have BB:=hide bb;have KK:=hide kk;clear bb kk)
 clear h1
 go_loopw [12] (fun i wr=>∃ k:Nat,k<=l.length/\i=.int .i64 k/\Hid (Bld w.heap.size w.heap.size (Lb s ++ numsB (l.take k)) wr)/\Hid (Kept w.heap.size w.heap.size X wr)) (fun i _=>l.length - (intOf i).toNat)
 case atStart=>exact ⟨0,by omega,rfl,hide (by have:=uh BB;simpa [numsB_nil,Lb] using this),KK⟩
 case round =>
  clear BB KK
  obtain ⟨k,hk,rfl,HB,HK⟩:=hrel
  obtain ⟨U,rfl⟩:∃ U,U=wr:=⟨_,rfl⟩
  have hbel:Below w.heap.size w U:=(uh HWX).trans (uh HK).1
  have HBEL:=hide hbel
  have hlen:(Lb s ++ numsB (l.take k)).length<=s.size + l.length * 22:=by
   have:=numsB_len (l:=l.take k) (fun n hn=>uh HI n (List.mem_of_mem_take hn))
   rw [List.length_append,show (Lb s).length=s.size from bytes_len s]
   have:(l.take k).length<=l.length:=by simp;omega
   omega
  by_cases hlt:k < l.length
  ·obtain ⟨x,hx⟩:∃ x,l[k]? = some x:=⟨l[k],List.getElem?_eq_getElem hlt⟩
   have hix:I64 x:=uh HI x (List.mem_of_getElem? hx)
   have hlen2:(Lb s ++ numsB (l.take k)).length + 22<=140737488355328:=by
    have h0:=numsB_len (l:=l.take k) (fun n hn=>uh HI n (List.mem_of_mem_take hn))
    have h2:(l.take k).length=k:=by simp;omega
    rw [h2] at h0
    rw [List.length_append,show (Lb s).length=s.size from bytes_len s]
    have:=uh HZ
    omega
   obtain ⟨bb,off,hq,hbb,hc⟩:=intsAt ((uh HL).below hbel) hx
   subst hq
   have ki0:(0:Int)<=(k:Int):=by omega
   have ki1:(k:Int) < (l.length:Int):=by omega
   have h2:=writeString_any w.heap.size w.heap.size (Lb s ++ numsB (l.take k)) ⟨#[32]⟩ U (uh HB) (by show _ + 1<=_;omega) (uh HBEL).size
   have h3:=fun W (hb:Bld w.heap.size w.heap.size (Lb s ++ numsB (l.take k) ++ [32]) W) hs=>writeString_any w.heap.size w.heap.size (Lb s ++ numsB (l.take k) ++ [32]) (itoaB x) W hb (by have:=itoaB_size x hix;rw [List.length_append];show _ + 1 + _<=_;omega) hs
   have HIT:=hide (fun W hW=>itoa_at x hix.1 hix.2 W hW)
   have HTK:=hide (numsB_take hx)
   have FL:=hide trivial
   clear hx hix hbel hlen hlen2
   go_wp2_with (first
    | (go_at_call 58;clear FL;refine h2.mono ?_;rintro e w2 ⟨rfl,d2,k2⟩;have D2:=hide d2;have K2:=hide k2;clear d2 k2 h2)
    | (go_at_call 84;refine (uh HIT _ (by exact G_below (uh HG) ((uh HBEL).trans (uh K2).1))).mono ?_;rintro e w3 ⟨rfl,b3⟩;have B3:=hide b3;clear b3)
    | (go_at_call 58;refine (h3 _ (by exact (uh D2).below (uh B3)) (by exact Nat.le_trans (uh HBEL).size (Nat.le_trans (uh K2).1.size (uh B3).size))).mono ?_;rintro e w4 ⟨rfl,d4,k4⟩;have D4:=hide d4;have K4:=hide k4;clear d4 k4 h3))
   refine ⟨⟨k + 1,by omega,by go_num,hide ?_,hide ((uh HK).trans ((uh K2).trans ((Kept.of (uh B3) (Nat.le_trans (uh HBEL).size (uh K2).1.size)).trans (uh K4))))⟩,by simp [intOf];omega⟩
   have:=uh D4
   rw [itoaB_list] at this
   rw [uh HTK]
   simpa using this
  ·have ki1:¬ (k:Int) < (l.length:Int):=by omega
   obtain rfl:k=l.length:=by omega
   have h4:=Tryz.Builder_String_any_k w.heap.size w.heap.size (Lb s ++ numsB l) U (by have:=uh HB;rw [List.take_length] at this;exact this) (uh HBEL).size
   clear hbel hlen
   go_wp2_with (go_at_call 59;refine h4.mono ?_;rintro e w2 ⟨rfl,d2,k2,_⟩;have K2:=hide k2;clear d2 k2)
   go_ret
   exact ⟨rfl,(uh HBEL).trans (uh K2)⟩
end Go.Proofs.YtdgoibnndfibnaaGreatDoor
namespace Go.Proofs.YtdgoibnndfibnaaGreatDoor
open Go.RowKit Go.Sort
theorem name_len {s:ByteArray} (h:Sc.nameOk s=true):s.size<=32:=by
 unfold Sc.nameOk at h
 simp only [Bool.and_eq_true,decide_eq_true_eq] at h
 exact h.1.1.2
theorem chk_len {k n:Int} {s:ByteArray} (h:chkV k n s=0):(textB k n s).size<=260:=by
 have hs:s.size<=64:=by
  rcases chk_range h with ⟨_,_,_,h⟩ | ⟨_,_,h⟩ <;> omega
 rw [<- bytes_len]
 rcases textB_ok h with ⟨_,i1,_,e⟩ | ⟨_,_,e⟩
 ·show (Lb _).length<=_
  rw [e];have:=itoa_len n i1.1 i1.2;omega
 ·show (Lb _).length<=_
  rw [e]
  have h2:=escs_le (Lb s)
  have h3:(Lb s).length=s.size:=bytes_len s
  simp only [quoteL,List.length_append,List.length_cons,List.length_nil]
  omega
theorem pair_parts {p:Pq} (h:pairOk p=true):Sc.nameOk p.1=true/\chkV p.2.1 p.2.2.1 p.2.2.2=0:=by
 unfold pairOk at h
 rw [Bool.and_eq_true,decide_eq_true_eq] at h
 exact h
theorem pairW_len {p:Pq} (h:pairOk p=true):(pairW p).length<=293:=by
 obtain ⟨h1,h2⟩:=pair_parts h
 have h3:=name_len h1
 have h4:=chk_len h2
 simp only [pairW,List.length_append,List.length_cons]
 rw [show (Lb p.1).length=p.1.size from bytes_len _,show (Lb (textB p.2.1 p.2.2.1 p.2.2.2)).length=(textB p.2.1 p.2.2.1 p.2.2.2).size from bytes_len _]
 omega
theorem pairsB_take {l:List Pq} {k:Nat} {x:Pq} (h:l[k]? = some x):pairsB (l.take (k + 1))=pairsB (l.take k) ++ (32 :: pairW x):=by
 rw [List.take_add_one,h]
 simp [pairsB,tailW]
theorem pairsB_len {l:List Pq} (h:∀ p ∈ l,pairOk p=true):(pairsB l).length<=l.length * 294:=by
 induction l with
 | nil=>simp [pairsB,tailW]
 | cons p l ih =>
  have h1:=pairW_len (h p (by simp))
  have h2:=ih fun m hm=>h m (by simp [hm])
  have e:pairsB (p :: l)=32 :: pairW p ++ pairsB l:=by simp [pairsB,tailW]
  rw [e]
  simp only [List.length_cons,List.length_append]
  omega
set_option maxHeartbeats 8000000 in
set_option maxRecDepth 100000 in
theorem paired_any (s:ByteArray) (q:Option Addr) (c:Nat) (l:List Pq) (w:World) (hG:G w) (hI:∀ p ∈ l,pairOk p=true) (hz:s.size + l.length * 294<=140737488355328) (hl:SlOf encQ 4 w q c l) :
  Calls Tryz.prog 94 #[.string s,.slice q l.length c] w fun e w'=>e=.returned (.string ⟨(Lb s ++ pairsB l).toArray⟩)/\Below w.heap.size w w':=by
 obtain ⟨X,HX⟩:∃ X,w.alloc (.cells #[.pointer none,.slice none 0 0] 100)=X:=⟨_,rfl⟩
 have hwX:Below w.heap.size w X:=by rw [<- HX];exact (Below.refl _ _).alloc (Nat.le_refl _) _
 have hb0:Bld w.heap.size w.heap.size [] X:=by rw [<- HX];exact Bld.new w
 have h1:=writeString_any w.heap.size w.heap.size [] s X hb0 (by simp;omega) hwX.size
 have HL:=hide hl
 have HG:=hide hG
 have HI:=hide hI
 have HWX:=hide hwX
 have HZ:=hide hz
 have a0:(l.length:Int)<=140737488355328:=by omega
 clear hl hG hI hwX hb0 hz
 go_enter Tryz.func94,Tryz.ntmps94
 go_wp2_with (go_at_call 58;refine h1.mono ?_;rintro e w1 ⟨rfl,bb,kk⟩;have BB:=hide bb;have KK:=hide kk;clear bb kk)
 clear h1
 go_loopw [14] (fun i wr=>∃ k:Nat,k<=l.length/\i=.int .i64 k/\Hid (Bld w.heap.size w.heap.size (Lb s ++ pairsB (l.take k)) wr)/\Hid (Kept w.heap.size w.heap.size X wr)) (fun i _=>l.length - (intOf i).toNat)
 case atStart=>exact ⟨0,by omega,rfl,hide (by have:=uh BB;simpa [pairsB,tailW,Lb] using this),KK⟩
 case round =>
  clear BB KK
  obtain ⟨k,hk,rfl,HB,HK⟩:=hrel
  obtain ⟨U,rfl⟩:∃ U,U=wr:=⟨_,rfl⟩
  have hbel:Below w.heap.size w U:=(uh HWX).trans (uh HK).1
  have HBEL:=hide hbel
  by_cases hlt:k < l.length
  ·obtain ⟨x,hx⟩:∃ x,l[k]? = some x:=⟨l[k],List.getElem?_eq_getElem hlt⟩
   have hix:pairOk x=true:=uh HI x (List.mem_of_getElem? hx)
   have hlen2:(Lb s ++ pairsB (l.take k)).length + 294<=140737488355328:=by
    have h0:=pairsB_len (l:=l.take k) (fun n hn=>uh HI n (List.mem_of_mem_take hn))
    have h2:(l.take k).length=k:=by simp;omega
    rw [h2] at h0
    rw [List.length_append,show (Lb s).length=s.size from bytes_len s]
    have:=uh HZ
    omega
   obtain ⟨bb,off,hq,hbb,c0,c1,c2,c3⟩:=pairsAt ((uh HL).below hbel) hx
   subst hq
   obtain ⟨n1,n2⟩:=pair_parts hix
   have n3:=name_len n1
   have n4:=chk_len n2
   have ki0:(0:Int)<=(k:Int):=by omega
   have ki1:(k:Int) < (l.length:Int):=by omega
   obtain ⟨tx,Htx⟩:∃ tx,textB x.2.1 x.2.2.1 x.2.2.2=tx:=⟨_,rfl⟩
   obtain ⟨cc,Hcc⟩:∃ cc,chkV x.2.1 x.2.2.1 x.2.2.2=cc:=⟨_,rfl⟩
   have htx:=fun W hW=>text_any x.2.1 x.2.2.1 x.2.2.2 W hW
   rw [Htx,Hcc] at htx
   rw [Htx] at n4
   have HW4:=hide (show 32 :: pairW x=[32] ++ Lb x.1 ++ [61] ++ Lb tx by unfold pairW;rw [Htx];simp)
   obtain ⟨A,hA⟩:∃ A,Lb s ++ pairsB (l.take k)=A:=⟨_,rfl⟩
   rw [hA] at hlen2
   rw [hA] at HB
   have HA:=hide hA
   have h2:=writeString_any w.heap.size w.heap.size A ⟨#[32]⟩ 
   have h3:=writeString_any w.heap.size w.heap.size (A ++ [32]) x.1
   have h4:=writeString_any w.heap.size w.heap.size (A ++ [32] ++ Lb x.1) ⟨#[61]⟩
   have h5:=writeString_any w.heap.size w.heap.size (A ++ [32] ++ Lb x.1 ++ [61]) tx
   have HTX:=hide htx
   have HTK:=hide (pairsB_take hx)
   have FL1:=hide trivial
   have FL2:=hide trivial
   have FL3:=hide trivial
   have L1:A.length + (⟨#[32]⟩:ByteArray).size<=140737488355328:=by show _ + 1<=_;omega
   have L2:(A ++ [32]).length + x.1.size<=140737488355328:=by simp only [List.length_append,List.length_cons,List.length_nil];omega
   have L3:(A ++ [32] ++ Lb x.1).length + (⟨#[61]⟩:ByteArray).size<=140737488355328:=by
    simp only [List.length_append,List.length_cons,List.length_nil];rw [show (Lb x.1).length=x.1.size from bytes_len _];show _ + 1<=_;omega
   have L4:(A ++ [32] ++ Lb x.1 ++ [61]).length + tx.size<=140737488355328:=by
    simp only [List.length_append,List.length_cons,List.length_nil];rw [show (Lb x.1).length=x.1.size from bytes_len _];omega
   obtain ⟨Y,HY⟩:∃ Y,U.alloc (.cells #[.string x.1,.int .i64 x.2.1,.int .i64 x.2.2.1,.string x.2.2.2] 78)=Y:=⟨_,rfl⟩
   have bY:Below U.heap.size U Y:=by rw [<- HY];exact (Below.refl _ _).alloc (Nat.le_refl _) _
   have hY:Y.heap[U.heap.size]? = some (.cells #[.string x.1,.int .i64 x.2.1,.int .i64 x.2.2.1,.string x.2.2.2] 78 (0,0)):=by rw [<- HY];exact box_new _ _
   have of4:∀ W:World,Below Y.heap.size Y W->W.cell? ⟨U.heap.size,0,none⟩=some (.string x.1)/\W.cell? ⟨U.heap.size,1,none⟩=some (.int .i64 x.2.1)/\W.cell? ⟨U.heap.size,2,none⟩=some (.int .i64 x.2.2.1)/\W.cell? ⟨U.heap.size,3,none⟩=some (.string x.2.2.2):=fun W hW=>by
    have hh:W.heap[U.heap.size]? = some (.cells #[.string x.1,.int .i64 x.2.1,.int .i64 x.2.2.1,.string x.2.2.2] 78 (0,0)):=(hW.block _ (heap_lt hY)).trans hY
    exact ⟨by unfold World.cell?;simp [hh],by unfold World.cell?;simp [hh],by unfold World.cell?;simp [hh],by unfold World.cell?;simp [hh]⟩
   obtain ⟨y0,y1,y2,y3⟩:=of4 Y (Below.refl _ _)
   have O4:=hide of4
   have BY:=hide bY
   have NB:=hide (show w.heap.size < U.heap.size from by have:=(uh HK).1.size;have e:X.heap.size=w.heap.size + 1:=(by rw [<- HX];simp);omega)
   have YB:=hide hY
   clear hx hix hbel hlen2 n1 n2 n3 n4 Htx Hcc htx hA of4 bY hY
   go_wp2_with (first
    | (go_at_call 117;refine (uh HTX _ (by exact G_below (uh HG) ((uh HBEL).trans ((uh BY).mono (uh HBEL).size)))).mono ?_;rintro e w2 ⟨rfl,b2⟩;have B2:=hide (below_sub (uh BY) b2);have BYW:=hide b2;clear b2)
    | (go_at_call 58;clear FL1;refine (h2 _ (by exact (uh HB).below (uh B2)) L1 (by exact Nat.le_trans (uh HBEL).size (uh B2).size)).mono ?_;rintro e w3 ⟨rfl,d3,k3⟩;have D3:=hide d3;have K3:=hide k3;clear d3 k3 h2 y0 y1 y2 y3;have hq:w3.heap[U.heap.size]? = some (.cells #[.string x.1,.int .i64 x.2.1,.int .i64 x.2.2.1,.string x.2.2.2] 78 (0,0)):=(uh K3).2 _ _ (((uh BYW).block _ (heap_lt (uh YB))).trans (uh YB)) (by intro e;injection e with e;have:=uh NB;omega) (by intro c fz e;injection e with _ h;cases h);have y0:w3.cell? ⟨U.heap.size,0,none⟩=some (.string x.1):=(by unfold World.cell?;simp [hq]);clear hq)
    | (go_at_call 58;clear FL2;refine (h3 _ (by exact uh D3) L2 (by exact Nat.le_trans (Nat.le_trans (uh HBEL).size (uh B2).size) (uh K3).1.size)).mono ?_;rintro e w4 ⟨rfl,d4,k4⟩;have D4:=hide d4;have K4:=hide k4;clear d4 k4 h3 y0)
    | (go_at_call 58;clear FL3;refine (h4 _ (by exact uh D4) L3 (by exact Nat.le_trans (Nat.le_trans (Nat.le_trans (uh HBEL).size (uh B2).size) (uh K3).1.size) (uh K4).1.size)).mono ?_;rintro e w5 ⟨rfl,d5,k5⟩;have D5:=hide d5;have K5:=hide k5;clear d5 k5 h4)
    | (go_at_call 58;refine (h5 _ (by exact uh D5) L4 (by exact Nat.le_trans (Nat.le_trans (Nat.le_trans (Nat.le_trans (uh HBEL).size (uh B2).size) (uh K3).1.size) (uh K4).1.size) (uh K5).1.size)).mono ?_;rintro e w6 ⟨rfl,d6,k6⟩;have D6:=hide d6;have K6:=hide k6;clear d6 k6 h5))
   refine ⟨⟨k + 1,by omega,by go_num,hide ?_,hide ((uh HK).trans ((Kept.of (uh B2) (uh HBEL).size).trans ((uh K3).trans ((uh K4).trans ((uh K5).trans (uh K6))))))⟩,by simp [intOf];omega⟩
   have:=uh D6
   rw [uh HTK,<- List.append_assoc,uh HA,uh HW4]
   simpa [Lb] using this
  ·have ki1:¬ (k:Int) < (l.length:Int):=by omega
   obtain rfl:k=l.length:=by omega
   have h4:=Tryz.Builder_String_any_k w.heap.size w.heap.size (Lb s ++ pairsB l) U (by have:=uh HB;rw [List.take_length] at this;exact this) (uh HBEL).size
   clear hbel
   go_wp2_with (go_at_call 59;refine h4.mono ?_;rintro e w2 ⟨rfl,d2,k2,_⟩;have K2:=hide k2;clear d2 k2)
   go_ret
   exact ⟨rfl,(uh HBEL).trans (uh K2)⟩
end Go.Proofs.YtdgoibnndfibnaaGreatDoor
