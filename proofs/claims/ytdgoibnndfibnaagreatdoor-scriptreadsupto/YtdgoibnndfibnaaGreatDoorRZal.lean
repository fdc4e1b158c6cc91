/- The words of a line, read: the end of a word, a blank taken off, a cut at a byte. -/
import Derived.Test.YtdgoibnndfibnaaGreatDoorRZak
import Derived.Shelf.Strconv.Clone
namespace Go.Proofs.YtdgoibnndfibnaaGreatDoor
open Go.RowKit Go.Sort
theorem u8_eq (c:UInt8) (n:Nat) (hn:n < 256):((c.toNat:Int) == (n:Int))=decide (c=UInt8.ofNat n):=by
 rw [Bool.eq_iff_iff,beq_iff_eq,decide_eq_true_eq,<- UInt8.toNat_inj,UInt8.toNat_ofNat',Nat.mod_eq_of_lt hn];omega
theorem drop_at {s:ByteArray} {k:Nat} (h:k < s.size):(Lb s).drop k=s[k] :: (Lb s).drop (k + 1):=by
 have h2:k < (Lb s).length:=by rw [show (Lb s).length=s.size from bytes_len s];exact h
 rw [List.drop_eq_getElem_cons h2]
 congr 1
def WInv (L:Bs) (k:Nat) (q:Bool):Prop:=(k<=L.length/\wEnd false L=k + wEnd q (L.drop k)) ∨ (k=L.length + 1/\wEnd false L=L.length)
set_option maxHeartbeats 4000000 in
set_option maxRecDepth 100000 in
theorem wordEnd_any (s:ByteArray) (w:World) (hz:s.size<=140737488355328) :
  Calls Tryz.prog 97 #[.string s] w fun e w'=>e=.returned (.int .i64 (wEnd false (Lb s):Nat))/\w'=w:=by
 have hL:(Lb s).length=s.size:=bytes_len s
 have a0:(s.size:Int)<=140737488355328:=by omega
 have HL:=hide hL
 clear hL
 go_enter Tryz.func97,Tryz.ntmps97
 go_wp2
 go_loopw [3,4] (fun vq vi wr=>wr=w/\∃ (k:Nat) (q:Bool),vi=.int .i64 (k:Int)/\vq=.bool q/\k<=s.size + 1/\Hid (WInv (Lb s) k q)) (fun _ i _=>s.size + 2 - (intOf i).toNat)
 case atStart=>exact ⟨rfl,0,false,rfl,rfl,by omega,hide (Or.inl ⟨by omega,by simp⟩)⟩
 case round =>
  obtain ⟨rfl,k,q,rfl,rfl,hk,HW⟩:=hrel
  by_cases hlt:k < s.size
  ·have ki0:(0:Int)<=(k:Int):=by omega
   have ki1:(k:Int) < (s.size:Int):=by omega
   have ks:k < s.size:=hlt
   have hinv:wEnd false (Lb s)=k + wEnd q ((Lb s).drop k):=by
    rcases uh HW with h | h
    ·exact h.2
    ·have:=uh HL;omega
   have hd:=drop_at hlt
   have HI:=hide hinv
   have HD:=hide hd
   obtain ⟨c,hc⟩:∃ c,s[k]=c:=⟨_,rfl⟩
   have e92:=u8_eq c 92 (by decide)
   have e34:=u8_eq c 34 (by decide)
   have e32:=u8_eq c 32 (by decide)
   have HC:=hide hc
   clear hinv hd HW
   by_cases h92:c=92
   ·have n92:((c.toNat:Int) == 92)=true:=by rw [h92];rfl
    clear e92 e34 e32
    go_wp2
    refine ⟨⟨(by first | trivial | rfl),k + 2,q,by go_num,rfl,by omega,hide ?_⟩,by simp [intOf];omega⟩
    have h1:=uh HI
    rw [uh HD,uh HC,h92] at h1
    by_cases h2:k + 1 < s.size
    ·rw [drop_at h2,wEnd_esc,show (Lb s).drop (k + 1 + 1)=(Lb s).drop (k + 2) from rfl] at h1
     exact Or.inl ⟨by have:=uh HL;omega,by rw [h1];omega⟩
    ·have:(Lb s).drop (k + 1)=[]:=List.drop_eq_nil_of_le (by have:=uh HL;omega)
     rw [this] at h1
     exact Or.inr ⟨by have:=uh HL;omega,by rw [h1];have:=uh HL;simp [wEnd];omega⟩
   ·have n92:((c.toNat:Int) == 92)=false:=by rw [show ((c.toNat:Int) == 92)=decide (c=92) from e92];exact decide_eq_false h92
    by_cases h34:c=34
    ·have n34:((c.toNat:Int) == 34)=true:=by rw [h34];rfl
     clear e92 e34 e32
     go_wp2
     refine ⟨⟨(by first | trivial | rfl),k + 1, !q,by go_num,rfl,by omega,hide ?_⟩,by simp [intOf];omega⟩
     have h1:=uh HI
     rw [uh HD,uh HC,wEnd_cons h92,if_pos h34] at h1
     exact Or.inl ⟨by have:=uh HL;omega,by rw [h1];omega⟩
    ·have n34:((c.toNat:Int) == 34)=false:=by rw [show ((c.toNat:Int) == 34)=decide (c=34) from e34];exact decide_eq_false h34
     by_cases h32:c=32
     ·have n32:((c.toNat:Int) == 32)=true:=by rw [h32];rfl
      cases q with
      | false =>
       clear e92 e34 e32
       go_wp2
       go_ret
       refine ⟨?_,rfl⟩
       have h1:=uh HI
       rw [uh HD,uh HC,wEnd_cons h92,if_neg h34,if_pos ⟨h32,rfl⟩] at h1
       rw [h1];rfl
      | true =>
       clear e92 e34 e32
       go_wp2
       refine ⟨⟨(by first | trivial | rfl),k + 1,true,by go_num,rfl,by omega,hide ?_⟩,by simp [intOf];omega⟩
       have h1:=uh HI
       rw [uh HD,uh HC,wEnd_cons h92,if_neg h34,if_neg (by simp)] at h1
       exact Or.inl ⟨by have:=uh HL;omega,by rw [h1];omega⟩
     ·have n32:((c.toNat:Int) == 32)=false:=by rw [show ((c.toNat:Int) == 32)=decide (c=32) from e32];exact decide_eq_false h32
      clear e92 e34 e32
      go_wp2
      refine ⟨⟨(by first | trivial | rfl),k + 1,q,by go_num,rfl,by omega,hide ?_⟩,by simp [intOf];omega⟩
      have h1:=uh HI
      rw [uh HD,uh HC,wEnd_cons h92,if_neg h34,if_neg (by simp [h32])] at h1
      exact Or.inl ⟨by have:=uh HL;omega,by rw [h1];omega⟩
  ·have ki1:¬ (k:Int) < (s.size:Int):=by omega
   have he:wEnd false (Lb s)=s.size:=by
    have hL:=uh HL
    rcases uh HW with ⟨h1,h2⟩ | ⟨h1,h2⟩
    ·rw [List.drop_eq_nil_of_le (by omega)] at h2;rw [h2];simp [wEnd];omega
    ·omega
   clear HW
   have HE:=hide he
   clear he
   go_wp2
   go_ret
   exact ⟨by rw [uh HE];rfl,rfl⟩
theorem trim_any (s:ByteArray) (w:World):Calls Tryz.prog 98 #[.string s,.string ⟨#[32]⟩] w fun e w'=>e=.returned (.string ⟨(trimP (Lb s)).toArray⟩)/\w'=w:=by
 have hp:∀ W:World,Calls Tryz.prog 145 #[.string s,.string ⟨#[32]⟩] W fun e w'=>e=.returned (.bool (Lib.hasPrefix s.data.toList (⟨#[32]⟩:ByteArray).data.toList))/\w'=W:=fun W=>Any.stringslite_HasPrefix { Tryz.lays99 with } s ⟨#[32]⟩ W
 have h123:∀ W,Calls Tryz.prog 123 #[.string s,.string ⟨#[32]⟩] W fun e w'=>e=.returned (.string ⟨(trimP (Lb s)).toArray⟩)/\w'=W:=fun W=>by
  cases hL:Lb s with
  | nil =>
   have h0:s=⟨#[]⟩:=lb_inj (by rw [hL];rfl)
   have e:Lib.hasPrefix s.data.toList (⟨#[32]⟩:ByteArray).data.toList=false:=by rw [h0];rfl
   rw [e] at hp
   clear h0 e
   go_enter Tryz.func123,Tryz.ntmps123
   go_wp2_with (go_at_call 145;refine (hp _).mono ?_;rintro e w1 ⟨rfl,h1⟩;obtain rfl:=h1.symm)
   go_ret
   exact ⟨ret_str2 (by show Lb s=_;rw [hL];rfl),rfl⟩
  | cons c r =>
   by_cases h32:c=32
   ·have e:Lib.hasPrefix s.data.toList (⟨#[32]⟩:ByteArray).data.toList=true:=by
     show List.isPrefixOf [32] (Lb s)=true
     rw [hL,h32];rfl
    rw [e] at hp
    have hs:s.size=r.length + 1:=by rw [<- bytes_len];show (Lb s).length=_;rw [hL];rfl
    have hs1:(1:Int)<=(s.size:Int):=by omega
    go_enter Tryz.func123,Tryz.ntmps123
    go_wp2_with (go_at_call 145;refine (hp _).mono ?_;rintro e w1 ⟨rfl,h1⟩;obtain rfl:=h1.symm)
    go_ret
    refine ⟨ret_str2 ?_,rfl⟩
    rw [<- hs,extract_all]
    show (Lb s).drop 1=_
    rw [hL]
    simp [trimP,h32]
   ·have e:Lib.hasPrefix s.data.toList (⟨#[32]⟩:ByteArray).data.toList=false:=by
     show List.isPrefixOf [32] (Lb s)=false
     rw [hL]
     simp [List.isPrefixOf]
     exact fun h=>h32 h.symm
    rw [e] at hp
    go_enter Tryz.func123,Tryz.ntmps123
    go_wp2_with (go_at_call 145;refine (hp _).mono ?_;rintro e w1 ⟨rfl,h1⟩;obtain rfl:=h1.symm)
    go_ret
    refine ⟨ret_str2 ?_,rfl⟩
    show Lb s=_
    rw [hL];simp [trimP,h32]
 go_enter Tryz.func98,Tryz.ntmps98
 go_wp2_with (go_at_call 123;refine (h123 _).mono ?_;rintro e w1 ⟨rfl,h1⟩;obtain rfl:=h1.symm)
 go_ret
 exact ⟨rfl,rfl⟩
end Go.Proofs.YtdgoibnndfibnaaGreatDoor
namespace Go.Proofs.YtdgoibnndfibnaaGreatDoor
open Go.RowKit Go.Sort
/-- A text cut at the first byte c. -/
def cutB (c:UInt8):Bs->Option (Bs × Bs)
  | []=>none
  | b :: r=>if b=c then some ([],r) else (cutB c r).map fun x=>(b :: x.1,x.2)
theorem cutB_10 (l:Bs):cutB 10 l=cut10 l:=by
 induction l with
 | nil=>rfl
 | cons b r ih=>rw [cutB,cut10,ih]
theorem cutB_61 (l:Bs):cut61 l=(cutB 61 l).getD (l,[]):=by
 induction l with
 | nil=>rfl
 | cons b r ih =>
  rw [cutB,cut61]
  split
  ·rfl
  ·rw [ih]
   cases cutB 61 r <;> rfl
theorem idx_ge (c:UInt8) (l:Bs):-1<=Lib.indexByte l c:=by
 induction l with
 | nil=>simp [Lib.indexByte]
 | cons b r ih =>
  rw [Lib.indexByte]
  split
  ·omega
  ·split
   ·omega
   ·omega
theorem idx_lt (c:UInt8) (l:Bs):Lib.indexByte l c < l.length:=by
 induction l with
 | nil=>simp [Lib.indexByte]
 | cons b r ih =>
  rw [Lib.indexByte,List.length_cons]
  split
  ·omega
  ·split
   ·omega
   ·omega
theorem cutB_idx (c:UInt8) (l:Bs):cutB c l=if Lib.indexByte l c=-1 then none else some (l.take (Lib.indexByte l c).toNat,l.drop ((Lib.indexByte l c).toNat + 1)):=by
 induction l with
 | nil=>rfl
 | cons b r ih =>
  rw [cutB,Lib.indexByte,ih]
  by_cases hb:b=c
  ·subst hb;simp
  ·have h1:(b == c)=false:=by simpa using hb
   rw [if_neg hb,h1]
   simp only [Bool.false_eq_true,if_false]
   by_cases hi:Lib.indexByte r c=-1
   ·simp [hi]
   ·have h2:(Lib.indexByte r c == -1)=false:=by simpa using hi
    have h3:=idx_ge c r
    rw [if_neg hi,h2]
    simp only [Bool.false_eq_true,if_false]
    rw [if_neg (by omega)]
    have h4:(Lib.indexByte r c + 1).toNat=(Lib.indexByte r c).toNat + 1:=by omega
    rw [h4]
    simp
theorem wrap_id (n:Int) (h0:-9223372036854775808<=n) (h1:n<=9223372036854775807):IntKind.i64.wrap n=n:=by
 have e:(2:Int) ^ IntKind.i64.bits=18446744073709551616:=by decide
 have e2:(2:Int) ^ (IntKind.i64.bits - 1)=9223372036854775808:=by decide
 simp only [IntKind.wrap,e,e2,show IntKind.i64.signed=true from rfl,Bool.true_and,decide_eq_true_eq]
 split <;> omega
/-- What strings.Cut answers. -/
def cutA (c:UInt8) (s:ByteArray):ByteArray:=match cutB c (Lb s) with | none=>s | some x=>⟨x.1.toArray⟩
def cutZ (c:UInt8) (s:ByteArray):ByteArray:=match cutB c (Lb s) with | none=>⟨#[]⟩ | some x=>⟨x.2.toArray⟩
set_option maxHeartbeats 4000000 in
set_option maxRecDepth 100000 in
theorem index_any (s:ByteArray) (c:UInt8) (w:World):Calls Tryz.prog 96 #[.string s,.string ⟨#[c]⟩] w fun e w'=>e=.returned (.int .i64 (Lib.indexByte (Lb s) c))/\w'=w:=by
 have hI:∀ W:World,Calls Tryz.prog 119 #[.string s,.int .u8 (c.toNat:Int)] W fun e w'=>e=.returned (.int .i64 (Lib.indexByte (Lb s) c))/\w'=W:=fun W=>by
  have h:=Any.stringslite_IndexByte { Tryz.lays137 with } s (c.toNat:Int) W
  rw [show ((c.toNat:Int).toNat.toUInt8)=c by simp] at h
  exact h
 by_cases he:s=⟨#[c]⟩
 ·have e0:Lib.indexByte (Lb s) c=0:=by rw [he];simp [Lb,Lib.indexByte]
  rw [e0,he]
  clear hI he e0
  go_enter Tryz.func96,Tryz.ntmps96
  go_wp2
  go_ret
  exact ⟨rfl,rfl⟩
 ·have e1:((⟨#[c]⟩:ByteArray).toList == s.toList)=false:=by
   rw [beq_eq_false_iff_ne]
   intro h;exact he (ba_ext h.symm)
  have e2:([c] == s.toList)=false:=by
   rw [beq_eq_false_iff_ne]
   intro h;exact he (ba_ext (by rw [<- h];simp [ByteArray.toList_eq]))
  have e3:¬ [c]=s.toList:=by simpa using e2
  have e4:¬ (⟨#[c]⟩:ByteArray)=s:=fun h=>he h.symm
  clear he
  go_enter Tryz.func96,Tryz.ntmps96
  go_wp2_with (go_at_call 119;refine (hI _).mono ?_;rintro e w1 ⟨rfl,h1⟩;obtain rfl:=h1.symm)
  go_ret
  exact ⟨rfl,rfl⟩
set_option maxHeartbeats 4000000 in
set_option maxRecDepth 100000 in
theorem slCut_any (s:ByteArray) (c:UInt8) (w:World) (hz:s.size<=140737488355328):Calls Tryz.prog 69 #[.string s,.string ⟨#[c]⟩] w fun e w'=>e=.returned (.tuple #[.string (cutA c s),.string (cutZ c s),.bool (cutB c (Lb s)).isSome])/\Below w.heap.size w w':=by
 have mixed:Tryz.prog.follows .mixedOrders=true:=by kernel_rfl
 have hI:=fun W=>index_any s c W
 have hC:=cutB_idx c (Lb s)
 have hlt:=idx_lt c (Lb s)
 rw [show (Lb s).length=s.size from bytes_len s] at hlt
 unfold cutA cutZ
 by_cases h1:Lib.indexByte (Lb s) c=-1
 ·rw [if_pos h1] at hC
  rw [h1] at hI
  rw [hC]
  simp only [Option.isSome_none]
  clear hC hlt h1
  go_enter Tryz.func69,Tryz.ntmps69
  go_wp2_with (go_at_call 96;refine (hI _).mono ?_;rintro e w1 ⟨rfl,h1⟩;obtain rfl:=h1.symm)
  go_ret3
  exact ⟨rfl,Below.refl _ _⟩
 ·rw [if_neg h1] at hC
  have h2:=idx_ge c (Lb s)
  obtain ⟨i,hi⟩:∃ i:Nat,Lib.indexByte (Lb s) c=(i:Int):=⟨(Lib.indexByte (Lb s) c).toNat,by omega⟩
  rw [hi] at hI hC hlt
  rw [Int.toNat_natCast] at hC
  rw [hC]
  simp only [Option.isSome_some]
  have a0:(0:Int)<=(i:Int):=by omega
  have a1:(i:Int)<=(s.size:Int):=by omega
  have a2:(i:Int) + 1<=(s.size:Int):=by omega
  have a3:IntKind.i64.wrap ((i:Int) + 1)=(i:Int) + 1:=wrap_id _ (by omega) (by omega)
  have a4:(0:Int)<=(i:Int) + 1:=by omega
  have eA:s.extract 0 i=⟨((Lb s).take i).toArray⟩:=str_eq (by rw [ByteArray.data_extract,Array.toList_extract,List.extract_eq_take_drop];simp [Lb])
  have eB:s.extract (i + 1) s.size=⟨((Lb s).drop (i + 1)).toArray⟩:=str_eq (extract_all s (i + 1))
  have EA:=hide eA
  have EB:=hide eB
  clear hC hlt h1 h2 hi eA eB
  go_enter Tryz.func69,Tryz.ntmps69
  go_wp2_with (go_at_call 96;refine (hI _).mono ?_;rintro e w1 ⟨rfl,h1⟩;obtain rfl:=h1.symm)
  go_region_held3 (fun _=>True) (go_keep) (fail)
  go_wp2
  go_ret3
  exact ⟨by rw [uh EA,uh EB];rfl,(Below.refl _ _).drew⟩
theorem cut_any (s:ByteArray) (c:UInt8) (w:World) (hz:s.size<=140737488355328):Calls Tryz.prog 40 #[.string s,.string ⟨#[c]⟩] w fun e w'=>e=.returned (.tuple #[.string (cutA c s),.string (cutZ c s),.bool (cutB c (Lb s)).isSome])/\Below w.heap.size w w':=by
 have h:=fun W=>slCut_any s c W hz
 go_enter Tryz.func40,Tryz.ntmps40
 go_wp2_with (go_at_call 69;refine (h _).mono ?_;rintro e w1 ⟨rfl,h1⟩;have B1:=hide h1;clear h1)
 go_ret3
 exact ⟨rfl,uh B1⟩
end Go.Proofs.YtdgoibnndfibnaaGreatDoor
namespace Go.Proofs
open Go.Shelf
def Tryz.cloneStr_ren:Go.Shelf.Ren:=⟨fun | 316=>148 | n=>n,fun | 9=>9 | 3=>3 | 4=>4 | 37=>67 | 0=>0 | 127=>127 | 5=>5 | n=>n,fun | n=>n⟩
theorem Tryz.cloneStr:Go.Proofs.LaysM.n316 Tryz.prog Tryz.cloneStr_ren:={
 mixed:=by kernel_rfl
 f316:=Tryz.func148.trans (congrArg some (by kernel_rfl))
 t0:=Tryz.underlying0
 a0:=Tryz.isAgg0
 z0:=Tryz.sizeOf0
 v0:=Tryz.zeroValue0
 t3:=Tryz.underlying3
 a3:=Tryz.isAgg3
 z3:=Tryz.sizeOf3
 v3:=Tryz.zeroValue3
 t4:=Tryz.underlying4
 a4:=Tryz.isAgg4
 z4:=Tryz.sizeOf4
 v4:=Tryz.zeroValue4
 t9:=Tryz.underlying9
 a9:=Tryz.isAgg9
 z9:=Tryz.sizeOf9
 v9:=Tryz.zeroValue9
 t37:=Tryz.underlying67
 a37:=Tryz.isAgg67
 z37:=Tryz.sizeOf67
 v37:=Tryz.zeroValue67
 t127:=Tryz.underlying127
 a127:=Tryz.isAgg127
 z127:=Tryz.sizeOf127
 v127:=Tryz.zeroValue127
 t5:=Tryz.underlying5
 a5:=Tryz.isAgg5
 z5:=Tryz.sizeOf5
 v5:=Tryz.zeroValue5
 i0:=by kernel_rfl
 i3:=by kernel_rfl
 i4:=by kernel_rfl
 i5:=by kernel_rfl
 i9:=by kernel_rfl
 i37:=by kernel_rfl
 i127:=by kernel_rfl }
end Go.Proofs
namespace Go.Proofs.YtdgoibnndfibnaaGreatDoor
open Go.RowKit Go.Sort Go.Shelf
theorem strClone (s:ByteArray) (hs:s.size<=281474976710656) (w:World):Calls Tryz.prog 125 #[.string s] w fun e w'=>e=.returned (.string s)/\Below w.heap.size w w':=by
 have hcon:=Any.stringslite_Clone Tryz.cloneStr s w hs
 change Calls Tryz.prog 148 _ _ _ at hcon
 go_enter Tryz.func125,Tryz.ntmps125
 go_wp2_with (go_at_call 148;refine hcon.mono ?_;rintro e w1 ⟨rfl,b1⟩;have B1:=hide b1;clear b1)
 go_ret
 exact ⟨rfl,uh B1⟩
theorem atoi_any (s:ByteArray) (hmax:s.size<=140737488355328) (w:World) (hG:G w) :
  Calls Tryz.prog 124 #[.string s] w fun e w'=>(∃ p,e=.returned (.tuple #[.int .i64 (atoiN (Lb s)),p]))/\Below w.heap.size w w':=by
 obtain ⟨_,⟨t1,p1,g1⟩,⟨t2,p2,g2⟩⟩:=hG
 cases hx:Lib.atoiAll s.data.toList with
 | ok v =>
  have e1:atoiN (Lb s)=v:=by unfold atoiN;rw [show Lib.atoiAll (Lb s)=.ok v from hx]
  rw [e1]
  exact (Tryz.strconv_Atoi_ok s (by omega) v hx w).mono fun e w' ⟨he,hw⟩=>⟨⟨_,he⟩,by
   rcases hw with rfl | ⟨t,rfl⟩
   ·exact Below.refl _ _
   ·exact Lib.bytesWorld_below _ _ _⟩
 | range =>
  have e1:atoiN (Lb s)=Lib.atoiSat (Lb s):=by unfold atoiN;rw [show Lib.atoiAll (Lb s)=.range from hx]
  rw [e1]
  exact (Any.strconv_Atoi_range_var Tryz.laysC172 s (by omega) hx t2 p2 w g2).mono fun e w' ⟨N,he,_,_,hb⟩=>⟨⟨_,he⟩,hb⟩
 | _ =>
  have e1:atoiN (Lb s)=0:=by unfold atoiN;rw [show Lib.atoiAll (Lb s)=.syntax from hx]
  rw [e1]
  exact (Any.strconv_Atoi_syntax_var Tryz.laysC172 s (by omega) hx t1 p1 w g1).mono fun e w' ⟨N,he,_,_,hb⟩=>⟨⟨_,he⟩,hb⟩
theorem own_any (s:ByteArray) (hs:s.size<=140737488355328) (w:World):Calls Tryz.prog 100 #[.string s] w fun e w'=>e=.returned (.string s)/\Below w.heap.size w w':=by
 have h:=fun W=>strClone s (by omega) W
 go_enter Tryz.func100,Tryz.ntmps100
 go_wp2_with (go_at_call 125;refine (h _).mono ?_;rintro e w1 ⟨rfl,b1⟩;have B1:=hide b1;clear b1)
 go_ret
 exact ⟨rfl,uh B1⟩
theorem unquoteV_any (s:ByteArray) (hs:s.size<=100000000000000) (w:World):Calls Tryz.prog 149 #[.string s] w fun e w'=>(∃ c:Int,e=.returned (.tuple #[.string (unqV (Lb s)),.int .i64 c]))/\Below w.heap.size w w':=by
 by_cases h:∃ t,Lb s=quoteL t
 ·obtain ⟨t,ht⟩:=h
  rw [ht,unqV_quote]
  exact (unq_yes s t ht w hs).mono fun e w' ⟨he,hb⟩=>⟨⟨_,he⟩,hb⟩
 ·have hno:∀ t,Lb s ≠ quoteL t:=fun t ht=>h ⟨t,ht⟩
  rw [unqV_no hno]
  exact (unq_no s hno w hs).mono fun e w' ⟨he,hb⟩=>⟨⟨_,he⟩,hb⟩
theorem parseV_any (s:ByteArray) (hs:s.size<=100000000000000) (w:World) (hG:G w):Calls Tryz.prog 150 #[.string s] w fun e w'=>(∃ c:Int,e=.returned (.tuple #[.agg #[.int .i64 (valV s).1,.int .i64 (valV s).2.1,.string (valV s).2.2],.int .i64 c]))/\Below w.heap.size w w':=by
 by_cases h:∃ k n x,chkV k n x=0/\textB k n x=s
 ·obtain ⟨k,n,x,h1,h2⟩:=h
  rw [<- h2,valV_text h1]
  exact (parse_text k n x h1 w hG).mono fun e w' ⟨he,hb⟩=>⟨⟨_,he⟩,hb⟩
 ·have hno:∀ k n x,chkV k n x=0->textB k n x ≠ s:=fun k n x h1 h2=>h ⟨k,n,x,h1,h2⟩
  rw [valV_no hno]
  have fin:Calls Tryz.prog 150 #[.string s] w (fun e w'=>e=.returned (.tuple #[.agg #[.int .i64 0,.int .i64 0,.string ⟨#[]⟩],.int .i64 10])/\Below w.heap.size w w'):=by
   by_cases hp:Lib.hasPrefix s.data.toList [34]=true
   ·by_cases hq:∃ t,s.data.toList=quoteL t
    ·obtain ⟨t,ht⟩:=hq
     have hc:chkV 2 0 ⟨t.toArray⟩=1:=by
      rcases chk_01 2 0 ⟨t.toArray⟩ with h0 | h0
      ·refine absurd ?_ (hno 2 0 ⟨t.toArray⟩ h0)
       refine lb_inj ?_
       rcases textB_ok h0 with ⟨h9,_⟩ | ⟨_,_,e⟩
       ·cases h9
       ·rw [e];simp [Lb] at ht ⊢;exact ht.symm
      ·exact h0
     exact parse_form s 2 0 ⟨t.toArray⟩ w hG (fun W _=>read_word s t W ht hs) hc
    ·exact parse_miss s 2 ⟨#[]⟩ w hG (fun W _=>(read_noword s W hp (fun t ht=>hq ⟨t,ht⟩) hs).mono fun e w' ⟨he,hb⟩=>⟨⟨_,he⟩,hb⟩)
   ·have hp2:Lib.hasPrefix s.data.toList [34]=false:=by simpa using hp
    cases hx:Lib.atoiAll s.data.toList with
    | ok v =>
     rcases chk_01 1 v ⟨#[]⟩ with h0 | h0
     ·exact parse_wrong s v w hG hp2 (by omega) hx (hno 1 v ⟨#[]⟩ h0) h0
     ·exact parse_form s 1 v ⟨#[]⟩ w hG (fun W _=>read_num s v W hp2 (by omega) hx) h0
    | _=>exact parse_miss s 1 ⟨#[]⟩ w hG (fun W hW=>read_bad s W hW hp2 (by omega) (fun v hv=>by rw [hx] at hv;cases hv))
  exact fin.mono fun e w' ⟨he,hb⟩=>⟨⟨_,he⟩,hb⟩
end Go.Proofs.YtdgoibnndfibnaaGreatDoor
