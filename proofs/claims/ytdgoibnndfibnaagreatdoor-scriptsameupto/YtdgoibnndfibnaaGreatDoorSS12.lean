/- The words of a line, read: the end of a word, a blank taken off, a cut at a byte. -/
import Derived.Test.YtdgoibnndfibnaaGreatDoorSS11
namespace Go.Proofs.YtdgoibnndfibnaaGreatDoor
open Go.RowKit Go.Sort
theorem u8_eq (c:UInt8) (n:Nat) (hn:n < 256):((c.toNat:Int) == (n:Int))=decide (c=UInt8.ofNat n):=by
 rw [Bool.eq_iff_iff,beq_iff_eq,decide_eq_true_eq,<- UInt8.toNat_inj,UInt8.toNat_ofNat',Nat.mod_eq_of_lt hn];omega
theorem drop_at {s:ByteArray} {k:Nat} (h:k < s.size):(Lb s).drop k=s[k] :: (Lb s).drop (k + 1):=by
 have h2:k < (Lb s).length:=by rw [show (Lb s).length=s.size from bytes_len s];exact h
 rw [List.drop_eq_getElem_cons h2]
 congr 1
def WInv (L:Bs) (k:Nat) (q:Bool):Prop:=(k<=L.length/\wEnd false L=k + wEnd q (L.drop k)) ∨ (k=L.length + 1/\wEnd false L=L.length)
set_option maxHeartbeats 4000000 in
set_option maxRecDepth 100000 in
theorem wordEnd_any (s:ByteArray) (w:World) (hz:s.size<=140737488355328) :
  Calls Tryz.prog 97 #[.string s] w fun e w'=>e=.returned (.int .i64 (wEnd false (Lb s):Nat))/\w'=w:=by
 have hL:(Lb s).length=s.size:=bytes_len s
 have a0:(s.size:Int)<=140737488355328:=by omega
 have HL:=hide hL
 clear hL
 go_enter Tryz.func97,Tryz.ntmps97
 go_wp2
 go_loopw [3,4] (fun vq vi wr=>wr=w/\∃ (k:Nat) (q:Bool),vi=.int .i64 (k:Int)/\vq=.bool q/\k<=s.size + 1/\Hid (WInv (Lb s) k q)) (fun _ i _=>s.size + 2 - (intOf i).toNat)
 case atStart=>exact ⟨rfl,0,false,rfl,rfl,by omega,hide (Or.inl ⟨by omega,by simp⟩)⟩
 case round =>
  obtain ⟨rfl,k,q,rfl,rfl,hk,HW⟩:=hrel
  by_cases hlt:k < s.size
  ·have ki0:(0:Int)<=(k:Int):=by omega
   have ki1:(k:Int) < (s.size:Int):=by omega
   have ks:k < s.size:=hlt
   have hinv:wEnd false (Lb s)=k + wEnd q ((Lb s).drop k):=by
    rcases uh HW with h | h
    ·exact h.2
    ·have:=uh HL;omega
   have hd:=drop_at hlt
   have HI:=hide hinv
   have HD:=hide hd
   obtain ⟨c,hc⟩:∃ c,s[k]=c:=⟨_,rfl⟩
   have e92:=u8_eq c 92 (by decide)
   have e34:=u8_eq c 34 (by decide)
   have e32:=u8_eq c 32 (by decide)
   have HC:=hide hc
   clear hinv hd HW
   by_cases h92:c=92
   ·have n92:((c.toNat:Int) == 92)=true:=by rw [h92];rfl
    clear e92 e34 e32
    go_wp2
    refine ⟨⟨(by first | trivial | rfl),k + 2,q,by go_num,rfl,by omega,hide ?_⟩,by simp [intOf];omega⟩
    have h1:=uh HI
    rw [uh HD,uh HC,h92] at h1
    by_cases h2:k + 1 < s.size
    ·rw [drop_at h2,wEnd_esc,show (Lb s).drop (k + 1 + 1)=(Lb s).drop (k + 2) from rfl] at h1
     exact Or.inl ⟨by have:=uh HL;omega,by rw [h1];omega⟩
    ·have:(Lb s).drop (k + 1)=[]:=List.drop_eq_nil_of_le (by have:=uh HL;omega)
     rw [this] at h1
     exact Or.inr ⟨by have:=uh HL;omega,by rw [h1];have:=uh HL;simp [wEnd];omega⟩
   ·have n92:((c.toNat:Int) == 92)=false:=by rw [show ((c.toNat:Int) == 92)=decide (c=92) from e92];exact decide_eq_false h92
    by_cases h34:c=34
    ·have n34:((c.toNat:Int) == 34)=true:=by rw [h34];rfl
     clear e92 e34 e32
     go_wp2
     refine ⟨⟨(by first | trivial | rfl),k + 1, !q,by go_num,rfl,by omega,hide ?_⟩,by simp [intOf];omega⟩
     have h1:=uh HI
     rw [uh HD,uh HC,wEnd_cons h92,if_pos h34] at h1
     exact Or.inl ⟨by have:=uh HL;omega,by rw [h1];omega⟩
    ·have n34:((c.toNat:Int) == 34)=false:=by rw [show ((c.toNat:Int) == 34)=decide (c=34) from e34];exact decide_eq_false h34
     by_cases h32:c=32
     ·have n32:((c.toNat:Int) == 32)=true:=by rw [h32];rfl
      cases q with
      | false =>
       clear e92 e34 e32
       go_wp2
       go_ret
       refine ⟨?_,rfl⟩
       have h1:=uh HI
       rw [uh HD,uh HC,wEnd_cons h92,if_neg h34,if_pos ⟨h32,rfl⟩] at h1
       rw [h1];rfl
      | true =>
       clear e92 e34 e32
       go_wp2
       refine ⟨⟨(by first | trivial | rfl),k + 1,true,by go_num,rfl,by omega,hide ?_⟩,by simp [intOf];omega⟩
       have h1:=uh HI
       rw [uh HD,uh HC,wEnd_cons h92,if_neg h34,if_neg (by simp)] at h1
       exact Or.inl ⟨by have:=uh HL;omega,by rw [h1];omega⟩
     ·have n32:((c.toNat:Int) == 32)=false:=by rw [show ((c.toNat:Int) == 32)=decide (c=32) from e32];exact decide_eq_false h32
      clear e92 e34 e32
      go_wp2
      refine ⟨⟨(by first | trivial | rfl),k + 1,q,by go_num,rfl,by omega,hide ?_⟩,by simp [intOf];omega⟩
      have h1:=uh HI
      rw [uh HD,uh HC,wEnd_cons h92,if_neg h34,if_neg (by simp [h32])] at h1
      exact Or.inl ⟨by have:=uh HL;omega,by rw [h1];omega⟩
  ·have ki1:¬ (k:Int) < (s.size:Int):=by omega
   have he:wEnd false (Lb s)=s.size:=by
    have hL:=uh HL
    rcases uh HW with ⟨h1,h2⟩ | ⟨h1,h2⟩
    ·rw [List.drop_eq_nil_of_le (by omega)] at h2;rw [h2];simp [wEnd];omega
    ·omega
   clear HW
   have HE:=hide he
   clear he
   go_wp2
   go_ret
   exact ⟨by rw [uh HE];rfl,rfl⟩
theorem trim_any (s:ByteArray) (w:World):Calls Tryz.prog 98 #[.string s,.string ⟨#[32]⟩] w fun e w'=>e=.returned (.string ⟨(trimP (Lb s)).toArray⟩)/\w'=w:=by
 have hp:∀ W:World,Calls Tryz.prog 145 #[.string s,.string ⟨#[32]⟩] W fun e w'=>e=.returned (.bool (Lib.hasPrefix s.data.toList (⟨#[32]⟩:ByteArray).data.toList))/\w'=W:=fun W=>Any.stringslite_HasPrefix { Tryz.lays99 with } s ⟨#[32]⟩ W
 have h123:∀ W,Calls Tryz.prog 123 #[.string s,.string ⟨#[32]⟩] W fun e w'=>e=.returned (.string ⟨(trimP (Lb s)).toArray⟩)/\w'=W:=fun W=>by
  cases hL:Lb s with
  | nil =>
   have h0:s=⟨#[]⟩:=lb_inj (by rw [hL];rfl)
   have e:Lib.hasPrefix s.data.toList (⟨#[32]⟩:ByteArray).data.toList=false:=by rw [h0];rfl
   rw [e] at hp
   clear h0 e
   go_enter Tryz.func123,Tryz.ntmps123
   go_wp2_with (go_at_call 145;refine (hp _).mono ?_;rintro e w1 ⟨rfl,h1⟩;obtain rfl:=h1.symm)
   go_ret
   exact ⟨ret_str2 (by show Lb s=_;rw [hL];rfl),rfl⟩
  | cons c r =>
   by_cases h32:c=32
   ·have e:Lib.hasPrefix s.data.toList (⟨#[32]⟩:ByteArray).data.toList=true:=by
     show List.isPrefixOf [32] (Lb s)=true
     rw [hL,h32];rfl
    rw [e] at hp
    have hs:s.size=r.length + 1:=by rw [<- bytes_len];show (Lb s).length=_;rw [hL];rfl
    have hs1:(1:Int)<=(s.size:Int):=by omega
    go_enter Tryz.func123,Tryz.ntmps123
    go_wp2_with (go_at_call 145;refine (hp _).mono ?_;rintro e w1 ⟨rfl,h1⟩;obtain rfl:=h1.symm)
    go_ret
    refine ⟨ret_str2 ?_,rfl⟩
    rw [<- hs,extract_all]
    show (Lb s).drop 1=_
    rw [hL]
    simp [trimP,h32]
   ·have e:Lib.hasPrefix s.data.toList (⟨#[32]⟩:ByteArray).data.toList=false:=by
     show List.isPrefixOf [32] (Lb s)=false
     rw [hL]
     simp [List.isPrefixOf]
     exact fun h=>h32 h.symm
    rw [e] at hp
    go_enter Tryz.func123,Tryz.ntmps123
    go_wp2_with (go_at_call 145;refine (hp _).mono ?_;rintro e w1 ⟨rfl,h1⟩;obtain rfl:=h1.symm)
    go_ret
    refine ⟨ret_str2 ?_,rfl⟩
    show Lb s=_
    rw [hL];simp [trimP,h32]
 go_enter Tryz.func98,Tryz.ntmps98
 go_wp2_with (go_at_call 123;refine (h123 _).mono ?_;rintro e w1 ⟨rfl,h1⟩;obtain rfl:=h1.symm)
 go_ret
 exact ⟨rfl,rfl⟩
end Go.Proofs.YtdgoibnndfibnaaGreatDoor
