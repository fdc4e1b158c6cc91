/- What value.Unquote returns, for every text. -/
import Derived.Test.YtdgoibnndfibnaaGreatDoorRZab
namespace Go.Proofs.YtdgoibnndfibnaaGreatDoor
open Go.RowKit
theorem idx_any (c:UInt8) (w:World):Calls Tryz.prog 174 #[.string ⟨#[48,49,50,51,52,53,54,55,56,57,97,98,99,100,101,102]⟩,.int .u8 (c.toNat:Int)] w fun e w'=>e=.returned (.int .i64 (idx c))/\w'=w:=by
 have:=Tryz.strings_IndexByte ⟨#[48,49,50,51,52,53,54,55,56,57,97,98,99,100,101,102]⟩ (c.toNat:Int) w
 have e:((c.toNat:Int)).toNat.toUInt8=c:=by simp
 rw [e] at this
 exact this
/-- The text as its bytes. -/
theorem list2 (s:ByteArray) (h:2<=s.size):s.data.toList=s[0] :: s[1] :: s.data.toList.drop 2:=by
 have h0:s.data.toList=s[0] :: s.data.toList.drop 1:=by
  conv=>lhs;rw [<- List.drop_zero (l:=s.data.toList)]
  rw [List.drop_eq_getElem_cons (by simpa using (show 0 < s.size by omega))];rfl
 conv=>lhs;rw [h0]
 rw [List.drop_eq_getElem_cons (i:=1) (by simpa using (show 1 < s.size by omega))];rfl
set_option maxHeartbeats 400000 in
theorem fb_plain (s:ByteArray) (w:World) (h0:0 < s.size) (h92:¬ (s[0].toNat:Int)=92) (h1:prints s[0]=true) (h2:needs s[0]=false) :
  Calls Tryz.prog 165 #[.string s] w fun e w'=>e=.returned (.tuple #[.int .u8 (s[0].toNat:Int),.int .i64 1])/\w'=w:=by
 have hi0:(0:Int) < (s.size:Int):=by omega
 have hd:(((s[0].toNat:Int)) != 92)=true:=by simpa using h92
 clear h92
 have hn:=needs_any s[0]
 have hp:=prints_any s[0]
 rw [h2] at hn
 rw [h1] at hp
 clear h1 h2
 go_enter Tryz.func165,Tryz.ntmps165
 go_wp2_with (first
  | (go_at_call 141;refine (hn _).mono ?_;rintro e w' ⟨rfl,rfl⟩)
  | (go_at_call 142;refine (hp _).mono ?_;rintro e w' ⟨rfl,rfl⟩))
 go_ret2
 exact ⟨rfl,rfl⟩
set_option maxHeartbeats 400000 in
theorem fb_bad1 (s:ByteArray) (w:World) (h0:0 < s.size) (h92:¬ (s[0].toNat:Int)=92) (h1:prints s[0]=false) :
  Calls Tryz.prog 165 #[.string s] w fun e w'=>e=.returned (.tuple #[.int .u8 0,.int .i64 0])/\w'=w:=by
 have hi0:(0:Int) < (s.size:Int):=by omega
 have hd:(((s[0].toNat:Int)) != 92)=true:=by simpa using h92
 clear h92
 have hp:=prints_any s[0]
 rw [h1] at hp
 clear h1
 go_enter Tryz.func165,Tryz.ntmps165
 go_wp2_with (first
  | (go_at_call 142;refine (hp _).mono ?_;rintro e w' ⟨rfl,rfl⟩))
 go_ret2
 exact ⟨rfl,rfl⟩
set_option maxHeartbeats 400000 in
theorem fb_bad2 (s:ByteArray) (w:World) (h0:0 < s.size) (h92:¬ (s[0].toNat:Int)=92) (h1:prints s[0]=true) (h2:needs s[0]=true) :
  Calls Tryz.prog 165 #[.string s] w fun e w'=>e=.returned (.tuple #[.int .u8 0,.int .i64 0])/\w'=w:=by
 have hi0:(0:Int) < (s.size:Int):=by omega
 have hd:(((s[0].toNat:Int)) != 92)=true:=by simpa using h92
 clear h92
 have hn:=needs_any s[0]
 have hp:=prints_any s[0]
 rw [h2] at hn
 rw [h1] at hp
 clear h1 h2
 go_enter Tryz.func165,Tryz.ntmps165
 go_wp2_with (first
  | (go_at_call 141;refine (hn _).mono ?_;rintro e w' ⟨rfl,rfl⟩)
  | (go_at_call 142;refine (hp _).mono ?_;rintro e w' ⟨rfl,rfl⟩))
 go_ret2
 exact ⟨rfl,rfl⟩
set_option maxHeartbeats 400000 in
theorem fb_short (s:ByteArray) (w:World) (h0:0 < s.size) (h92:(s[0].toNat:Int)=92) (h1:s.size < 2) :
  Calls Tryz.prog 165 #[.string s] w fun e w'=>e=.returned (.tuple #[.int .u8 0,.int .i64 0])/\w'=w:=by
 have hi0:(0:Int) < (s.size:Int):=by omega
 have hd:(((s[0].toNat:Int)) != 92)=false:=by simp [h92]
 clear h92
 have hi1:(s.size:Int) < 2:=by omega
 have hi4:(s.size:Int) < 4:=by omega
 go_enter Tryz.func165,Tryz.ntmps165
 go_wp2_with (first
  | (go_at_call 141;fail))
 go_ret2
 exact ⟨rfl,rfl⟩
set_option maxHeartbeats 400000 in
theorem fb_two (s:ByteArray) (w:World) (h0:2<=s.size) (h92:(s[0].toNat:Int)=92) (h1:needs s[1]=true) :
  Calls Tryz.prog 165 #[.string s] w fun e w'=>e=.returned (.tuple #[.int .u8 (s[1].toNat:Int),.int .i64 2])/\w'=w:=by
 have hi0:(0:Int) < (s.size:Int):=by omega
 have hd:(((s[0].toNat:Int)) != 92)=false:=by simp [h92]
 clear h92
 have hi1:(2:Int)<=(s.size:Int):=by omega
 have hi2:(1:Int) < (s.size:Int):=by omega
 have hn:=needs_any s[1]
 rw [h1] at hn
 clear h1
 go_enter Tryz.func165,Tryz.ntmps165
 go_wp2_with (first
  | (go_at_call 141;refine (hn _).mono ?_;rintro e w' ⟨rfl,rfl⟩))
 go_ret2
 exact ⟨rfl,rfl⟩
set_option maxHeartbeats 400000 in
theorem fb_three (s:ByteArray) (w:World) (h0:2<=s.size) (h92:(s[0].toNat:Int)=92) (h1:needs s[1]=false) (h4:s.size < 4) :
  Calls Tryz.prog 165 #[.string s] w fun e w'=>e=.returned (.tuple #[.int .u8 0,.int .i64 0])/\w'=w:=by
 have hi0:(0:Int) < (s.size:Int):=by omega
 have hd:(((s[0].toNat:Int)) != 92)=false:=by simp [h92]
 clear h92
 have hi1:(2:Int)<=(s.size:Int):=by omega
 have hi2:(1:Int) < (s.size:Int):=by omega
 have hn:=needs_any s[1]
 rw [h1] at hn
 clear h1
 have hi4:(s.size:Int) < 4:=by omega
 go_enter Tryz.func165,Tryz.ntmps165
 go_wp2_with (first
  | (go_at_call 141;refine (hn _).mono ?_;rintro e w' ⟨rfl,rfl⟩))
 go_ret2
 exact ⟨rfl,rfl⟩
set_option maxHeartbeats 400000 in
theorem fb_nox (s:ByteArray) (w:World) (h0:2<=s.size) (h92:(s[0].toNat:Int)=92) (h1:needs s[1]=false) (h4:4<=s.size) (hx:¬ (s[1].toNat:Int)=120) :
  Calls Tryz.prog 165 #[.string s] w fun e w'=>e=.returned (.tuple #[.int .u8 0,.int .i64 0])/\w'=w:=by
 have hi0:(0:Int) < (s.size:Int):=by omega
 have hd:(((s[0].toNat:Int)) != 92)=false:=by simp [h92]
 clear h92
 have hi1:(2:Int)<=(s.size:Int):=by omega
 have hi2:(1:Int) < (s.size:Int):=by omega
 have hn:=needs_any s[1]
 rw [h1] at hn
 clear h1
 have hi4:(4:Int)<=(s.size:Int):=by omega
 have hdx:(((s[1].toNat:Int)) != 120)=true:=by simpa using hx
 clear hx
 go_enter Tryz.func165,Tryz.ntmps165
 go_wp2_with (first
  | (go_at_call 141;refine (hn _).mono ?_;rintro e w' ⟨rfl,rfl⟩))
 go_ret2
 exact ⟨rfl,rfl⟩
set_option maxHeartbeats 400000 in
theorem fb_hi (s:ByteArray) (w:World) (h0:2<=s.size) (h92:(s[0].toNat:Int)=92) (h1:needs s[1]=false) (h4:4<=s.size) (hx:(s[1].toNat:Int)=120) (hh:idx s[2] < 0) :
  Calls Tryz.prog 165 #[.string s] w fun e w'=>e=.returned (.tuple #[.int .u8 0,.int .i64 0])/\w'=w:=by
 have hi0:(0:Int) < (s.size:Int):=by omega
 have hd:(((s[0].toNat:Int)) != 92)=false:=by simp [h92]
 clear h92
 have hi1:(2:Int)<=(s.size:Int):=by omega
 have hi2:(1:Int) < (s.size:Int):=by omega
 have hn:=needs_any s[1]
 rw [h1] at hn
 clear h1
 have hi4:(4:Int)<=(s.size:Int):=by omega
 have hi5:(2:Int) < (s.size:Int):=by omega
 have hi6:(3:Int) < (s.size:Int):=by omega
 have hdx:(((s[1].toNat:Int)) != 120)=false:=by simp [hx]
 clear hx
 go_enter Tryz.func165,Tryz.ntmps165
 go_wp2_with (first
  | (go_at_call 141;refine (hn _).mono ?_;rintro e w' ⟨rfl,rfl⟩)
  | (go_at_call 174;refine (idx_any _ _).mono ?_;rintro e w' ⟨rfl,rfl⟩))
 go_ret2
 exact ⟨rfl,rfl⟩
set_option maxHeartbeats 400000 in
theorem fb_lo (s:ByteArray) (w:World) (h0:2<=s.size) (h92:(s[0].toNat:Int)=92) (h1:needs s[1]=false) (h4:4<=s.size) (hx:(s[1].toNat:Int)=120) (hh:0<=idx s[2]) (hl:idx s[3] < 0) :
  Calls Tryz.prog 165 #[.string s] w fun e w'=>e=.returned (.tuple #[.int .u8 0,.int .i64 0])/\w'=w:=by
 have hi0:(0:Int) < (s.size:Int):=by omega
 have hd:(((s[0].toNat:Int)) != 92)=false:=by simp [h92]
 clear h92
 have hi1:(2:Int)<=(s.size:Int):=by omega
 have hi2:(1:Int) < (s.size:Int):=by omega
 have hn:=needs_any s[1]
 rw [h1] at hn
 clear h1
 have hi4:(4:Int)<=(s.size:Int):=by omega
 have hi5:(2:Int) < (s.size:Int):=by omega
 have hi6:(3:Int) < (s.size:Int):=by omega
 have hdx:(((s[1].toNat:Int)) != 120)=false:=by simp [hx]
 clear hx
 go_enter Tryz.func165,Tryz.ntmps165
 go_wp2_with (first
  | (go_at_call 141;refine (hn _).mono ?_;rintro e w' ⟨rfl,rfl⟩)
  | (go_at_call 174;refine (idx_any _ _).mono ?_;rintro e w' ⟨rfl,rfl⟩))
 go_ret2
 exact ⟨rfl,rfl⟩
theorem ret_fb {a b:Int} (h:a=b):Ending.returned (.tuple #[.int .u8 a,.int .i64 4])=.returned (.tuple #[.int .u8 b,.int .i64 4]):=by rw [h]
theorem or_nat:∀ h l:Fin 16,bits .or .i64 (wrap64 (((h.val:Nat):Int) * 16)) ((l.val:Nat):Int) % 256=((byteOf ((h.val:Nat):Int) ((l.val:Nat):Int)).toNat:Int):=by decide +kernel
theorem or_byte {h l:Int} (h0:0<=h) (h1:h < 16) (l0:0<=l) (l1:l < 16):bits .or .i64 (wrap64 (h * 16)) l % 256=((byteOf h l).toNat:Int):=by
 obtain ⟨a,rfl⟩:=Int.eq_ofNat_of_zero_le h0
 obtain ⟨b,rfl⟩:=Int.eq_ofNat_of_zero_le l0
 exact or_nat ⟨a,by omega⟩ ⟨b,by omega⟩
set_option maxHeartbeats 400000 in
theorem fb_hexno (s:ByteArray) (w:World) (h0:2<=s.size) (h92:(s[0].toNat:Int)=92) (h1:needs s[1]=false) (h4:4<=s.size) (hx:(s[1].toNat:Int)=120) (hh:0<=idx s[2]) (hl:0<=idx s[3]) (hpr:prints (byteOf (idx s[2]) (idx s[3]))=true) :
  Calls Tryz.prog 165 #[.string s] w fun e w'=>e=.returned (.tuple #[.int .u8 0,.int .i64 0])/\w'=w:=by
 have hor:=or_byte hh (idx_rng s[2]).2 hl (idx_rng s[3]).2
 have hp:=prints_any (byteOf (idx s[2]) (idx s[3]))
 rw [hpr] at hp
 clear hpr
 have hi0:(0:Int) < (s.size:Int):=by omega
 have hd:(((s[0].toNat:Int)) != 92)=false:=by simp [h92]
 clear h92
 have hi1:(2:Int)<=(s.size:Int):=by omega
 have hi2:(1:Int) < (s.size:Int):=by omega
 have hn:=needs_any s[1]
 rw [h1] at hn
 clear h1
 have hi4:(4:Int)<=(s.size:Int):=by omega
 have hi5:(2:Int) < (s.size:Int):=by omega
 have hi6:(3:Int) < (s.size:Int):=by omega
 have hdx:(((s[1].toNat:Int)) != 120)=false:=by simp [hx]
 clear hx
 go_enter Tryz.func165,Tryz.ntmps165
 go_wp2_with (first
  | (go_at_call 141;refine (hn _).mono ?_;rintro e w' ⟨rfl,rfl⟩)
  | (go_at_call 174;refine (idx_any _ _).mono ?_;rintro e w' ⟨rfl,rfl⟩)
  | (go_at_call 142;refine (hp _).mono ?_;rintro e w' ⟨rfl,rfl⟩))
 go_ret2
 exact ⟨rfl,rfl⟩
set_option maxHeartbeats 400000 in
theorem fb_hex (s:ByteArray) (w:World) (h0:2<=s.size) (h92:(s[0].toNat:Int)=92) (h1:needs s[1]=false) (h4:4<=s.size) (hx:(s[1].toNat:Int)=120) (hh:0<=idx s[2]) (hl:0<=idx s[3]) (hpr:prints (byteOf (idx s[2]) (idx s[3]))=false) :
  Calls Tryz.prog 165 #[.string s] w fun e w'=>e=.returned (.tuple #[.int .u8 ((byteOf (idx s[2]) (idx s[3])).toNat:Int),.int .i64 4])/\w'=w:=by
 have hor:=or_byte hh (idx_rng s[2]).2 hl (idx_rng s[3]).2
 have hp:=prints_any (byteOf (idx s[2]) (idx s[3]))
 rw [hpr] at hp
 clear hpr
 have hi0:(0:Int) < (s.size:Int):=by omega
 have hd:(((s[0].toNat:Int)) != 92)=false:=by simp [h92]
 clear h92
 have hi1:(2:Int)<=(s.size:Int):=by omega
 have hi2:(1:Int) < (s.size:Int):=by omega
 have hn:=needs_any s[1]
 rw [h1] at hn
 clear h1
 have hi4:(4:Int)<=(s.size:Int):=by omega
 have hi5:(2:Int) < (s.size:Int):=by omega
 have hi6:(3:Int) < (s.size:Int):=by omega
 have hdx:(((s[1].toNat:Int)) != 120)=false:=by simp [hx]
 clear hx
 go_enter Tryz.func165,Tryz.ntmps165
 go_wp2_with (first
  | (go_at_call 141;refine (hn _).mono ?_;rintro e w' ⟨rfl,rfl⟩)
  | (go_at_call 174;refine (idx_any _ _).mono ?_;rintro e w' ⟨rfl,rfl⟩)
  | (go_at_call 142;refine (hp _).mono ?_;rintro e w' ⟨rfl,rfl⟩))
 go_ret2
 exact ⟨ret_fb hor,rfl⟩
theorem list1 (s:ByteArray) (h:1<=s.size):s.data.toList=s[0] :: s.data.toList.drop 1:=by
 conv=>lhs;rw [<- List.drop_zero (l:=s.data.toList)]
 rw [List.drop_eq_getElem_cons (by simpa using (show 0 < s.size by omega))];rfl
theorem list4 (s:ByteArray) (h:4<=s.size):s.data.toList=s[0] :: s[1] :: s[2] :: s[3] :: s.data.toList.drop 4:=by
 conv=>lhs;rw [list2 s (by omega)]
 rw [List.drop_eq_getElem_cons (i:=2) (by simpa using (show 2 < s.size by omega)),List.drop_eq_getElem_cons (i:=3) (by simpa using (show 3 < s.size by omega))];rfl
theorem toNat_is (c:UInt8) (n:Nat) (hn:n < 256):((c.toNat:Int)=n) ↔ c=UInt8.ofNat n:=by
 constructor
 ·intro h
  rw [<- UInt8.toNat_inj,UInt8.toNat_ofNat',Nat.mod_eq_of_lt (by omega)];omega
 ·rintro rfl
  rw [UInt8.toNat_ofNat',Nat.mod_eq_of_lt (by omega)]
theorem firstByte_any (s:ByteArray) (w:World) (h0:0 < s.size) :
  Calls Tryz.prog 165 #[.string s] w fun e w'=>e=.returned (.tuple #[.int .u8 ((firstL s.data.toList).1.toNat:Int),.int .i64 ((firstL s.data.toList).2:Int)])/\w'=w:=by
 by_cases h92:(s[0].toNat:Int)=92
 ·have e92:s[0]=92:=(toNat_is s[0]  92 (by omega)).1 h92
  by_cases h2:s.size < 2
  ·have hl:s.data.toList=[92]:=by
    rw [list1 s (by omega),e92,List.drop_of_length_le (by simp;omega)]
   rw [hl]
   exact fb_short s w h0 h92 h2
  ·have h2':2<=s.size:=by omega
   cases hn:needs s[1]
   ·by_cases h4:s.size < 4
    ·have hf:firstL s.data.toList=(0,0):=by
      rw [list2 s h2',e92]
      have hlen:(s.data.toList.drop 2).length<=1:=by simp;omega
      generalize s.data.toList.drop 2=r at hlen
      match r,hlen with
      | [],_=>simp [firstL,hn]
      | [_],_=>simp [firstL,hn]
      | _ :: _ :: _,h=>simp at h
     rw [hf]
     exact fb_three s w h2' h92 hn h4
    ·have h4':4<=s.size:=by omega
     by_cases hx:(s[1].toNat:Int)=120
     ·have ex:s[1]=120:=(toNat_is s[1]  120 (by omega)).1 hx
      have hf:firstL s.data.toList=if idx s[2] < 0 ∨ idx s[3] < 0 ∨ prints (byteOf (idx s[2]) (idx s[3]))=true then (0,0) else (byteOf (idx s[2]) (idx s[3]),4):=by
       rw [list4 s h4',e92,ex]
       simp only [firstL,if_pos,needs_120,Bool.false_eq_true,if_false]
      by_cases hh:idx s[2] < 0
      ·rw [hf,if_pos (Or.inl hh)]
       exact fb_hi s w h2' h92 hn h4' hx hh
      ·by_cases hl:idx s[3] < 0
       ·rw [hf,if_pos (Or.inr (Or.inl hl))]
        exact fb_lo s w h2' h92 hn h4' hx (by omega) hl
       ·cases hpr:prints (byteOf (idx s[2]) (idx s[3]))
        ·rw [hf,if_neg (by simp [hh,hl,hpr])]
         exact fb_hex s w h2' h92 hn h4' hx (by omega) (by omega) hpr
        ·rw [hf,if_pos (Or.inr (Or.inr hpr))]
         exact fb_hexno s w h2' h92 hn h4' hx (by omega) (by omega) hpr
     ·have hf:firstL s.data.toList=(0,0):=by
       have ex:¬ s[1]=120:=fun e=>hx ((toNat_is s[1]  120 (by omega)).2 e)
       rw [list2 s h2',e92]
       simp [firstL,hn,ex]
      rw [hf]
      exact fb_nox s w h2' h92 hn h4' hx
   ·have hf:firstL s.data.toList=(s[1],2):=by
     rw [list2 s h2',e92]
     simp [firstL,hn]
    rw [hf]
    exact fb_two s w h2' h92 hn
 ·have e92:¬ s[0]=92:=fun e=>h92 ((toNat_is s[0]  92 (by omega)).2 e)
  have hl:=list1 s (by omega)
  cases hp:prints s[0]
  ·have hf:firstL s.data.toList=(0,0):=by rw [hl];simp [firstL,e92,hp]
   rw [hf]
   exact fb_bad1 s w h0 h92 hp
  ·cases hn:needs s[0]
   ·have hf:firstL s.data.toList=(s[0],1):=by rw [hl];simp [firstL,e92,hp,hn]
    rw [hf]
    exact fb_plain s w h0 h92 hp hn
   ·have hf:firstL s.data.toList=(0,0):=by rw [hl];simp [firstL,e92,hp,hn]
    rw [hf]
    exact fb_bad2 s w h0 h92 hp hn
end Go.Proofs.YtdgoibnndfibnaaGreatDoor
