/- The reference's comparison of texts and of numbers. -/
import Derived.Test.YtimklglliffpcaaGreatQZab
import Derived.Test.YtimklglliffpcaaGreatQCjCpt
import Derived.Test.YtimklglliffpcaaGreatQZad
import Derived.Lib.QuietBelow
import Derived.BigQuiet
namespace Go.Proofs.YtimklglliffpcaaGreat
open Go.RowKit Go.Sort Go.Shelf
theorem tf {w W:World} (hB:Below w.heap.size w W) {p:Addr} (hp:p.block < w.heap.size) {v:Value} (hc:w.cell? p=some v):∀ n os,(grow (redrawn W n) os).cell? p=some v:=ja ((hB.cell hp).trans hc)
theorem zw {B:Nat} {w w1:World} (h:Below B w w1) (n:Nat):Below B w (w1.drewN n):=⟨h.os,h.tape,h.output,h.size,h.block⟩
set_option maxHeartbeats 400000 in
/-- trommelref01.Ints. -/
theorem k8 (a b:Int) (w:World) :
    Calls Tryz.prog 73 #[.int .i64 a,.int .i64 b] w fun e w'=>e=.returned (.int .i64 (kc a b))/\w'=w:=by
  by_cases h1:a < b
  · go_enter Tryz.func73,Tryz.ntmps73
    go_wp2
    go_ret
    exact ⟨jg (C5 h1).symm,rfl⟩
  · by_cases h2:b < a
    · go_enter Tryz.func73,Tryz.ntmps73
      go_wp2
      go_ret
      exact ⟨jg (Ct h2).symm,rfl⟩
    · go_enter Tryz.func73,Tryz.ntmps73
      go_wp2
      go_ret
      exact ⟨jg (M3 (by omega)).symm,rfl⟩
theorem Eo (a b:UInt8) (x y:List UInt8):ri (a :: x) (b :: y)=if a=b then ri x y else kc (a.toNat:Int) (b.toNat:Int):=by
 by_cases h:a=b
 ·subst h
  rw [if_pos rfl]
  unfold ri
  simp [Op.bytesLess]
 ·rw [if_neg h]
  have hn:a.toNat ≠ b.toNat:=fun e=>h (UInt8.toNat_inj.1 e)
  by_cases hl:a < b
  ·rw [qy (by simp [Op.bytesLess,hl])]
   rw [UInt8.lt_iff_toNat_lt] at hl
   rw [C5 (by omega)]
  ·rw [No (by simp [Op.bytesLess,hl,h]) (by simp [h])]
   rw [UInt8.lt_iff_toNat_lt] at hl
   rw [Ct (by omega)]
theorem Kh (m:List UInt8):ri [] m=kc 0 m.length:=by
 cases m with
 | nil=>rfl
 | cons b y=>rw [qy (by simp [Op.bytesLess]),C5 (by simp)]
theorem Jo (m:List UInt8):ri m []=kc m.length 0:=by
 cases m with
 | nil=>rfl
 | cons b y=>rw [No (by simp [Op.bytesLess]) (by simp),Ct (by simp)]
theorem Cs (s:ByteArray) (k:Nat) (h:k < s.size):s.data.toList.drop k=s[k] :: s.data.toList.drop (k + 1):=by
 rw [List.drop_eq_getElem_cons (by simpa using h)];rfl
theorem Bq (a b k:Int):kc (a - k) (b - k)=kc a b:=by
 unfold kc
 by_cases h1:a < b
 ·rw [if_pos h1,if_pos (by omega)]
 ·rw [if_neg h1,if_neg (by omega)]
  by_cases h2:b < a
  ·rw [if_pos h2,if_pos (by omega)]
  ·rw [if_neg h2,if_neg (by omega)]
theorem L6 (a b:ByteArray) (k:Nat) (h1:k<=a.size) (h2:k<=b.size) (h:¬ (k < a.size/\k < b.size)):ri (a.data.toList.drop k) (b.data.toList.drop k)=kc a.size b.size:=by
 by_cases h3:k < a.size
 ·have h4:k=b.size:=by omega
  rw [List.drop_of_length_le (l:=b.data.toList) (by simp;omega),Jo]
  rw [<- Bq a.size b.size k]
  simp only [List.length_drop,Array.length_toList]
  congr 1
  ·show ((a.size - k:Nat):Int)=_;omega
  ·omega
 ·have h4:k=a.size:=by omega
  rw [List.drop_of_length_le (l:=a.data.toList) (by simp;omega),Kh]
  rw [<- Bq a.size b.size k]
  simp only [List.length_drop,Array.length_toList]
  congr 1
  ·omega
  ·show ((b.size - k:Nat):Int)=_;omega
theorem Qq (a b:ByteArray) (k:Nat) (h1:k < a.size) (h2:k < b.size) (h:(a[k].toNat:Int) ≠ b[k].toNat):ri (a.data.toList.drop k) (b.data.toList.drop k)=kc a[k].toNat b[k].toNat:=by
 rw [Cs a k h1,Cs b k h2,Eo,if_neg]
 intro e;rw [e] at h;exact h rfl
theorem Rj (a b:ByteArray) (k:Nat) (h1:k < a.size) (h2:k < b.size) (h:(a[k].toNat:Int)=b[k].toNat):ri (a.data.toList.drop k) (b.data.toList.drop k)=ri (a.data.toList.drop (k + 1)) (b.data.toList.drop (k + 1)):=by
 rw [Cs a k h1,Cs b k h2,Eo,if_pos]
 exact UInt8.toNat_inj.1 (by omega)
theorem Ei (c:UInt8):IntKind.i64.wrap (c.toNat:Int)=(c.toNat:Int):=by
 have:=c.toNat_lt
 have e:(2:Int) ^ IntKind.i64.bits=18446744073709551616:=by decide
 have e2:(2:Int) ^ (IntKind.i64.bits - 1)=9223372036854775808:=by decide
 simp [IntKind.wrap,e,e2]
 omega
set_option maxHeartbeats 1000000 in
theorem sx (a b:ByteArray) (w:World) (ha:a.size<=maxLen) :
  Calls Tryz.prog 72 #[.string a,.string b] w fun e w'=>e=.returned (.int .i64 (ri a.data.toList b.data.toList))/\Below w.heap.size w w':=by
 unfold maxLen at ha
 go_enter Tryz.func72,Tryz.ntmps72
 go_wp2
 go_loopw [5] (fun i wr=>∃ k:Nat,k<=a.size/\k<=b.size/\i=.int .i64 k/\Below w.heap.size w wr/\ri a.data.toList b.data.toList=ri (a.data.toList.drop k) (b.data.toList.drop k)) (fun i _=>a.size - (intOf i).toNat)
 case atStart=>exact ⟨0,Nat.zero_le _,Nat.zero_le _,rfl,Below.refl _ _,by simp⟩
 case round =>
  obtain ⟨k,hka,hkb,rfl,hbel,heq⟩:=hrel
  have Heq:=d9 heq
  clear heq
  by_cases hlt:k < a.size/\k < b.size
  ·obtain ⟨h1,h2⟩:=hlt
   have i0:(0:Int)<=(k:Int):=by omega
   have i1:(k:Int) < (a.size:Int):=by omega
   have i2:(k:Int) < (b.size:Int):=by omega
   by_cases hc:(a[k].toNat:Int)=b[k].toNat
   ·have Hc:=d9 (Rj a b k h1 h2 hc)
    have hd:(((a[k].toNat:Int)) != (b[k].toNat:Int))=false:=by simp [hc]
    clear hc
    go_wp2
    go_quiet (fail)
    go_wp2
    go_roundw
    case rel=>exact ⟨k + 1,by omega,by omega,by go_num,zw hbel _,by rw [uh Heq,uh Hc]⟩
    case measure=>simp [intOf];omega
   ·have Hc:=d9 (Qq a b k h1 h2 hc)
    have hd:(((a[k].toNat:Int)) != (b[k].toNat:Int))=true:=by simp [hc]
    clear hc
    go_wp2
    go_quiet (fail)
    go_wp2
    go_region_held3 (fun _=>True) (go_keep) ((go_at_call 73;refine (k8 _ _ _).mono ?_;rintro e w' ⟨rfl,rfl⟩))
    all_goals
     go_wp2
     go_ret
     refine ⟨jg ?_,(zw hbel _).drew⟩
     rw [uh Heq,uh Hc,Ei,Ei]
  ·have Hend:=d9 (L6 a b k hka hkb hlt)
   by_cases h1:k < a.size
   ·have h2:¬ k < b.size:=fun h=>hlt ⟨h1,h⟩
    clear hlt
    go_wp2_with (go_at_call 73;refine (k8 _ _ _).mono ?_;rintro e w' ⟨rfl,rfl⟩)
    go_ret
    exact ⟨jg (by rw [uh Heq,uh Hend]),hbel⟩
   ·clear hlt
    go_wp2_with (go_at_call 73;refine (k8 _ _ _).mono ?_;rintro e w' ⟨rfl,rfl⟩)
    go_ret
    exact ⟨jg (by rw [uh Heq,uh Hend]),hbel⟩
end Go.Proofs.YtimklglliffpcaaGreat
namespace Go.Proofs.YtimklglliffpcaaGreat
open Go.RowKit Go.Sort
end Go.Proofs.YtimklglliffpcaaGreat
namespace Go.Proofs.YtimklglliffpcaaGreat
open Go.RowKit Go.Sort
end Go.Proofs.YtimklglliffpcaaGreat
