/- Reading what Quote wrote, byte by byte: the plain functions. -/
import Derived.Test.YtdgoibnndfibnaaGreatDoorAQuote
import Derived.Test.YtdgoibnndfibnaaGreatDoorAShelf
namespace Go.Proofs.YtdgoibnndfibnaaGreatDoor
open Go.RowKit
def hexes:List UInt8:=[48,49,50,51,52,53,54,55,56,57,97,98,99,100,101,102]
/-- A hexadecimal digit's number, or -1. -/
def idx (c:UInt8):Int:=Lib.indexByte hexes c
/-- The byte of two digits' numbers. -/
def byteOf (h l:Int):UInt8:=UInt8.ofNat (h * 16 + l).toNat
/-- The byte with whose writing a text begins, and how long that is; 0, if there is none. -/
def firstL:List UInt8->UInt8 × Nat
 | []=>(0,0)
 | c0 :: r =>
  if c0=92 then
   match r with
   | []=>(0,0)
   | c1 :: r2 =>
    if needs c1 then (c1,2)
    else if c1=120 then
     match r2 with
     | c2 :: c3 :: _=>if idx c2 < 0 ∨ idx c3 < 0 ∨ prints (byteOf (idx c2) (idx c3))=true then (0,0) else (byteOf (idx c2) (idx c3),4)
     | _=>(0,0)
    else (0,0)
  else if prints c0=true/\needs c0=false then (c0,1) else (0,0)
theorem all_bytes {p:UInt8->Bool} (h:(List.range 256).all (fun n=>p (UInt8.ofNat n))=true) (c:UInt8):p c=true:=by
 rw [List.all_eq_true] at h
 have:=h c.toNat (List.mem_range.2 c.toNat_lt)
 simpa using this
theorem idx_rng (c:UInt8):-1<=idx c/\idx c < 16:=by
 have:=all_bytes (p:=fun c=>decide (-1<=idx c/\idx c < 16)) (by decide +kernel) c
 simpa using this
theorem idx_hexd (c:UInt8) (h:0<=idx c):c=hexd (idx c).toNat:=by
 have:=all_bytes (p:=fun c=>decide (0<=idx c->c=hexd (idx c).toNat)) (by decide +kernel) c
 simp only [decide_eq_true_eq] at this
 exact this h
theorem hexd_idx (n:Nat) (h:n < 16):idx (hexd n)=n:=by
 have hh:(List.range 16).all (fun n=>decide (idx (hexd n)=n))=true:=by decide +kernel
 rw [List.all_eq_true] at hh
 simpa using hh n (List.mem_range.2 h)
theorem byte_parts (c:UInt8):byteOf (idx (hexd (c.toNat / 16))) (idx (hexd (c.toNat % 16)))=c:=by
 have:=c.toNat_lt
 rw [hexd_idx _ (by omega),hexd_idx _ (by omega)]
 unfold byteOf
 rw [show (((c.toNat / 16:Nat):Int) * 16 + ((c.toNat % 16:Nat):Int)).toNat=c.toNat by omega]
 simp
theorem parts_byte {h l:Int} (h0:0<=h) (h1:h < 16) (l0:0<=l) (l1:l < 16):(byteOf h l).toNat / 16=h.toNat/\(byteOf h l).toNat % 16=l.toNat:=by
 have e:(byteOf h l).toNat=(h * 16 + l).toNat:=by
  unfold byteOf
  rw [UInt8.toNat_ofNat',Nat.mod_eq_of_lt (by omega)]
 rw [e];omega
theorem needs_92:needs 92=true:=by decide
theorem needs_120:needs 120=false:=by decide
theorem first_esc (c:UInt8) (r:List UInt8):firstL (esc c ++ r)=(c,(esc c).length):=by
 cases hn:needs c
 ·cases hp:prints c
  ·have he:esc c=[92,120,hexd (c.toNat / 16),hexd (c.toNat % 16)]:=by unfold esc;rw [if_neg (by simp [hn]),if_neg (by simp [hp])]
   rw [he]
   have:=c.toNat_lt
   have h1:=hexd_idx (c.toNat / 16) (by omega)
   have h2:=hexd_idx (c.toNat % 16) (by omega)
   have h3:=byte_parts c
   simp only [List.cons_append,List.nil_append,firstL,if_pos,needs_120,Bool.false_eq_true,if_false]
   rw [if_neg (by rw [h3,hp,h1,h2];rintro (h | h | h);omega;omega;simp at h),h3];rfl
  ·have he:esc c=[c]:=by unfold esc;rw [if_neg (by simp [hn]),if_pos hp]
   have hc:c ≠ 92:=fun h=>by subst h;rw [needs_92] at hn;simp at hn
   rw [he]
   simp [firstL,hc,hp,hn]
 ·have he:esc c=[92,c]:=by unfold esc;rw [if_pos hn]
  rw [he]
  simp [firstL,hn]
theorem first_sound {l:List UInt8} {c:UInt8} {n:Nat} (h:firstL l=(c,n)) (hn:0 < n):∃ r,l=esc c ++ r/\n=(esc c).length:=by
 match l,h with
 | [],h=>simp [firstL] at h;omega
 | c0 :: r,h =>
  by_cases h92:c0=92
  ·subst h92
   match r,h with
   | [],h=>simp [firstL] at h;omega
   | c1 :: r2,h =>
    cases hnd:needs c1
    ·by_cases hx:c1=120
     ·subst hx
      match r2,h with
      | [],h=>simp [firstL,hnd] at h;omega
      | [_],h=>simp [firstL,hnd] at h;omega
      | c2 :: c3 :: r4,h =>
       simp only [firstL,if_pos,hnd,Bool.false_eq_true,if_false] at h
       by_cases hb:idx c2 < 0 ∨ idx c3 < 0 ∨ prints (byteOf (idx c2) (idx c3))=true
       ·rw [if_pos hb] at h;simp at h;omega
       ·rw [if_neg hb] at h
        simp only [Prod.mk.injEq] at h
        obtain ⟨rfl,rfl⟩:=h
        simp only [not_or,Bool.not_eq_true] at hb
        obtain ⟨g1,g2,g3⟩:=hb
        have r1:=idx_rng c2
        have r2:=idx_rng c3
        obtain ⟨e1,e2⟩:=parts_byte (h:=idx c2) (l:=idx c3) (by omega) r1.2 (by omega) r2.2
        have hnb:needs (byteOf (idx c2) (idx c3))=false:=by
         rw [needs_eq];rw [prints_eq] at g3
         simp at g3 ⊢;omega
        have he:esc (byteOf (idx c2) (idx c3))=[92,120,c2,c3]:=by
         unfold esc
         rw [if_neg (by simp [hnb]),if_neg (by simp [g3]),e1,e2,<- idx_hexd c2 (by omega),<- idx_hexd c3 (by omega)]
        exact ⟨r4,by rw [he];rfl,by rw [he];rfl⟩
     ·simp [firstL,hnd,hx] at h;omega
    ·simp [firstL,hnd] at h
     obtain ⟨rfl,rfl⟩:=h
     have he:esc c1=[92,c1]:=by unfold esc;rw [if_pos hnd]
     exact ⟨r2,by rw [he];rfl,by rw [he];rfl⟩
  ·by_cases hp:prints c0=true/\needs c0=false
   ·simp only [firstL,if_neg h92,if_pos hp,Prod.mk.injEq] at h
    obtain ⟨rfl,rfl⟩:=h
    have he:esc c0=[c0]:=by unfold esc;rw [if_neg (by simp [hp.2]),if_pos hp.1]
    exact ⟨r,by rw [he];rfl,by rw [he];rfl⟩
   ·simp only [firstL,if_neg h92,if_neg hp,Prod.mk.injEq] at h
    omega
end Go.Proofs.YtdgoibnndfibnaaGreatDoor
