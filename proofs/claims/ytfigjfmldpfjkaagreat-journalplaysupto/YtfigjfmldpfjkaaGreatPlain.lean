/- The sum of bytes, varints, records: as plain functions. -/
import Derived.Test.YtfigjfmldpfjkaaGreatRows
namespace Go.Proofs.YtfigjfmldpfjkaaGreat

def stir1 (s : Nat) : Nat := if s % 2 = 1 then (s / 2) ^^^ 3988292384 else s / 2
def stirs : Nat → Nat → Nat
  | 0, s => s
  | n + 1, s => stirs n (stir1 s)
def crcB (s : Nat) (c : UInt8) : Nat := stirs 8 (s ^^^ c.toNat)
def crc (s : Nat) (l : List UInt8) : Nat := l.foldl crcB s
/-- The sum of bytes. -/
def sumB (l : List UInt8) : Nat := crc 4294967295 l ^^^ 4294967295

theorem stir1_lt {s : Nat} (h : s < 4294967296) : stir1 s < 4294967296 := by
  unfold stir1
  split
  · exact Nat.xor_lt_two_pow (n := 32) (by omega) (by omega)
  · omega
theorem stirs_lt (n : Nat) : ∀ {s : Nat}, s < 4294967296 → stirs n s < 4294967296 := by
  induction n with
  | zero => exact fun h => h
  | succ n ih => exact fun h => ih (stir1_lt h)
theorem stirs_snoc (n : Nat) : ∀ s, stirs (n + 1) s = stir1 (stirs n s) := by
  induction n with
  | zero => intro s; rfl
  | succ n ih => intro s; exact ih (stir1 s)
theorem byte_lt (c : UInt8) : c.toNat < 4294967296 := by have := c.toNat_lt; omega
theorem xor_lt {a b : Nat} (ha : a < 4294967296) (hb : b < 4294967296) : a ^^^ b < 4294967296 := Nat.xor_lt_two_pow (n := 32) ha hb
theorem crcB_lt {s : Nat} {c : UInt8} (h : s < 4294967296) : crcB s c < 4294967296 := stirs_lt 8 (xor_lt h (byte_lt c))
theorem crc_lt (l : List UInt8) : ∀ {s : Nat}, s < 4294967296 → crc s l < 4294967296 := by
  induction l with
  | nil => exact fun h => h
  | cons c l ih => exact fun h => ih (crcB_lt h)
theorem sumB_lt (l : List UInt8) : sumB l < 4294967296 := xor_lt (crc_lt l (by omega)) (by omega)
theorem crc_app (s : Nat) (l m : List UInt8) : crc s (l ++ m) = crc (crc s l) m := by unfold crc; rw [List.foldl_append]
theorem crc_snoc (s : Nat) (l : List UInt8) (c : UInt8) : crc s (l ++ [c]) = stirs 8 (crc s l ^^^ c.toNat) := by rw [crc_app]; rfl

/-- A step can be taken back. -/
theorem top_bit {a : Nat} (h : a < 2147483648) : 2147483648 ≤ a ^^^ 3988292384 := by
  have h1 : Nat.testBit (a ^^^ 3988292384) 31 = true := by
    rw [Nat.testBit_xor, Nat.testBit_lt_two_pow (x := a) (i := 31) (by omega)]
    decide
  exact Nat.ge_two_pow_of_testBit h1
theorem xor_can {a b c : Nat} (h : a ^^^ c = b ^^^ c) : a = b := by
  have h2 : (a ^^^ c) ^^^ c = (b ^^^ c) ^^^ c := by rw [h]
  rwa [Nat.xor_assoc, Nat.xor_assoc, Nat.xor_self, Nat.xor_zero, Nat.xor_zero] at h2
theorem stir1_inj {s t : Nat} (hs : s < 4294967296) (ht : t < 4294967296) (h : stir1 s = stir1 t) : s = t := by
  unfold stir1 at h
  have t1 := top_bit (a := s / 2) (by omega)
  have t2 := top_bit (a := t / 2) (by omega)
  split at h
  · split at h
    · have := xor_can h; omega
    · omega
  · split at h
    · omega
    · omega
theorem stirs_inj (n : Nat) : ∀ {s t : Nat}, s < 4294967296 → t < 4294967296 → stirs n s = stirs n t → s = t := by
  induction n with
  | zero => exact fun _ _ h => h
  | succ n ih => exact fun hs ht h => stir1_inj hs ht (ih (stir1_lt hs) (stir1_lt ht) h)
theorem crc_inj (l : List UInt8) : ∀ {s t : Nat}, s < 4294967296 → t < 4294967296 → crc s l = crc t l → s = t := by
  induction l with
  | nil => exact fun _ _ h => h
  | cons c l ih => exact fun hs ht h => xor_can (stirs_inj 8 (xor_lt hs (byte_lt c)) (xor_lt ht (byte_lt c)) (ih (crcB_lt hs) (crcB_lt ht) h))
theorem byte_ext {c d : UInt8} (h : c.toNat = d.toNat) : c = d := UInt8.toNat_inj.1 h
theorem xor_can' {a b c : Nat} (h : a ^^^ b = a ^^^ c) : b = c := xor_can (c := a) (by rw [Nat.xor_comm b, Nat.xor_comm c, h])
/-- One byte that is another changes the sum. -/
theorem sum_turn (p q : List UInt8) (c d : UInt8) (h : sumB (p ++ c :: q) = sumB (p ++ d :: q)) : c = d := by
  have h1 := xor_can h
  rw [crc_app, crc_app] at h1
  have hp := crc_lt p (s := 4294967295) (by omega)
  have h2 := crc_inj q (crcB_lt hp) (crcB_lt hp) h1
  exact byte_ext (xor_can' (stirs_inj 8 (xor_lt hp (byte_lt c)) (xor_lt hp (byte_lt d)) h2))

/-- The varint of a number. -/
def vint (n : Nat) : List UInt8 := if n < 128 then [UInt8.ofNat n] else UInt8.ofNat (n % 128 + 128) :: vint (n / 128)
termination_by n
decreasing_by omega
theorem vint_lt {n : Nat} (h : n < 128) : vint n = [UInt8.ofNat n] := by rw [vint, if_pos h]
theorem vint_ge {n : Nat} (h : ¬ n < 128) : vint n = UInt8.ofNat (n % 128 + 128) :: vint (n / 128) := by rw [vint, if_neg h]
/-- The four bytes of a sum. -/
def four (s : Nat) : List UInt8 := [UInt8.ofNat s, UInt8.ofNat (s / 256), UInt8.ofNat (s / 65536), UInt8.ofNat (s / 16777216)]
def sealB (l : List UInt8) : List UInt8 := l ++ four (sumB l)
/-- A change. -/
structure Ch where
  kind : Int
  id : Int
  text : ByteArray
instance : Inhabited Ch := ⟨⟨0, 0, ⟨#[]⟩⟩⟩
def MayB (c : Ch) : Prop := (1 ≤ c.id ∧ c.id ≤ 1099511627776) ∧ (((c.kind = 1 ∨ c.kind = 2) ∧ c.text.size ≤ 4096) ∨ (c.kind = 3 ∧ c.text.size = 0))
end Go.Proofs.YtfigjfmldpfjkaaGreat
