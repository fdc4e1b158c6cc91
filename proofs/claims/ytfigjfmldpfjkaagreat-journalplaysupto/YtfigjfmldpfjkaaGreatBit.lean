/- x & 1. -/
import Derived.Test.YtfigjfmldpfjkaaGreatZao
namespace Go.Proofs.YtfigjfmldpfjkaaGreat
theorem and_one_i64 (n : Int) : ∃ b : Bool, bits BinOp.and IntKind.i64 n 1 = if b then 1 else 0 := by
  have h : (BitVec.ofInt 64 n &&& BitVec.ofInt 64 1).toNat = (BitVec.ofInt 64 n).toNat % 2 := by
    rw [BitVec.toNat_and, show (BitVec.ofInt 64 1).toNat = 1 from rfl, Nat.and_one_is_mod]
  have h2 : bits BinOp.and IntKind.i64 n 1 = IntKind.i64.wrap (((BitVec.ofInt 64 n &&& BitVec.ofInt 64 1).toNat : Nat) : Int) := rfl
  rw [h] at h2
  rcases Nat.mod_two_eq_zero_or_one (BitVec.ofInt 64 n).toNat with e | e
  · rw [e] at h2; exact ⟨false, h2.trans (by decide)⟩
  · rw [e] at h2; exact ⟨true, h2.trans (by decide)⟩
end Go.Proofs.YtfigjfmldpfjkaaGreat
