/- The contract of math/bits.TrailingZeros, laid at this program. -/
import Derived.Shelf.Spec.TrailingZeros
import Derived.Test.YtmgdhdekhaohhaaGreatDoorProg
namespace Go.Proofs
open Go.Shelf
def Tryz.lays7_ren : Go.Shelf.Ren := ⟨fun | 27 => 74 | 28 => 101 | 29 => 102 | n => n, fun | 22 => 114 | 25 => 70 | 27 => 112 | 53 => 136 | 54 => 137 | n => n, fun | 0 => 1 | 1 => 2 | n => n⟩
theorem Tryz.lays7 : Go.Proofs.Lays7.n27 Tryz.prog Tryz.lays7_ren := {
  mixed := by kernel_rfl
  f27 := Tryz.func74.trans (congrArg some (by kernel_rfl))
  f28 := Tryz.func101.trans (congrArg some (by kernel_rfl))
  f29 := Tryz.func102.trans (congrArg some (by kernel_rfl))
  t0 := Tryz.underlying0
  a0 := Tryz.isAgg0
  z0 := Tryz.sizeOf0
  v0 := Tryz.zeroValue0
  i0 := by kernel_rfl
  t3 := Tryz.underlying3
  a3 := Tryz.isAgg3
  z3 := Tryz.sizeOf3
  v3 := Tryz.zeroValue3
  i3 := by kernel_rfl
  t4 := Tryz.underlying4
  a4 := Tryz.isAgg4
  z4 := Tryz.sizeOf4
  v4 := Tryz.zeroValue4
  i4 := by kernel_rfl
  t5 := Tryz.underlying5
  a5 := Tryz.isAgg5
  z5 := Tryz.sizeOf5
  v5 := Tryz.zeroValue5
  i5 := by kernel_rfl
  t22 := Tryz.underlying114
  a22 := Tryz.isAgg114
  z22 := Tryz.sizeOf114
  v22 := Tryz.zeroValue114
  i22 := by kernel_rfl
  t25 := Tryz.underlying70
  a25 := Tryz.isAgg70
  z25 := Tryz.sizeOf70
  v25 := Tryz.zeroValue70
  i25 := by kernel_rfl
  t27 := Tryz.underlying112
  a27 := Tryz.isAgg112
  z27 := Tryz.sizeOf112
  v27 := Tryz.zeroValue112
  i27 := by kernel_rfl
  t53 := Tryz.underlying136
  a53 := Tryz.isAgg136
  z53 := Tryz.sizeOf136
  v53 := Tryz.zeroValue136
  i53 := by kernel_rfl
  t54 := Tryz.underlying137
  a54 := Tryz.isAgg137
  z54 := Tryz.sizeOf137
  g0 := by kernel_rfl
  g1 := by kernel_rfl }
theorem Tryz.bits_TrailingZeros (x : Nat) (hx : x < 18446744073709551616) (w : World) (hT : TabAt 2 Lib.deBruijn64tab w) :
    Calls Tryz.prog 74 #[.int .u64 x] w fun e w' => e = .returned (.int .i64 (Lib.ctz 64 x)) ∧ w' = w := Any7.bits_TrailingZeros Tryz.lays7 x hx w (fun _ => hT)
end Go.Proofs
