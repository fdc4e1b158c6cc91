/- The contract of math/bits.TrailingZeros, laid at this program. -/
import Derived.Shelf.Spec.TrailingZeros
import Derived.Test.YtjclojeihjgnkaaDoorProg
namespace Go.Proofs
open Go.Shelf
def Tryd.lays7_ren : Go.Shelf.Ren := ⟨fun | 27 => 36 | 28 => 37 | 29 => 38 | n => n, fun | 22 => 57 | 25 => 46 | 27 => 55 | 53 => 58 | 54 => 59 | n => n, fun | n => n⟩
theorem Tryd.lays7 : Go.Proofs.Lays7.n27 Tryd.prog Tryd.lays7_ren := {
  mixed := by kernel_rfl
  f27 := Tryd.func36.trans (congrArg some (by kernel_rfl))
  f28 := Tryd.func37.trans (congrArg some (by kernel_rfl))
  f29 := Tryd.func38.trans (congrArg some (by kernel_rfl))
  t0 := Tryd.underlying0
  a0 := Tryd.isAgg0
  z0 := Tryd.sizeOf0
  v0 := Tryd.zeroValue0
  i0 := by kernel_rfl
  t3 := Tryd.underlying3
  a3 := Tryd.isAgg3
  z3 := Tryd.sizeOf3
  v3 := Tryd.zeroValue3
  i3 := by kernel_rfl
  t4 := Tryd.underlying4
  a4 := Tryd.isAgg4
  z4 := Tryd.sizeOf4
  v4 := Tryd.zeroValue4
  i4 := by kernel_rfl
  t5 := Tryd.underlying5
  a5 := Tryd.isAgg5
  z5 := Tryd.sizeOf5
  v5 := Tryd.zeroValue5
  i5 := by kernel_rfl
  t22 := Tryd.underlying57
  a22 := Tryd.isAgg57
  z22 := Tryd.sizeOf57
  v22 := Tryd.zeroValue57
  i22 := by kernel_rfl
  t25 := Tryd.underlying46
  a25 := Tryd.isAgg46
  z25 := Tryd.sizeOf46
  v25 := Tryd.zeroValue46
  i25 := by kernel_rfl
  t27 := Tryd.underlying55
  a27 := Tryd.isAgg55
  z27 := Tryd.sizeOf55
  v27 := Tryd.zeroValue55
  i27 := by kernel_rfl
  t53 := Tryd.underlying58
  a53 := Tryd.isAgg58
  z53 := Tryd.sizeOf58
  v53 := Tryd.zeroValue58
  i53 := by kernel_rfl
  t54 := Tryd.underlying59
  a54 := Tryd.isAgg59
  z54 := Tryd.sizeOf59
  g0 := by kernel_rfl
  g1 := by kernel_rfl }
theorem Tryd.bits_TrailingZeros (x : Nat) (hx : x < 18446744073709551616) (w : World) (hT : TabAt 1 Lib.deBruijn64tab w) :
    Calls Tryd.prog 36 #[.int .u64 x] w fun e w' => e = .returned (.int .i64 (Lib.ctz 64 x)) ∧ w' = w := Any7.bits_TrailingZeros Tryd.lays7 x hx w (fun _ => hT)
end Go.Proofs
