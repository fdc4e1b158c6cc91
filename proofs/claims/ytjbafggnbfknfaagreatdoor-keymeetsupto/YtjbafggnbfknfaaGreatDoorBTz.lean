/- The contract of math/bits.TrailingZeros, laid at this program. -/
import Derived.Shelf.Spec.TrailingZeros
import Derived.Test.YtjbafggnbfknfaaGreatDoorProg
namespace Go.Proofs
open Go.Shelf
def Tryz.lays7_ren : Go.Shelf.Ren := ⟨fun | 27 => 102 | 28 => 137 | 29 => 138 | n => n, fun | 22 => 131 | 25 => 89 | 27 => 129 | 53 => 157 | 54 => 158 | n => n, fun | 0 => 1 | 1 => 2 | n => n⟩
theorem Tryz.lays7 : Go.Proofs.Lays7.n27 Tryz.prog Tryz.lays7_ren := {
  mixed := by kernel_rfl
  f27 := Tryz.func102.trans (congrArg some (by kernel_rfl))
  f28 := Tryz.func137.trans (congrArg some (by kernel_rfl))
  f29 := Tryz.func138.trans (congrArg some (by kernel_rfl))
  t0 := Tryz.underlying0
  a0 := Tryz.isAgg0
  z0 := Tryz.sizeOf0
  v0 := Tryz.zeroValue0
  i0 := by kernel_rfl
  t3 := Tryz.underlying3
  a3 := Tryz.isAgg3
  z3 := Tryz.sizeOf3
  v3 := Tryz.zeroValue3
  i3 := by kernel_rfl
  t4 := Tryz.underlying4
  a4 := Tryz.isAgg4
  z4 := Tryz.sizeOf4
  v4 := Tryz.zeroValue4
  i4 := by kernel_rfl
  t5 := Tryz.underlying5
  a5 := Tryz.isAgg5
  z5 := Tryz.sizeOf5
  v5 := Tryz.zeroValue5
  i5 := by kernel_rfl
  t22 := Tryz.underlying131
  a22 := Tryz.isAgg131
  z22 := Tryz.sizeOf131
  v22 := Tryz.zeroValue131
  i22 := by kernel_rfl
  t25 := Tryz.underlying89
  a25 := Tryz.isAgg89
  z25 := Tryz.sizeOf89
  v25 := Tryz.zeroValue89
  i25 := by kernel_rfl
  t27 := Tryz.underlying129
  a27 := Tryz.isAgg129
  z27 := Tryz.sizeOf129
  v27 := Tryz.zeroValue129
  i27 := by kernel_rfl
  t53 := Tryz.underlying157
  a53 := Tryz.isAgg157
  z53 := Tryz.sizeOf157
  v53 := Tryz.zeroValue157
  i53 := by kernel_rfl
  t54 := Tryz.underlying158
  a54 := Tryz.isAgg158
  z54 := Tryz.sizeOf158
  g0 := by kernel_rfl
  g1 := by kernel_rfl }
theorem Tryz.bits_TrailingZeros (x : Nat) (hx : x < 18446744073709551616) (w : World) (hT : TabAt 2 Lib.deBruijn64tab w) :
    Calls Tryz.prog 102 #[.int .u64 x] w fun e w' => e = .returned (.int .i64 (Lib.ctz 64 x)) ∧ w' = w := Any7.bits_TrailingZeros Tryz.lays7 x hx w (fun _ => hT)
end Go.Proofs
