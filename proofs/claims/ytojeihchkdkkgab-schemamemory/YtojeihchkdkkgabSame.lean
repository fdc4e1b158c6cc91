/- Two slices that hold the same list are the same, says the law's same, and so says SamePairs. -/
import Derived.Test.YtojeihchkdkkgabFixed
namespace Go.Proofs.Ytojeihchkdkkgab
open Go.RowKit Go.Sort Go.Shelf

theorem neqA_same (x : ByteArray × Int) (w : World) : (binOp .neq 26 (.agg #[.string x.1, .int .i64 x.2]) (.agg #[.string x.1, .int .i64 x.2])).run Try.prog w = .ok (.bool false) w := by
  have u3 := Try.underlying3
  have a3 := Try.isAgg3
  have z3 := Try.sizeOf3
  have u9 := Try.underlying9
  have a9 := Try.isAgg9
  have z9 := Try.sizeOf9
  have hS : Try.prog.underlying 26 = some (.struct (Try.prog.fieldsOf 26)) := by kernel_rfl
  have hp : Try.prog.stoodInHeld 26 = false := by kernel_rfl
  rw [run_neq_struct, show (10000 : Nat) = 9999 + 1 from rfl, run_equalIn_agg w 9999 26 _ _ hS hp]
  simp only [Program.fieldsOf, Try.underlying26]
  go_simp
set_option maxRecDepth 100000 in
theorem eqlP_same (x : ByteArray × Int × Int × ByteArray) (w : World) : (binOp .eql 52 (.agg #[.string x.1, .int .i64 x.2.1, .int .i64 x.2.2.1, .string x.2.2.2]) (.agg #[.string x.1, .int .i64 x.2.1, .int .i64 x.2.2.1, .string x.2.2.2])).run Try.prog w = .ok (.bool true) w := by
  have u3 := Try.underlying3
  have a3 := Try.isAgg3
  have z3 := Try.sizeOf3
  have u9 := Try.underlying9
  have a9 := Try.isAgg9
  have z9 := Try.sizeOf9
  have a45 := Try.isAgg45
  have z45 := Try.sizeOf45
  have hS : Try.prog.underlying 52 = some (.struct (Try.prog.fieldsOf 52)) := by kernel_rfl
  have hp : Try.prog.stoodInHeld 52 = false := by kernel_rfl
  have h45 : (Op.equalIn 9999 45 (.agg #[.int .i64 x.2.1, .int .i64 x.2.2.1, .string x.2.2.2]) (.agg #[.int .i64 x.2.1, .int .i64 x.2.2.1, .string x.2.2.2])).run Try.prog w = .ok true w := by
    clear hS hp
    have hS45 : Try.prog.underlying 45 = some (.struct (Try.prog.fieldsOf 45)) := by kernel_rfl
    have hp45 : Try.prog.stoodInHeld 45 = false := by kernel_rfl
    rw [show (9999 : Nat) = 9998 + 1 from rfl, run_equalIn_agg w 9998 45 _ _ hS45 hp45]
    simp only [Program.fieldsOf, Try.underlying45]
    go_simp
  rw [run_eql_struct, show (10000 : Nat) = 9999 + 1 from rfl, run_equalIn_agg w 9999 52 _ _ hS hp]
  simp only [Program.fieldsOf, Try.underlying52]
  go_simp
set_option maxRecDepth 100000 in
theorem neqP_same (x : ByteArray × Int × Int × ByteArray) (w : World) : (binOp .neq 52 (.agg #[.string x.1, .int .i64 x.2.1, .int .i64 x.2.2.1, .string x.2.2.2]) (.agg #[.string x.1, .int .i64 x.2.1, .int .i64 x.2.2.1, .string x.2.2.2])).run Try.prog w = .ok (.bool false) w := by
  have u3 := Try.underlying3
  have a3 := Try.isAgg3
  have z3 := Try.sizeOf3
  have u9 := Try.underlying9
  have a9 := Try.isAgg9
  have z9 := Try.sizeOf9
  have a45 := Try.isAgg45
  have z45 := Try.sizeOf45
  have hS : Try.prog.underlying 52 = some (.struct (Try.prog.fieldsOf 52)) := by kernel_rfl
  have hp : Try.prog.stoodInHeld 52 = false := by kernel_rfl
  have h45 : (Op.equalIn 9999 45 (.agg #[.int .i64 x.2.1, .int .i64 x.2.2.1, .string x.2.2.2]) (.agg #[.int .i64 x.2.1, .int .i64 x.2.2.1, .string x.2.2.2])).run Try.prog w = .ok true w := by
    clear hS hp
    have hS45 : Try.prog.underlying 45 = some (.struct (Try.prog.fieldsOf 45)) := by kernel_rfl
    have hp45 : Try.prog.stoodInHeld 45 = false := by kernel_rfl
    rw [show (9999 : Nat) = 9998 + 1 from rfl, run_equalIn_agg w 9998 45 _ _ hS45 hp45]
    simp only [Program.fieldsOf, Try.underlying45]
    go_simp
  rw [run_neq_struct, show (10000 : Nat) = 9999 + 1 from rfl, run_equalIn_agg w 9999 52 _ _ hS hp]
  simp only [Program.fieldsOf, Try.underlying52]
  go_simp

set_option maxHeartbeats 1000000 in
theorem sameA_eq (p p' : Option Addr) (cap cap' : Nat) (l : List (ByteArray × Int)) (w : World) (hm : l.length ≤ 140737488355328) (hA : AtsOf w p l) (hA' : AtsOf w p' l) :
    Calls Try.prog 11 #[.slice p l.length cap, .slice p' l.length cap'] w fun e w' => e = .returned (.bool true) ∧ Below w.heap.size w w' := by
  have HA := hide hA
  have HA' := hide hA'
  have hne := fun (x : ByteArray × Int) (W : World) => neqA_same x W
  have hnn : ((l.length : Int) != (l.length : Int)) = false := by simp
  clear hA hA'
  go_enter Try.func11, Try.ntmps11
  go_wp2
  go_loopw [13] (fun i wr => ∃ k : Nat, k ≤ l.length ∧ i = .int .i64 k ∧ Below w.heap.size w wr) (fun i _ => l.length - (intOf i).toNat)
  case atStart => exact ⟨0, by omega, rfl, Below.refl _ _⟩
  case round =>
    obtain ⟨k, hk, rfl, hbel⟩ := hrel
    by_cases hlt : k < l.length
    · obtain ⟨bb, off, rfl, hbb, hAt⟩ := unhide HA (by omega)
      obtain ⟨cc, off', rfl, hcc, hCt⟩ := unhide HA' (by omega)
      obtain ⟨x, hx, _⟩ := get_at hlt
      have ki0 : (0 : Int) ≤ (k : Int) := by omega
      have ki1 : (k : Int) < (l.length : Int) := by omega
      obtain ⟨g0, g1⟩ := hAt.below hbel hbb k x hx
      obtain ⟨c0, c1⟩ := hCt.below hbel hcc k x hx
      have hnx := hne x
      clear hx hne
      go_wp2
      go_quiet (fail)
      go_wp2
      go_roundw
      case rel => exact ⟨k + 1, by omega, by go_num, below_drewN hbel _⟩
      case measure => simp [intOf]; omega
    · obtain rfl : k = l.length := by omega
      go_wp2
      go_ret
      exact ⟨rfl, hbel⟩

set_option maxHeartbeats 1000000 in
theorem sameP_eq (p p' : Option Addr) (cap cap' : Nat) (l : List (ByteArray × Int × Int × ByteArray)) (w : World) (hm : l.length ≤ 140737488355328) (hA : PrsOf w p l) (hA' : PrsOf w p' l) :
    Calls Try.prog 19 #[.slice p l.length cap, .slice p' l.length cap'] w fun e w' => e = .returned (.bool true) ∧ Below w.heap.size w w' := by
  have HA := hide hA
  have HA' := hide hA'
  have hne := fun (x : ByteArray × Int × Int × ByteArray) (W : World) => neqP_same x W
  have hnn : ((l.length : Int) != (l.length : Int)) = false := by simp
  clear hA hA'
  go_enter Try.func19, Try.ntmps19
  go_wp2
  go_loopw [13] (fun i wr => ∃ k : Nat, k ≤ l.length ∧ i = .int .i64 k ∧ Below w.heap.size w wr) (fun i _ => l.length - (intOf i).toNat)
  case atStart => exact ⟨0, by omega, rfl, Below.refl _ _⟩
  case round =>
    obtain ⟨k, hk, rfl, hbel⟩ := hrel
    by_cases hlt : k < l.length
    · obtain ⟨bb, off, rfl, hbb, hAt⟩ := unhide HA (by omega)
      obtain ⟨cc, off', rfl, hcc, hCt⟩ := unhide HA' (by omega)
      obtain ⟨x, hx, _⟩ := get_at hlt
      have ki0 : (0 : Int) ≤ (k : Int) := by omega
      have ki1 : (k : Int) < (l.length : Int) := by omega
      obtain ⟨g0, g1, g2, g3⟩ := hAt.below hbel hbb k x hx
      obtain ⟨c0, c1, c2, c3⟩ := hCt.below hbel hcc k x hx
      have hnx := hne x
      clear hx hne
      go_wp2
      go_quiet (fail)
      go_wp2
      go_roundw
      case rel => exact ⟨k + 1, by omega, by go_num, below_drewN hbel _⟩
      case measure => simp [intOf]; omega
    · obtain rfl : k = l.length := by omega
      go_wp2
      go_ret
      exact ⟨rfl, hbel⟩
end Go.Proofs.Ytojeihchkdkkgab
