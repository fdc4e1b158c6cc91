/- Two slices that hold the same tokens are the same, says the law's same, with their places or without. -/
import Derived.Test.YtpgknpoolkbboaaDoorLexRefToks
namespace Go.Proofs.YtpgknpoolkbboaaDoor
open Go.RowKit

set_option maxRecDepth 100000 in
theorem neqT_same (a b c d : Int) (x : ByteArray) (w : World) : (binOp .neq 31 (.agg #[.int .i64 a, .int .i64 b, .int .i64 c, .int .i64 d, .string x]) (.agg #[.int .i64 a, .int .i64 b, .int .i64 c, .int .i64 d, .string x])).run Tryd.prog w = .ok (.bool false) w := by
  have u3 := Tryd.underlying3
  have a3 := Tryd.isAgg3
  have z3 := Tryd.sizeOf3
  have u9 := Tryd.underlying9
  have a9 := Tryd.isAgg9
  have z9 := Tryd.sizeOf9
  have hS : Tryd.prog.underlying 31 = some (.struct (Tryd.prog.fieldsOf 31)) := by kernel_rfl
  have hp : Tryd.prog.stoodInHeld 31 = false := by kernel_rfl
  rw [run_neq_struct, show (10000 : Nat) = 9999 + 1 from rfl, run_equalIn_agg w 9999 31 _ _ hS hp]
  simp only [Program.fieldsOf, Tryd.underlying31]
  go_simp

set_option maxHeartbeats 2000000 in
theorem same_true (p p' : Option Addr) (cap cap' : Nat) (l : List Tok) (w : World) (hm : l.length ≤ 1000000000) (hA : TksOf w p l) (hA' : TksOf w p' l) :
    Calls Tryd.prog 12 #[.slice p l.length cap, .slice p' l.length cap', .bool true] w fun e w' => e = .returned (.bool true) ∧ Below w.heap.size w w' := by
  have HA := hide hA
  have HA' := hide hA'
  have hnn : ((l.length : Int) != (l.length : Int)) = false := by simp
  clear hA hA'
  go_enter Tryd.func12, Tryd.ntmps12
  go_wp2
  go_loopw [17] (fun i wr => ∃ k : Nat, k ≤ l.length ∧ i = .int .i64 k ∧ Below w.heap.size w wr) (fun i _ => l.length - (intOf i).toNat)
  case atStart => exact ⟨0, by omega, rfl, Below.refl _ _⟩
  case round =>
    obtain ⟨k, hk, rfl, hbel⟩ := hrel
    by_cases hlt : k < l.length
    · obtain ⟨bb, off, rfl, hbb, hAt⟩ := unhide HA (by omega)
      obtain ⟨cc, off', rfl, hcc, hCt⟩ := unhide HA' (by omega)
      obtain ⟨x, hx, _⟩ := get_at hlt
      have ki0 : (0 : Int) ≤ (k : Int) := by omega
      have ki1 : (k : Int) < (l.length : Int) := by omega
      obtain ⟨g0, g1, g2, g3, g4⟩ := hAt.below hbel hbb k x hx
      obtain ⟨c0, c1, c2, c3, c4⟩ := hCt.below hbel hcc k x hx
      obtain ⟨x1, x2, x3, x4, x5⟩ := x
      simp only at g0 g1 g2 g3 g4 c0 c1 c2 c3 c4
      have hnx := fun W : World => neqT_same x1 x2 x3 x4 x5 W
      have HB := hide hbel
      clear hx hbel
      go_wp2
      go_region_held3 (fun w' => w'.cell? ⟨bb, off + k * 5, none⟩ = some (.int .i64 x1) ∧ w'.cell? ⟨bb, off + k * 5 + 1, none⟩ = some (.int .i64 x2) ∧ w'.cell? ⟨bb, off + k * 5 + 2, none⟩ = some (.int .i64 x3) ∧ w'.cell? ⟨bb, off + k * 5 + 3, none⟩ = some (.int .i64 x4) ∧ w'.cell? ⟨bb, off + k * 5 + 4, none⟩ = some (.string x5) ∧ w'.cell? ⟨cc, off' + k * 5, none⟩ = some (.int .i64 x1) ∧ w'.cell? ⟨cc, off' + k * 5 + 1, none⟩ = some (.int .i64 x2) ∧ w'.cell? ⟨cc, off' + k * 5 + 2, none⟩ = some (.int .i64 x3) ∧ w'.cell? ⟨cc, off' + k * 5 + 3, none⟩ = some (.int .i64 x4) ∧ w'.cell? ⟨cc, off' + k * 5 + 4, none⟩ = some (.string x5)) (go_keep) (fail)
      all_goals
        go_wp2
        go_roundw
        case rel => exact ⟨k + 1, by omega, by go_num, (((unhide HB).alloc (unhide HB).size _).alloc (by have := (unhide HB).size; simp; omega) _).drew⟩
        case measure => simp [intOf]; omega
    · obtain rfl : k = l.length := by omega
      go_wp2
      go_ret
      exact ⟨rfl, hbel⟩
/-- A token without its places. -/
def strip (x : Tok) : Int × Int × ByteArray := (x.1, x.2.2.2.1, x.2.2.2.2)
theorem strip_at {l m : List Tok} {k : Nat} {x y : Tok} (h : l.map strip = m.map strip) (hx : l[k]? = some x) (hy : m[k]? = some y) : x.1 = y.1 ∧ x.2.2.2.1 = y.2.2.2.1 ∧ x.2.2.2.2 = y.2.2.2.2 := by
  have h1 : (l.map strip)[k]? = some (strip x) := by rw [List.getElem?_map, hx]; rfl
  have h2 : (m.map strip)[k]? = some (strip y) := by rw [List.getElem?_map, hy]; rfl
  rw [h, h2] at h1
  injection h1 with h1
  unfold strip at h1
  simp only [Prod.mk.injEq] at h1
  exact ⟨h1.1.symm, h1.2.1.symm, h1.2.2.symm⟩
set_option maxHeartbeats 2000000 in
theorem same_loose (p p' : Option Addr) (cap cap' : Nat) (l m : List Tok) (w : World) (hm : l.length ≤ 1000000000) (hA : TksOf w p l) (hA' : TksOf w p' m) (hl : l.map strip = m.map strip) :
    Calls Tryd.prog 12 #[.slice p l.length cap, .slice p' m.length cap', .bool false] w fun e w' => e = .returned (.bool true) ∧ Below w.heap.size w w' := by
  have HA := hide hA
  have HA' := hide hA'
  have hlen : m.length = l.length := by have := congrArg List.length hl; simpa using this.symm
  have Hl := hide hl
  clear hl
  rw [hlen]
  have hnn : ((l.length : Int) != (l.length : Int)) = false := by simp
  clear hA hA'
  go_enter Tryd.func12, Tryd.ntmps12
  go_wp2
  go_loopw [17] (fun i wr => ∃ k : Nat, k ≤ l.length ∧ i = .int .i64 k ∧ Below w.heap.size w wr) (fun i _ => l.length - (intOf i).toNat)
  case atStart => exact ⟨0, by omega, rfl, Below.refl _ _⟩
  case round =>
    obtain ⟨k, hk, rfl, hbel⟩ := hrel
    by_cases hlt : k < l.length
    · obtain ⟨bb, off, rfl, hbb, hAt⟩ := unhide HA (by omega)
      obtain ⟨cc, off', rfl, hcc, hCt⟩ := unhide HA' (by omega)
      obtain ⟨x, hx, _⟩ := get_at hlt
      obtain ⟨y, hy, _⟩ := get_at (l := m) (k := k) (by omega)
      have hxy := strip_at (unhide Hl) hx hy
      have ki0 : (0 : Int) ≤ (k : Int) := by omega
      have ki1 : (k : Int) < (l.length : Int) := by omega
      obtain ⟨g0, g1, g2, g3, g4⟩ := hAt.below hbel hbb k x hx
      obtain ⟨c0, c1, c2, c3, c4⟩ := hCt.below hbel hcc k y hy
      obtain ⟨x1, x2, x3, x4, x5⟩ := x
      obtain ⟨y1, y2, y3, y4, y5⟩ := y
      obtain ⟨rfl, rfl, rfl⟩ := hxy
      simp only at g0 g1 g2 g3 g4 c0 c1 c2 c3 c4
      have hnx := fun W : World => neqT_same x1 0 0 x4 x5 W
      have HB := hide hbel
      clear hx hy hbel
      go_wp2
      go_region_held3 (fun w' => w'.cell? ⟨bb, off + k * 5, none⟩ = some (.int .i64 x1) ∧ w'.cell? ⟨bb, off + k * 5 + 1, none⟩ = some (.int .i64 x2) ∧ w'.cell? ⟨bb, off + k * 5 + 2, none⟩ = some (.int .i64 x3) ∧ w'.cell? ⟨bb, off + k * 5 + 3, none⟩ = some (.int .i64 x4) ∧ w'.cell? ⟨bb, off + k * 5 + 4, none⟩ = some (.string x5) ∧ w'.cell? ⟨cc, off' + k * 5, none⟩ = some (.int .i64 x1) ∧ w'.cell? ⟨cc, off' + k * 5 + 1, none⟩ = some (.int .i64 y2) ∧ w'.cell? ⟨cc, off' + k * 5 + 2, none⟩ = some (.int .i64 y3) ∧ w'.cell? ⟨cc, off' + k * 5 + 3, none⟩ = some (.int .i64 x4) ∧ w'.cell? ⟨cc, off' + k * 5 + 4, none⟩ = some (.string x5)) (go_keep) (fail)
      all_goals
        go_wp2
        go_roundw
        case rel => exact ⟨k + 1, by omega, by go_num, (((unhide HB).alloc (unhide HB).size _).alloc (by have := (unhide HB).size; simp; omega) _).drew⟩
        case measure => simp [intOf]; omega
    · obtain rfl : k = l.length := by omega
      go_wp2
      go_ret
      exact ⟨rfl, hbel⟩
end Go.Proofs.YtpgknpoolkbboaaDoor
