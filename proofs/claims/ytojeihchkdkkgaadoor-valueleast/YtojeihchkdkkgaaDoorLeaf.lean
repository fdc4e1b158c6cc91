/- What the leaf functions of package value and of its reference return, for every input. -/
import Derived.Test.YtojeihchkdkkgaaDoorRows
import Derived.WalkKit
import Derived.WalkSpells
import Derived.WalkLawsBesides
import Derived.Deep.RegionHeld3
import Derived.Deep.QuietTactic
import Derived.BigQuiet
namespace Go.Proofs.YtojeihchkdkkgaaDoor
open Go.RowKit

theorem ret_int {k : IntKind} {a b : Int} (h : a = b) : Ending.returned (.int k a) = .returned (.int k b) := by rw [h]
theorem ret_bool {a b : Bool} (h : a = b) : Ending.returned (.bool a) = .returned (.bool b) := by rw [h]
theorem hide {p : Prop} (h : p) : Hid p := h
theorem unhide {p : Prop} (h : Hid p) : p := h.out
def cmpI (a b : Int) : Int := if a < b then -1 else if b < a then 1 else 0
theorem cmpI_lt {a b : Int} (h : a < b) : cmpI a b = -1 := by unfold cmpI; rw [if_pos h]
theorem cmpI_gt {a b : Int} (h : b < a) : cmpI a b = 1 := by unfold cmpI; rw [if_neg (by omega), if_pos h]
theorem cmpI_eq {a b : Int} (h : a = b) : cmpI a b = 0 := by unfold cmpI; rw [if_neg (by omega), if_neg (by omega)]

def cmpS (a b : List UInt8) : Int := if Op.bytesLess a b then -1 else if a == b then 0 else 1

set_option maxHeartbeats 400000 in
theorem ints_any (a b : Int) (w : World) :
    Calls Tryd.prog 30 #[.int .i64 a, .int .i64 b] w fun e w' => e = .returned (.int .i64 (cmpI a b)) ∧ w' = w := by
  by_cases h1 : a < b
  · go_enter Tryd.func30, Tryd.ntmps30
    go_wp2
    go_ret
    exact ⟨ret_int (cmpI_lt h1).symm, rfl⟩
  · by_cases h2 : b < a
    · go_enter Tryd.func30, Tryd.ntmps30
      go_wp2
      go_ret
      exact ⟨ret_int (cmpI_gt h2).symm, rfl⟩
    · go_enter Tryd.func30, Tryd.ntmps30
      go_wp2
      go_ret
      exact ⟨ret_int (cmpI_eq (by omega)).symm, rfl⟩

set_option maxHeartbeats 400000 in
theorem cmpInt_any (a b : Int) (w : World) :
    Calls Tryd.prog 28 #[.int .i64 a, .int .i64 b] w fun e w' => e = .returned (.int .i64 (cmpI a b)) ∧ w' = w := by
  by_cases h1 : a < b
  · go_enter Tryd.func28, Tryd.ntmps28
    go_wp2
    go_ret
    exact ⟨ret_int (cmpI_lt h1).symm, rfl⟩
  · by_cases h2 : b < a
    · go_enter Tryd.func28, Tryd.ntmps28
      go_wp2
      go_ret
      exact ⟨ret_int (cmpI_gt h2).symm, rfl⟩
    · go_enter Tryd.func28, Tryd.ntmps28
      go_wp2
      go_ret
      exact ⟨ret_int (cmpI_eq (by omega)).symm, rfl⟩

theorem cmpS_lt {a b : List UInt8} (h : Op.bytesLess a b = true) : cmpS a b = -1 := by unfold cmpS; rw [if_pos h]
theorem cmpS_gt {a b : List UInt8} (h : Op.bytesLess a b = false) (h2 : (!a == b) = true) : cmpS a b = 1 := by
  unfold cmpS; rw [if_neg (by simp [h]), if_neg (by simpa using h2)]
theorem cmpS_eq {a b : List UInt8} (h : Op.bytesLess a b = false) (h2 : (!a == b) = false) : cmpS a b = 0 := by
  unfold cmpS; rw [if_neg (by simp [h]), if_pos (by simpa using h2)]

set_option maxHeartbeats 400000 in
theorem cmpStr_any (a b : ByteArray) (w : World) :
    Calls Tryd.prog 29 #[.string a, .string b] w fun e w' => e = .returned (.int .i64 (cmpS a.toList b.toList)) ∧ w' = w := by
  go_enter Tryd.func29, Tryd.ntmps29
  go_wp2
  all_goals go_ret
  · exact ⟨ret_int (cmpS_lt (by assumption)).symm, rfl⟩
  · exact ⟨ret_int (cmpS_gt (by assumption) (by assumption)).symm, rfl⟩
  · exact ⟨ret_int (cmpS_eq (by assumption) (by assumption)).symm, rfl⟩

/-- In form? 0: yes, 1: no. -/
def chkV (k n : Int) (s : ByteArray) : Int :=
  if (k = 1 ∧ -2147483648 ≤ n ∧ n ≤ 2147483647 ∧ s.size = 0) ∨ (k = 2 ∧ n = 0 ∧ s.size ≤ 64) then 0 else 1
theorem size_toList (s : ByteArray) : s.toList.length = s.size := by rw [ByteArray.toList_eq]; simp
theorem empty_iff (s : ByteArray) : s.toList.isEmpty = true ↔ s.size = 0 := by
  rw [List.isEmpty_iff, ← List.length_eq_zero_iff, size_toList]
theorem chk_yes1 {k n : Int} {s : ByteArray} (h0 : (k == 1) = true) (h1 : -2147483648 ≤ n) (h2 : n ≤ 2147483647) (h3 : s.toList.isEmpty = true) : chkV k n s = 0 := by
  unfold chkV; rw [if_pos (Or.inl ⟨by simpa using h0, h1, h2, (empty_iff s).1 h3⟩)]
theorem chk_yes2 {k n : Int} {s : ByteArray} (h0 : (k == 2) = true) (h1 : n = 0) (h2 : (s.size : Int) ≤ 64) : chkV k n s = 0 := by
  unfold chkV; rw [if_pos (Or.inr ⟨by simpa using h0, h1, by omega⟩)]
theorem chk_no1 {k n : Int} {s : ByteArray} (h0 : (k == 1) = true) (h : ¬ (-2147483648 ≤ n ∧ n ≤ 2147483647 ∧ s.size = 0)) : chkV k n s = 1 := by
  have : k = 1 := by simpa using h0
  unfold chkV; rw [if_neg]; rintro (⟨_, h'⟩ | ⟨h', _⟩); exact h h'; omega
theorem chk_no2 {k n : Int} {s : ByteArray} (h0 : (k == 1) = false) (h : ¬ (k = 2 ∧ n = 0 ∧ s.size ≤ 64)) : chkV k n s = 1 := by
  have : k ≠ 1 := by simpa using h0
  unfold chkV; rw [if_neg]; rintro (⟨h', _⟩ | h'); omega; exact h h'

set_option maxHeartbeats 400000 in
theorem check_any (k n : Int) (s : ByteArray) (w : World) :
    Calls Tryd.prog 12 #[.agg #[.int .i64 k, .int .i64 n, .string s]] w fun e w' => e = .returned (.int .i64 (chkV k n s)) ∧ Below w.heap.size w w' := by
  go_enter Tryd.func12, Tryd.ntmps12
  go_wp2
  all_goals (go_ret; refine ⟨ret_int ?_, (Below.refl _ _).alloc (Nat.le_refl _) _⟩)
  · exact (chk_yes1 (by assumption) (by assumption) (by assumption) (by assumption)).symm
  · exact (chk_no1 (by assumption) (by rw [← empty_iff]; simp [*])).symm
  · exact (chk_no1 (by assumption) (by omega)).symm
  · exact (chk_no1 (by assumption) (by omega)).symm
  · exact (chk_yes2 (by assumption) (by assumption) (by assumption)).symm
  · exact (chk_no2 (by assumption) (by omega)).symm
  · exact (chk_no2 (by assumption) (by omega)).symm
  · rename_i h
    have : k ≠ 2 := by simpa using h
    exact (chk_no2 (by assumption) (by omega)).symm

set_option maxHeartbeats 400000 in
theorem refCheck_any (k n : Int) (s : ByteArray) (w : World) :
    Calls Tryd.prog 13 #[.agg #[.int .i64 k, .int .i64 n, .string s]] w fun e w' => e = .returned (.int .i64 (chkV k n s)) ∧ Below w.heap.size w w' := by
  by_cases h1 : k = 1
  · subst h1
    go_enter Tryd.func13, Tryd.ntmps13
    go_wp2
    all_goals (go_ret; refine ⟨ret_int ?_, (Below.refl _ _).alloc (Nat.le_refl _) _⟩)
    · exact (chk_yes1 rfl (by assumption) (by assumption) (by assumption)).symm
    · exact (chk_no1 rfl (by rw [← empty_iff]; simp [*])).symm
    · exact (chk_no1 rfl (by omega)).symm
    · exact (chk_no1 rfl (by omega)).symm
  · by_cases h2 : k = 2 ∧ n = 0
    · obtain ⟨rfl, rfl⟩ := h2
      go_enter Tryd.func13, Tryd.ntmps13
      go_wp2
      all_goals (go_ret; refine ⟨ret_int ?_, (Below.refl _ _).alloc (Nat.le_refl _) _⟩)
      · exact (chk_yes2 rfl rfl (by assumption)).symm
      · exact (chk_no2 rfl (by omega)).symm
    · have hn : chkV k n s = 1 := chk_no2 (by simpa using h1) (by omega)
      have Hn : Hid (chkV k n s = 1) := hn
      clear hn
      by_cases h3 : k = 2
      · have h4 : n ≠ 0 := fun h => h2 ⟨h3, h⟩
        subst h3
        clear h2
        go_enter Tryd.func13, Tryd.ntmps13
        go_wp2
        all_goals (go_ret; exact ⟨ret_int Hn.out.symm, (Below.refl _ _).alloc (Nat.le_refl _) _⟩)
      · clear h2
        go_enter Tryd.func13, Tryd.ntmps13
        go_wp2
        all_goals (go_ret; exact ⟨ret_int Hn.out.symm, (Below.refl _ _).alloc (Nat.le_refl _) _⟩)

/-- The same value? -/
def sameV (k n : Int) (s : ByteArray) (k' n' : Int) (s' : ByteArray) : Bool := decide (k = k' ∧ n = n' ∧ s.toList = s'.toList)

set_option maxHeartbeats 400000 in
theorem same_any (k n : Int) (s : ByteArray) (k' n' : Int) (s' : ByteArray) (w : World) :
    Calls Tryd.prog 14 #[.agg #[.int .i64 k, .int .i64 n, .string s], .agg #[.int .i64 k', .int .i64 n', .string s']] w fun e w' => e = .returned (.bool (sameV k n s k' n' s')) ∧ Below w.heap.size w w' := by
  go_enter Tryd.func14, Tryd.ntmps14
  go_wp2
  all_goals (go_ret; refine ⟨ret_bool ?_, ((Below.refl _ _).alloc (Nat.le_refl _) _).alloc (by simp) _⟩; simp [sameV, *])

/-- The first that is not 0. -/
def or3 (x y z : Int) : Int := if x = 0 then (if y = 0 then z else y) else x

set_option maxHeartbeats 400000 in
theorem or_any (b : Nat) (f : Nat → Int) (w : World) (hc : ∀ j, j < 3 → w.cell? ⟨b, j, none⟩ = some (.int .i64 (f j))) :
    Calls Tryd.prog 27 #[.slice (some ⟨b, 0, none⟩) 3 3] w fun e w' => e = .returned (.int .i64 (or3 (f 0) (f 1) (f 2))) ∧ w' = w := by
  go_enter Tryd.func27, Tryd.ntmps27
  go_wp2
  go_loop [8] (fun i => ∃ k : Nat, k ≤ 3 ∧ i = .int .i64 k ∧ ∀ j, j < k → f j = 0) (fun i => 3 - (intOf i).toNat)
  case atStart => exact ⟨0, by omega, rfl, fun j h => by omega⟩
  case round =>
    obtain ⟨k, hk, rfl, hz⟩ := hrel
    have Hz := hide hz
    clear hz
    by_cases hlt : k < 3
    · have hck := hc k hlt
      by_cases hf : f k = 0
      · have Hf := hide hf
        have hf' : (f k != 0) = false := by simp [hf]
        clear hf
        go_wp2
        go_round
        case rel => exact ⟨k + 1, by omega, by go_num, fun j hj => by
          by_cases e : j = k
          · rw [e]; exact unhide Hf
          · exact unhide Hz j (by omega)⟩
        case measure => simp [intOf]; omega
      · have hf' : (f k != 0) = true := by simp [hf]
        go_wp2
        go_ret
        refine ⟨ret_int ?_, rfl⟩
        have h0 := unhide Hz
        unfold or3
        obtain rfl | rfl | rfl : k = 0 ∨ k = 1 ∨ k = 2 := by omega
        · rw [if_neg hf]
        · rw [if_pos (h0 0 (by omega)), if_neg hf]
        · rw [if_pos (h0 0 (by omega)), if_pos (h0 1 (by omega))]
    · go_wp2
      go_ret
      refine ⟨ret_int ?_, rfl⟩
      have h0 := unhide Hz
      unfold or3
      rw [if_pos (h0 0 (by omega)), if_pos (h0 1 (by omega)), h0 2 (by omega)]

/-- Which of two values is ahead. -/
def cmpV (k n : Int) (s : ByteArray) (k' n' : Int) (s' : ByteArray) : Int := or3 (cmpI k k') (cmpI n n') (cmpS s.toList s'.toList)

theorem cells3 {w : World} {b : Nat} {x y z : Int} (h0 : w.cell? ⟨b, 0, none⟩ = some (.int .i64 x)) (h1 : w.cell? ⟨b, 1, none⟩ = some (.int .i64 y)) (h2 : w.cell? ⟨b, 2, none⟩ = some (.int .i64 z)) :
    ∀ j, j < 3 → w.cell? ⟨b, j, none⟩ = some (.int .i64 ((fun j => if j = 0 then x else if j = 1 then y else z) j)) := by
  intro j hj
  obtain rfl | rfl | rfl : j = 0 ∨ j = 1 ∨ j = 2 := by omega
  · simpa using h0
  · simpa using h1
  · simpa using h2

set_option maxHeartbeats 1000000 in
theorem compare_any (k n : Int) (s : ByteArray) (k' n' : Int) (s' : ByteArray) (w : World) :
    Calls Tryd.prog 15 #[.agg #[.int .i64 k, .int .i64 n, .string s], .agg #[.int .i64 k', .int .i64 n', .string s']] w fun e w' => e = .returned (.int .i64 (cmpV k n s k' n' s')) ∧ Below w.heap.size w w' := by
  go_enter Tryd.func15, Tryd.ntmps15
  go_wp2
  go_region_held3 (fun w' => w'.cell? ⟨w.heap.size, 0, none⟩ = some (.int .i64 k) ∧ w'.cell? ⟨w.heap.size, 1, none⟩ = some (.int .i64 n) ∧ w'.cell? ⟨w.heap.size, 2, none⟩ = some (.string s) ∧ w'.cell? ⟨w.heap.size + 1, 0, none⟩ = some (.int .i64 k') ∧ w'.cell? ⟨w.heap.size + 1, 1, none⟩ = some (.int .i64 n') ∧ w'.cell? ⟨w.heap.size + 1, 2, none⟩ = some (.string s')) (go_keep)
    (first
      | (go_at_call 28; refine (cmpInt_any _ _ _).mono ?_; rintro e w' ⟨rfl, rfl⟩)
      | (go_at_call 29; refine (cmpStr_any _ _ _).mono ?_; rintro e w' ⟨rfl, rfl⟩)
      | (go_at_call 27; refine (or_any _ (fun j => if j = 0 then cmpI k k' else if j = 1 then cmpI n n' else cmpS s.toList s'.toList) _ ?_).mono ?_; (refine cells3 ?_ ?_ ?_ <;> go_simp); rintro e w' ⟨rfl, rfl⟩))
  all_goals
    go_wp2
    go_ret
    exact ⟨rfl, Below.drew (((((Below.refl _ _).alloc (Nat.le_refl _) _).alloc (by simp) _).alloc (by simp; omega) _))⟩

end Go.Proofs.YtojeihchkdkkgaaDoor
