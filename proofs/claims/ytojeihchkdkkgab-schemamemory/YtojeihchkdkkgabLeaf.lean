/- What the leaf functions of packages value and schema and of their references return, for every input. -/
import Derived.Test.YtojeihchkdkkgabRows
import Derived.WalkKit
import Derived.WalkSpells
import Derived.WalkLawsBesides
import Derived.Deep.RegionHeld3
import Derived.Deep.QuietTactic
import Derived.BigQuiet
namespace Go.Proofs.Ytojeihchkdkkgab
open Go.RowKit

theorem ret_int {k : IntKind} {a b : Int} (h : a = b) : Ending.returned (.int k a) = .returned (.int k b) := by rw [h]
theorem ret_bool {a b : Bool} (h : a = b) : Ending.returned (.bool a) = .returned (.bool b) := by rw [h]
theorem hide {p : Prop} (h : p) : Hid p := h
theorem unhide {p : Prop} (h : Hid p) : p := h.out
def cmpI (a b : Int) : Int := if a < b then -1 else if b < a then 1 else 0
theorem cmpI_lt {a b : Int} (h : a < b) : cmpI a b = -1 := by unfold cmpI; rw [if_pos h]
theorem cmpI_gt {a b : Int} (h : b < a) : cmpI a b = 1 := by unfold cmpI; rw [if_neg (by omega), if_pos h]
theorem cmpI_eq {a b : Int} (h : a = b) : cmpI a b = 0 := by unfold cmpI; rw [if_neg (by omega), if_neg (by omega)]

def cmpS (a b : List UInt8) : Int := if Op.bytesLess a b then -1 else if a == b then 0 else 1

set_option maxHeartbeats 400000 in
theorem ints_any (a b : Int) (w : World) :
    Calls Try.prog 43 #[.int .i64 a, .int .i64 b] w fun e w' => e = .returned (.int .i64 (cmpI a b)) ∧ w' = w := by
  by_cases h1 : a < b
  · go_enter Try.func43, Try.ntmps43
    go_wp2
    go_ret
    exact ⟨ret_int (cmpI_lt h1).symm, rfl⟩
  · by_cases h2 : b < a
    · go_enter Try.func43, Try.ntmps43
      go_wp2
      go_ret
      exact ⟨ret_int (cmpI_gt h2).symm, rfl⟩
    · go_enter Try.func43, Try.ntmps43
      go_wp2
      go_ret
      exact ⟨ret_int (cmpI_eq (by omega)).symm, rfl⟩

theorem cmpS_lt {a b : List UInt8} (h : Op.bytesLess a b = true) : cmpS a b = -1 := by unfold cmpS; rw [if_pos h]
theorem cmpS_gt {a b : List UInt8} (h : Op.bytesLess a b = false) (h2 : (!a == b) = true) : cmpS a b = 1 := by
  unfold cmpS; rw [if_neg (by simp [h]), if_neg (by simpa using h2)]
theorem cmpS_eq {a b : List UInt8} (h : Op.bytesLess a b = false) (h2 : (!a == b) = false) : cmpS a b = 0 := by
  unfold cmpS; rw [if_neg (by simp [h]), if_pos (by simpa using h2)]

set_option maxHeartbeats 400000 in
theorem cmpStr_any (a b : ByteArray) (w : World) :
    Calls Try.prog 42 #[.string a, .string b] w fun e w' => e = .returned (.int .i64 (cmpS a.toList b.toList)) ∧ w' = w := by
  go_enter Try.func42, Try.ntmps42
  go_wp2
  all_goals go_ret
  · exact ⟨ret_int (cmpS_lt (by assumption)).symm, rfl⟩
  · exact ⟨ret_int (cmpS_gt (by assumption) (by assumption)).symm, rfl⟩
  · exact ⟨ret_int (cmpS_eq (by assumption) (by assumption)).symm, rfl⟩

/-- In form? 0: yes, 1: no. -/
def chkV (k n : Int) (s : ByteArray) : Int :=
  if (k = 1 ∧ -2147483648 ≤ n ∧ n ≤ 2147483647 ∧ s.size = 0) ∨ (k = 2 ∧ n = 0 ∧ s.size ≤ 64) then 0 else 1
theorem size_toList (s : ByteArray) : s.toList.length = s.size := by rw [ByteArray.toList_eq]; simp
theorem empty_iff (s : ByteArray) : s.toList.isEmpty = true ↔ s.size = 0 := by
  rw [List.isEmpty_iff, ← List.length_eq_zero_iff, size_toList]
theorem chk_yes1 {k n : Int} {s : ByteArray} (h0 : (k == 1) = true) (h1 : -2147483648 ≤ n) (h2 : n ≤ 2147483647) (h3 : s.toList.isEmpty = true) : chkV k n s = 0 := by
  unfold chkV; rw [if_pos (Or.inl ⟨by simpa using h0, h1, h2, (empty_iff s).1 h3⟩)]
theorem chk_yes2 {k n : Int} {s : ByteArray} (h0 : (k == 2) = true) (h1 : n = 0) (h2 : (s.size : Int) ≤ 64) : chkV k n s = 0 := by
  unfold chkV; rw [if_pos (Or.inr ⟨by simpa using h0, h1, by omega⟩)]
theorem chk_no1 {k n : Int} {s : ByteArray} (h0 : (k == 1) = true) (h : ¬ (-2147483648 ≤ n ∧ n ≤ 2147483647 ∧ s.size = 0)) : chkV k n s = 1 := by
  have : k = 1 := by simpa using h0
  unfold chkV; rw [if_neg]; rintro (⟨_, h'⟩ | ⟨h', _⟩); exact h h'; omega
theorem chk_no2 {k n : Int} {s : ByteArray} (h0 : (k == 1) = false) (h : ¬ (k = 2 ∧ n = 0 ∧ s.size ≤ 64)) : chkV k n s = 1 := by
  have : k ≠ 1 := by simpa using h0
  unfold chkV; rw [if_neg]; rintro (⟨h', _⟩ | h'); omega; exact h h'

set_option maxHeartbeats 400000 in
theorem check_any (k n : Int) (s : ByteArray) (w : World) :
    Calls Try.prog 44 #[.agg #[.int .i64 k, .int .i64 n, .string s]] w fun e w' => e = .returned (.int .i64 (chkV k n s)) ∧ Below w.heap.size w w' := by
  go_enter Try.func44, Try.ntmps44
  go_wp2
  all_goals (go_ret; refine ⟨ret_int ?_, (Below.refl _ _).alloc (Nat.le_refl _) _⟩)
  · exact (chk_yes1 (by assumption) (by assumption) (by assumption) (by assumption)).symm
  · exact (chk_no1 (by assumption) (by rw [← empty_iff]; simp [*])).symm
  · exact (chk_no1 (by assumption) (by omega)).symm
  · exact (chk_no1 (by assumption) (by omega)).symm
  · exact (chk_yes2 (by assumption) (by assumption) (by assumption)).symm
  · exact (chk_no2 (by assumption) (by omega)).symm
  · exact (chk_no2 (by assumption) (by omega)).symm
  · rename_i h
    have : k ≠ 2 := by simpa using h
    exact (chk_no2 (by assumption) (by omega)).symm

set_option maxHeartbeats 400000 in
theorem refCheck_any (k n : Int) (s : ByteArray) (w : World) :
    Calls Try.prog 36 #[.agg #[.int .i64 k, .int .i64 n, .string s]] w fun e w' => e = .returned (.int .i64 (chkV k n s)) ∧ Below w.heap.size w w' := by
  by_cases h1 : k = 1
  · subst h1
    go_enter Try.func36, Try.ntmps36
    go_wp2
    all_goals (go_ret; refine ⟨ret_int ?_, (Below.refl _ _).alloc (Nat.le_refl _) _⟩)
    · exact (chk_yes1 rfl (by assumption) (by assumption) (by assumption)).symm
    · exact (chk_no1 rfl (by rw [← empty_iff]; simp [*])).symm
    · exact (chk_no1 rfl (by omega)).symm
    · exact (chk_no1 rfl (by omega)).symm
  · by_cases h2 : k = 2 ∧ n = 0
    · obtain ⟨rfl, rfl⟩ := h2
      go_enter Try.func36, Try.ntmps36
      go_wp2
      all_goals (go_ret; refine ⟨ret_int ?_, (Below.refl _ _).alloc (Nat.le_refl _) _⟩)
      · exact (chk_yes2 rfl rfl (by assumption)).symm
      · exact (chk_no2 rfl (by omega)).symm
    · have hn : chkV k n s = 1 := chk_no2 (by simpa using h1) (by omega)
      have Hn : Hid (chkV k n s = 1) := hn
      clear hn
      by_cases h3 : k = 2
      · have h4 : n ≠ 0 := fun h => h2 ⟨h3, h⟩
        subst h3
        clear h2
        go_enter Try.func36, Try.ntmps36
        go_wp2
        all_goals (go_ret; exact ⟨ret_int Hn.out.symm, (Below.refl _ _).alloc (Nat.le_refl _) _⟩)
      · clear h2
        go_enter Try.func36, Try.ntmps36
        go_wp2
        all_goals (go_ret; exact ⟨ret_int Hn.out.symm, (Below.refl _ _).alloc (Nat.le_refl _) _⟩)

structure IsCmp {α : Type} (c : α → α → Int) : Prop where
  rng : ∀ a b, c a b = -1 ∨ c a b = 0 ∨ c a b = 1
  neg : ∀ a b, c b a = - c a b
  eq : ∀ a b, c a b = 0 ↔ a = b
  trans : ∀ a b d, c a b ≤ 0 → c b d ≤ 0 → c a d ≤ 0

theorem isCmp_int : IsCmp cmpI where
  rng a b := by unfold cmpI; split; simp; split <;> simp
  neg a b := by unfold cmpI; split <;> split <;> (try split) <;> omega
  eq a b := by unfold cmpI; split <;> (try split) <;> (constructor <;> intro h <;> omega)
  trans a b d := by unfold cmpI; intro h1 h2; split <;> (try split) <;> (split at h1 <;> (try split at h1) <;> split at h2 <;> (try split at h2) <;> omega)

theorem less_irrefl : ∀ l : List UInt8, Op.bytesLess l l = false
  | [] => rfl
  | c :: l => by simp [Op.bytesLess, less_irrefl l]
theorem less_asymm : ∀ l m : List UInt8, Op.bytesLess l m = true → Op.bytesLess m l = false
  | _, [] => by simp [Op.bytesLess]
  | [], _ :: _ => by simp [Op.bytesLess]
  | a :: x, b :: y => by
    have ih := less_asymm x y
    simp only [Op.bytesLess, Bool.or_eq_true, Bool.and_eq_true, decide_eq_true_eq, beq_iff_eq, Bool.or_eq_false_iff, decide_eq_false_iff_not, Bool.and_eq_false_iff, beq_eq_false_iff_ne]
    rintro (h | ⟨rfl, h⟩)
    · refine ⟨fun h2 => ?_, Or.inl fun h2 => ?_⟩
      · exact absurd (UInt8.lt_trans h h2) (UInt8.lt_irrefl _)
      · subst h2; exact absurd h (UInt8.lt_irrefl _)
    · exact ⟨UInt8.lt_irrefl _, Or.inr (ih h)⟩
theorem less_total : ∀ l m : List UInt8, Op.bytesLess l m = false → l ≠ m → Op.bytesLess m l = true
  | [], [] => by simp
  | _ :: _, [] => by simp [Op.bytesLess]
  | [], _ :: _ => by simp [Op.bytesLess]
  | a :: x, b :: y => by
    have ih := less_total x y
    simp only [Op.bytesLess, Bool.or_eq_true, Bool.and_eq_true, decide_eq_true_eq, beq_iff_eq, Bool.or_eq_false_iff, decide_eq_false_iff_not, Bool.and_eq_false_iff, beq_eq_false_iff_ne]
    rintro ⟨h1, h2⟩ h3
    by_cases e : a = b
    · subst e
      refine Or.inr ⟨rfl, ih ?_ fun h => h3 (by rw [h])⟩
      rcases h2 with h2 | h2
      · exact absurd rfl h2
      · exact h2
    · left
      rw [UInt8.lt_iff_toNat_lt] at h1 ⊢
      have : a.toNat ≠ b.toNat := fun h => e (UInt8.toNat_inj.1 h)
      omega
theorem less_trans : ∀ l m n : List UInt8, Op.bytesLess l m = true → Op.bytesLess m n = true → Op.bytesLess l n = true
  | _, _, [] => by simp [Op.bytesLess]
  | _, [], _ :: _ => by intro h; simp [Op.bytesLess] at h
  | [], _ :: _, _ :: _ => by simp [Op.bytesLess]
  | a :: x, b :: y, c :: z => by
    have ih := less_trans x y z
    simp only [Op.bytesLess, Bool.or_eq_true, Bool.and_eq_true, decide_eq_true_eq, beq_iff_eq]
    rintro (h1 | ⟨rfl, h1⟩) (h2 | ⟨rfl, h2⟩)
    · exact Or.inl (UInt8.lt_trans h1 h2)
    · exact Or.inl h1
    · exact Or.inl h2
    · exact Or.inr ⟨rfl, ih h1 h2⟩

theorem cmpS_cases (a b : List UInt8) : (Op.bytesLess a b = true ∧ cmpS a b = -1) ∨ (a = b ∧ cmpS a b = 0) ∨ (Op.bytesLess b a = true ∧ cmpS a b = 1) := by
  cases h : Op.bytesLess a b
  · by_cases e : a = b
    · subst e; exact Or.inr (Or.inl ⟨rfl, by unfold cmpS; rw [if_neg (by simp [h]), if_pos (by simp)]⟩)
    · exact Or.inr (Or.inr ⟨less_total a b h e, by unfold cmpS; rw [if_neg (by simp [h]), if_neg (by simpa using e)]⟩)
  · exact Or.inl ⟨rfl, cmpS_lt h⟩
theorem cmpS_of_lt {a b : List UInt8} (h : Op.bytesLess b a = true) : cmpS a b = 1 := by
  rcases cmpS_cases a b with ⟨h1, _⟩ | ⟨rfl, _⟩ | ⟨_, h2⟩
  · rw [less_asymm _ _ h] at h1; simp at h1
  · rw [less_irrefl] at h; simp at h
  · exact h2
theorem cmpS_refl (a : List UInt8) : cmpS a a = 0 := by
  unfold cmpS; rw [if_neg (by simp [less_irrefl]), if_pos (by simp)]

theorem isCmp_str : IsCmp cmpS where
  rng a b := by rcases cmpS_cases a b with ⟨_, h⟩ | ⟨_, h⟩ | ⟨_, h⟩ <;> simp [h]
  neg a b := by
    rcases cmpS_cases a b with ⟨h1, h⟩ | ⟨rfl, h⟩ | ⟨h1, h⟩
    · rw [cmpS_of_lt h1, h]; rfl
    · rw [h]; rfl
    · rw [cmpS_lt h1, h]
  eq a b := by
    rcases cmpS_cases a b with ⟨h1, h⟩ | ⟨rfl, h⟩ | ⟨h1, h⟩
    · rw [h]; refine ⟨fun h => by omega, fun e => ?_⟩; subst e; rw [less_irrefl] at h1; simp at h1
    · simp [h]
    · rw [h]; refine ⟨fun h => by omega, fun e => ?_⟩; subst e; rw [less_irrefl] at h1; simp at h1
  trans a b d h1 h2 := by
    rcases cmpS_cases a b with ⟨h, e⟩ | ⟨rfl, _⟩ | ⟨_, e⟩
    · rcases cmpS_cases b d with ⟨h', e'⟩ | ⟨rfl, _⟩ | ⟨_, e'⟩
      · rw [cmpS_lt (less_trans _ _ _ h h')]; omega
      · exact h1
      · omega
    · exact h2
    · omega

/-- First by the one, then by the other. -/
theorem cmpS_cons (a b : UInt8) (x y : List UInt8) : cmpS (a :: x) (b :: y) = if a = b then cmpS x y else cmpI (a.toNat : Int) (b.toNat : Int) := by
  by_cases h : a = b
  · subst h
    rw [if_pos rfl]
    unfold cmpS
    simp [Op.bytesLess]
  · rw [if_neg h]
    have hn : a.toNat ≠ b.toNat := fun e => h (UInt8.toNat_inj.1 e)
    by_cases hl : a < b
    · rw [cmpS_lt (by simp [Op.bytesLess, hl])]
      rw [UInt8.lt_iff_toNat_lt] at hl
      rw [cmpI_lt (by omega)]
    · rw [cmpS_gt (by simp [Op.bytesLess, hl, h]) (by simp [h])]
      rw [UInt8.lt_iff_toNat_lt] at hl
      rw [cmpI_gt (by omega)]
theorem cmpS_nil_l (m : List UInt8) : cmpS [] m = cmpI 0 m.length := by
  cases m with
  | nil => rfl
  | cons b y => rw [cmpS_lt (by simp [Op.bytesLess]), cmpI_lt (by simp)]
theorem cmpS_nil_r (m : List UInt8) : cmpS m [] = cmpI m.length 0 := by
  cases m with
  | nil => rfl
  | cons b y => rw [cmpS_gt (by simp [Op.bytesLess]) (by simp), cmpI_gt (by simp)]
theorem drop_at (s : ByteArray) (k : Nat) (h : k < s.size) : s.data.toList.drop k = s[k] :: s.data.toList.drop (k + 1) := by
  rw [List.drop_eq_getElem_cons (by simpa using h)]; rfl
theorem cmpI_shift (a b k : Int) : cmpI (a - k) (b - k) = cmpI a b := by
  unfold cmpI
  by_cases h1 : a < b
  · rw [if_pos h1, if_pos (by omega)]
  · rw [if_neg h1, if_neg (by omega)]
    by_cases h2 : b < a
    · rw [if_pos h2, if_pos (by omega)]
    · rw [if_neg h2, if_neg (by omega)]
theorem texts_end (a b : ByteArray) (k : Nat) (h1 : k ≤ a.size) (h2 : k ≤ b.size) (h : ¬ (k < a.size ∧ k < b.size)) : cmpS (a.data.toList.drop k) (b.data.toList.drop k) = cmpI a.size b.size := by
  by_cases h3 : k < a.size
  · have h4 : k = b.size := by omega
    rw [List.drop_of_length_le (l := b.data.toList) (by simp; omega), cmpS_nil_r]
    rw [← cmpI_shift a.size b.size k]
    simp only [List.length_drop, Array.length_toList]
    congr 1
    · show ((a.size - k : Nat) : Int) = _; omega
    · omega
  · have h4 : k = a.size := by omega
    rw [List.drop_of_length_le (l := a.data.toList) (by simp; omega), cmpS_nil_l]
    rw [← cmpI_shift a.size b.size k]
    simp only [List.length_drop, Array.length_toList]
    congr 1
    · omega
    · show ((b.size - k : Nat) : Int) = _; omega
theorem texts_ne (a b : ByteArray) (k : Nat) (h1 : k < a.size) (h2 : k < b.size) (h : (a[k].toNat : Int) ≠ b[k].toNat) : cmpS (a.data.toList.drop k) (b.data.toList.drop k) = cmpI a[k].toNat b[k].toNat := by
  rw [drop_at a k h1, drop_at b k h2, cmpS_cons, if_neg]
  intro e; rw [e] at h; exact h rfl
theorem texts_eq (a b : ByteArray) (k : Nat) (h1 : k < a.size) (h2 : k < b.size) (h : (a[k].toNat : Int) = b[k].toNat) : cmpS (a.data.toList.drop k) (b.data.toList.drop k) = cmpS (a.data.toList.drop (k + 1)) (b.data.toList.drop (k + 1)) := by
  rw [drop_at a k h1, drop_at b k h2, cmpS_cons, if_pos]
  exact UInt8.toNat_inj.1 (by omega)

theorem wrap_byte (c : UInt8) : IntKind.i64.wrap (c.toNat : Int) = (c.toNat : Int) := by
  have := c.toNat_lt
  have e : (2 : Int) ^ IntKind.i64.bits = 18446744073709551616 := by decide
  have e2 : (2 : Int) ^ (IntKind.i64.bits - 1) = 9223372036854775808 := by decide
  simp [IntKind.wrap, e, e2]
  omega

set_option maxHeartbeats 1000000 in
theorem texts_any (a b : ByteArray) (w : World) (ha : a.size ≤ maxLen) :
    Calls Try.prog 31 #[.string a, .string b] w fun e w' => e = .returned (.int .i64 (cmpS a.toList b.toList)) ∧ Below w.heap.size w w' := by
  unfold maxLen at ha
  rw [ByteArray.toList_eq, ByteArray.toList_eq]
  go_enter Try.func31, Try.ntmps31
  go_wp2
  go_loopw [5] (fun i wr => ∃ k : Nat, k ≤ a.size ∧ k ≤ b.size ∧ i = .int .i64 k ∧ Below w.heap.size w wr ∧ cmpS a.data.toList b.data.toList = cmpS (a.data.toList.drop k) (b.data.toList.drop k)) (fun i _ => a.size - (intOf i).toNat)
  case atStart => exact ⟨0, Nat.zero_le _, Nat.zero_le _, rfl, Below.refl _ _, by simp⟩
  case round =>
    obtain ⟨k, hka, hkb, rfl, hbel, heq⟩ := hrel
    have Heq := hide heq
    clear heq
    by_cases hlt : k < a.size ∧ k < b.size
    · obtain ⟨h1, h2⟩ := hlt
      have i0 : (0 : Int) ≤ (k : Int) := by omega
      have i1 : (k : Int) < (a.size : Int) := by omega
      have i2 : (k : Int) < (b.size : Int) := by omega
      by_cases hc : (a[k].toNat : Int) = b[k].toNat
      · have Hc := hide (texts_eq a b k h1 h2 hc)
        have hd : (((a[k].toNat : Int)) != (b[k].toNat : Int)) = false := by simp [hc]
        clear hc
        go_wp2
        go_quiet (fail)
        go_wp2
        go_roundw
        case rel => exact ⟨k + 1, by omega, by omega, by go_num, below_drewN hbel _, by rw [unhide Heq, unhide Hc]⟩
        case measure => simp [intOf]; omega
      · have Hc := hide (texts_ne a b k h1 h2 hc)
        have hd : (((a[k].toNat : Int)) != (b[k].toNat : Int)) = true := by simp [hc]
        clear hc
        go_wp2
        go_quiet (fail)
        go_wp2
        go_region_held3 (fun _ => True) (go_keep) ((go_at_call 43; refine (ints_any _ _ _).mono ?_; rintro e w' ⟨rfl, rfl⟩))
        all_goals
          go_wp2
          go_ret
          refine ⟨ret_int ?_, (below_drewN hbel _).drew⟩
          rw [unhide Heq, unhide Hc, wrap_byte, wrap_byte]

    · have Hend := hide (texts_end a b k hka hkb hlt)
      by_cases h1 : k < a.size
      · have h2 : ¬ k < b.size := fun h => hlt ⟨h1, h⟩
        clear hlt
        go_wp2_with (go_at_call 43; refine (ints_any _ _ _).mono ?_; rintro e w' ⟨rfl, rfl⟩)
        go_ret
        exact ⟨ret_int (by rw [unhide Heq, unhide Hend]), hbel⟩
      · clear hlt
        go_wp2_with (go_at_call 43; refine (ints_any _ _ _).mono ?_; rintro e w' ⟨rfl, rfl⟩)
        go_ret
        exact ⟨ret_int (by rw [unhide Heq, unhide Hend]), hbel⟩

end Go.Proofs.Ytojeihchkdkkgab
