/- What the leaf functions of packages value and schema and of their references return, for every input. -/
import Derived.Test.YtencibjmiphinaaGreatDoorRows
import Derived.WalkKit
import Derived.WalkSpells
import Derived.WalkLawsBesides
import Derived.Deep.RegionHeld3
import Derived.Deep.QuietTactic
import Derived.BigQuiet
namespace Go.Proofs.YtencibjmiphinaaGreatDoor.Sc
open Go.RowKit

theorem ret_int {k : IntKind} {a b : Int} (h : a = b) : Ending.returned (.int k a) = .returned (.int k b) := by rw [h]
theorem ret_bool {a b : Bool} (h : a = b) : Ending.returned (.bool a) = .returned (.bool b) := by rw [h]
theorem hide {p : Prop} (h : p) : Hid p := h
theorem unhide {p : Prop} (h : Hid p) : p := h.out
def cmpI (a b : Int) : Int := if a < b then -1 else if b < a then 1 else 0
theorem cmpI_lt {a b : Int} (h : a < b) : cmpI a b = -1 := by unfold cmpI; rw [if_pos h]
theorem cmpI_gt {a b : Int} (h : b < a) : cmpI a b = 1 := by unfold cmpI; rw [if_neg (by omega), if_pos h]
theorem cmpI_eq {a b : Int} (h : a = b) : cmpI a b = 0 := by unfold cmpI; rw [if_neg (by omega), if_neg (by omega)]

def cmpS (a b : List UInt8) : Int := if Op.bytesLess a b then -1 else if a == b then 0 else 1

set_option maxHeartbeats 400000 in
theorem ints_any (a b : Int) (w : World) :
    Calls Tryz.prog 65 #[.int .i64 a, .int .i64 b] w fun e w' => e = .returned (.int .i64 (cmpI a b)) ∧ w' = w := by
  by_cases h1 : a < b
  · go_enter Tryz.func65, Tryz.ntmps65
    go_wp2
    go_ret
    exact ⟨ret_int (cmpI_lt h1).symm, rfl⟩
  · by_cases h2 : b < a
    · go_enter Tryz.func65, Tryz.ntmps65
      go_wp2
      go_ret
      exact ⟨ret_int (cmpI_gt h2).symm, rfl⟩
    · go_enter Tryz.func65, Tryz.ntmps65
      go_wp2
      go_ret
      exact ⟨ret_int (cmpI_eq (by omega)).symm, rfl⟩

theorem cmpS_lt {a b : List UInt8} (h : Op.bytesLess a b = true) : cmpS a b = -1 := by unfold cmpS; rw [if_pos h]
theorem cmpS_gt {a b : List UInt8} (h : Op.bytesLess a b = false) (h2 : (!a == b) = true) : cmpS a b = 1 := by
  unfold cmpS; rw [if_neg (by simp [h]), if_neg (by simpa using h2)]
theorem cmpS_eq {a b : List UInt8} (h : Op.bytesLess a b = false) (h2 : (!a == b) = false) : cmpS a b = 0 := by
  unfold cmpS; rw [if_neg (by simp [h]), if_pos (by simpa using h2)]

set_option maxHeartbeats 400000 in
theorem cmpStr_any (a b : ByteArray) (w : World) :
    Calls Tryz.prog 64 #[.string a, .string b] w fun e w' => e = .returned (.int .i64 (cmpS a.toList b.toList)) ∧ w' = w := by
  go_enter Tryz.func64, Tryz.ntmps64
  go_wp2
  all_goals go_ret
  · exact ⟨ret_int (cmpS_lt (by assumption)).symm, rfl⟩
  · exact ⟨ret_int (cmpS_gt (by assumption) (by assumption)).symm, rfl⟩
  · exact ⟨ret_int (cmpS_eq (by assumption) (by assumption)).symm, rfl⟩

/-- In form? 0: yes, 1: no. -/
def chkV (k n : Int) (s : ByteArray) : Int :=
  if (k = 1 ∧ -2147483648 ≤ n ∧ n ≤ 2147483647 ∧ s.size = 0) ∨ (k = 2 ∧ n = 0 ∧ s.size ≤ 64) then 0 else 1
theorem size_toList (s : ByteArray) : s.toList.length = s.size := by rw [ByteArray.toList_eq]; simp
theorem empty_iff (s : ByteArray) : s.toList.isEmpty = true ↔ s.size = 0 := by
  rw [List.isEmpty_iff, ← List.length_eq_zero_iff, size_toList]
theorem chk_yes1 {k n : Int} {s : ByteArray} (h0 : (k == 1) = true) (h1 : -2147483648 ≤ n) (h2 : n ≤ 2147483647) (h3 : s.toList.isEmpty = true) : chkV k n s = 0 := by
  unfold chkV; rw [if_pos (Or.inl ⟨by simpa using h0, h1, h2, (empty_iff s).1 h3⟩)]
theorem chk_yes2 {k n : Int} {s : ByteArray} (h0 : (k == 2) = true) (h1 : n = 0) (h2 : (s.size : Int) ≤ 64) : chkV k n s = 0 := by
  unfold chkV; rw [if_pos (Or.inr ⟨by simpa using h0, h1, by omega⟩)]
theorem chk_no1 {k n : Int} {s : ByteArray} (h0 : (k == 1) = true) (h : ¬ (-2147483648 ≤ n ∧ n ≤ 2147483647 ∧ s.size = 0)) : chkV k n s = 1 := by
  have : k = 1 := by simpa using h0
  unfold chkV; rw [if_neg]; rintro (⟨_, h'⟩ | ⟨h', _⟩); exact h h'; omega
theorem chk_no2 {k n : Int} {s : ByteArray} (h0 : (k == 1) = false) (h : ¬ (k = 2 ∧ n = 0 ∧ s.size ≤ 64)) : chkV k n s = 1 := by
  have : k ≠ 1 := by simpa using h0
  unfold chkV; rw [if_neg]; rintro (⟨h', _⟩ | h'); omega; exact h h'

set_option maxHeartbeats 400000 in
theorem check_any (k n : Int) (s : ByteArray) (w : World) :
    Calls Tryz.prog 115 #[.agg #[.int .i64 k, .int .i64 n, .string s]] w fun e w' => e = .returned (.int .i64 (chkV k n s)) ∧ Below w.heap.size w w' := by
  go_enter Tryz.func115, Tryz.ntmps115
  go_wp2
  all_goals (go_ret; refine ⟨ret_int ?_, (Below.refl _ _).alloc (Nat.le_refl _) _⟩)
  · exact (chk_yes1 (by assumption) (by assumption) (by assumption) (by assumption)).symm
  · exact (chk_no1 (by assumption) (by rw [← empty_iff]; simp [*])).symm
  · exact (chk_no1 (by assumption) (by omega)).symm
  · exact (chk_no1 (by assumption) (by omega)).symm
  · exact (chk_yes2 (by assumption) (by assumption) (by assumption)).symm
  · exact (chk_no2 (by assumption) (by omega)).symm
  · exact (chk_no2 (by assumption) (by omega)).symm
  · rename_i h
    have : k ≠ 2 := by simpa using h
    exact (chk_no2 (by assumption) (by omega)).symm

structure IsCmp {α : Type} (c : α → α → Int) : Prop where
  rng : ∀ a b, c a b = -1 ∨ c a b = 0 ∨ c a b = 1
  neg : ∀ a b, c b a = - c a b
  eq : ∀ a b, c a b = 0 ↔ a = b
  trans : ∀ a b d, c a b ≤ 0 → c b d ≤ 0 → c a d ≤ 0

theorem isCmp_int : IsCmp cmpI where
  rng a b := by unfold cmpI; split; simp; split <;> simp
  neg a b := by unfold cmpI; split <;> split <;> (try split) <;> omega
  eq a b := by unfold cmpI; split <;> (try split) <;> (constructor <;> intro h <;> omega)
  trans a b d := by unfold cmpI; intro h1 h2; split <;> (try split) <;> (split at h1 <;> (try split at h1) <;> split at h2 <;> (try split at h2) <;> omega)

theorem less_irrefl : ∀ l : List UInt8, Op.bytesLess l l = false
  | [] => rfl
  | c :: l => by simp [Op.bytesLess, less_irrefl l]
theorem less_asymm : ∀ l m : List UInt8, Op.bytesLess l m = true → Op.bytesLess m l = false
  | _, [] => by simp [Op.bytesLess]
  | [], _ :: _ => by simp [Op.bytesLess]
  | a :: x, b :: y => by
    have ih := less_asymm x y
    simp only [Op.bytesLess, Bool.or_eq_true, Bool.and_eq_true, decide_eq_true_eq, beq_iff_eq, Bool.or_eq_false_iff, decide_eq_false_iff_not, Bool.and_eq_false_iff, beq_eq_false_iff_ne]
    rintro (h | ⟨rfl, h⟩)
    · refine ⟨fun h2 => ?_, Or.inl fun h2 => ?_⟩
      · exact absurd (UInt8.lt_trans h h2) (UInt8.lt_irrefl _)
      · subst h2; exact absurd h (UInt8.lt_irrefl _)
    · exact ⟨UInt8.lt_irrefl _, Or.inr (ih h)⟩
theorem less_total : ∀ l m : List UInt8, Op.bytesLess l m = false → l ≠ m → Op.bytesLess m l = true
  | [], [] => by simp
  | _ :: _, [] => by simp [Op.bytesLess]
  | [], _ :: _ => by simp [Op.bytesLess]
  | a :: x, b :: y => by
    have ih := less_total x y
    simp only [Op.bytesLess, Bool.or_eq_true, Bool.and_eq_true, decide_eq_true_eq, beq_iff_eq, Bool.or_eq_false_iff, decide_eq_false_iff_not, Bool.and_eq_false_iff, beq_eq_false_iff_ne]
    rintro ⟨h1, h2⟩ h3
    by_cases e : a = b
    · subst e
      refine Or.inr ⟨rfl, ih ?_ fun h => h3 (by rw [h])⟩
      rcases h2 with h2 | h2
      · exact absurd rfl h2
      · exact h2
    · left
      rw [UInt8.lt_iff_toNat_lt] at h1 ⊢
      have : a.toNat ≠ b.toNat := fun h => e (UInt8.toNat_inj.1 h)
      omega
theorem less_trans : ∀ l m n : List UInt8, Op.bytesLess l m = true → Op.bytesLess m n = true → Op.bytesLess l n = true
  | _, _, [] => by simp [Op.bytesLess]
  | _, [], _ :: _ => by intro h; simp [Op.bytesLess] at h
  | [], _ :: _, _ :: _ => by simp [Op.bytesLess]
  | a :: x, b :: y, c :: z => by
    have ih := less_trans x y z
    simp only [Op.bytesLess, Bool.or_eq_true, Bool.and_eq_true, decide_eq_true_eq, beq_iff_eq]
    rintro (h1 | ⟨rfl, h1⟩) (h2 | ⟨rfl, h2⟩)
    · exact Or.inl (UInt8.lt_trans h1 h2)
    · exact Or.inl h1
    · exact Or.inl h2
    · exact Or.inr ⟨rfl, ih h1 h2⟩

theorem cmpS_cases (a b : List UInt8) : (Op.bytesLess a b = true ∧ cmpS a b = -1) ∨ (a = b ∧ cmpS a b = 0) ∨ (Op.bytesLess b a = true ∧ cmpS a b = 1) := by
  cases h : Op.bytesLess a b
  · by_cases e : a = b
    · subst e; exact Or.inr (Or.inl ⟨rfl, by unfold cmpS; rw [if_neg (by simp [h]), if_pos (by simp)]⟩)
    · exact Or.inr (Or.inr ⟨less_total a b h e, by unfold cmpS; rw [if_neg (by simp [h]), if_neg (by simpa using e)]⟩)
  · exact Or.inl ⟨rfl, cmpS_lt h⟩
theorem cmpS_of_lt {a b : List UInt8} (h : Op.bytesLess b a = true) : cmpS a b = 1 := by
  rcases cmpS_cases a b with ⟨h1, _⟩ | ⟨rfl, _⟩ | ⟨_, h2⟩
  · rw [less_asymm _ _ h] at h1; simp at h1
  · rw [less_irrefl] at h; simp at h
  · exact h2
theorem cmpS_refl (a : List UInt8) : cmpS a a = 0 := by
  unfold cmpS; rw [if_neg (by simp [less_irrefl]), if_pos (by simp)]

theorem isCmp_str : IsCmp cmpS where
  rng a b := by rcases cmpS_cases a b with ⟨_, h⟩ | ⟨_, h⟩ | ⟨_, h⟩ <;> simp [h]
  neg a b := by
    rcases cmpS_cases a b with ⟨h1, h⟩ | ⟨rfl, h⟩ | ⟨h1, h⟩
    · rw [cmpS_of_lt h1, h]; rfl
    · rw [h]; rfl
    · rw [cmpS_lt h1, h]
  eq a b := by
    rcases cmpS_cases a b with ⟨h1, h⟩ | ⟨rfl, h⟩ | ⟨h1, h⟩
    · rw [h]; refine ⟨fun h => by omega, fun e => ?_⟩; subst e; rw [less_irrefl] at h1; simp at h1
    · simp [h]
    · rw [h]; refine ⟨fun h => by omega, fun e => ?_⟩; subst e; rw [less_irrefl] at h1; simp at h1
  trans a b d h1 h2 := by
    rcases cmpS_cases a b with ⟨h, e⟩ | ⟨rfl, _⟩ | ⟨_, e⟩
    · rcases cmpS_cases b d with ⟨h', e'⟩ | ⟨rfl, _⟩ | ⟨_, e'⟩
      · rw [cmpS_lt (less_trans _ _ _ h h')]; omega
      · exact h1
      · omega
    · exact h2
    · omega

/-- First by the one, then by the other. -/
theorem cmpS_cons (a b : UInt8) (x y : List UInt8) : cmpS (a :: x) (b :: y) = if a = b then cmpS x y else cmpI (a.toNat : Int) (b.toNat : Int) := by
  by_cases h : a = b
  · subst h
    rw [if_pos rfl]
    unfold cmpS
    simp [Op.bytesLess]
  · rw [if_neg h]
    have hn : a.toNat ≠ b.toNat := fun e => h (UInt8.toNat_inj.1 e)
    by_cases hl : a < b
    · rw [cmpS_lt (by simp [Op.bytesLess, hl])]
      rw [UInt8.lt_iff_toNat_lt] at hl
      rw [cmpI_lt (by omega)]
    · rw [cmpS_gt (by simp [Op.bytesLess, hl, h]) (by simp [h])]
      rw [UInt8.lt_iff_toNat_lt] at hl
      rw [cmpI_gt (by omega)]
theorem cmpS_nil_l (m : List UInt8) : cmpS [] m = cmpI 0 m.length := by
  cases m with
  | nil => rfl
  | cons b y => rw [cmpS_lt (by simp [Op.bytesLess]), cmpI_lt (by simp)]
theorem cmpS_nil_r (m : List UInt8) : cmpS m [] = cmpI m.length 0 := by
  cases m with
  | nil => rfl
  | cons b y => rw [cmpS_gt (by simp [Op.bytesLess]) (by simp), cmpI_gt (by simp)]
theorem drop_at (s : ByteArray) (k : Nat) (h : k < s.size) : s.data.toList.drop k = s[k] :: s.data.toList.drop (k + 1) := by
  rw [List.drop_eq_getElem_cons (by simpa using h)]; rfl
theorem cmpI_shift (a b k : Int) : cmpI (a - k) (b - k) = cmpI a b := by
  unfold cmpI
  by_cases h1 : a < b
  · rw [if_pos h1, if_pos (by omega)]
  · rw [if_neg h1, if_neg (by omega)]
    by_cases h2 : b < a
    · rw [if_pos h2, if_pos (by omega)]
    · rw [if_neg h2, if_neg (by omega)]
theorem texts_end (a b : ByteArray) (k : Nat) (h1 : k ≤ a.size) (h2 : k ≤ b.size) (h : ¬ (k < a.size ∧ k < b.size)) : cmpS (a.data.toList.drop k) (b.data.toList.drop k) = cmpI a.size b.size := by
  by_cases h3 : k < a.size
  · have h4 : k = b.size := by omega
    rw [List.drop_of_length_le (l := b.data.toList) (by simp; omega), cmpS_nil_r]
    rw [← cmpI_shift a.size b.size k]
    simp only [List.length_drop, Array.length_toList]
    congr 1
    · show ((a.size - k : Nat) : Int) = _; omega
    · omega
  · have h4 : k = a.size := by omega
    rw [List.drop_of_length_le (l := a.data.toList) (by simp; omega), cmpS_nil_l]
    rw [← cmpI_shift a.size b.size k]
    simp only [List.length_drop, Array.length_toList]
    congr 1
    · omega
    · show ((b.size - k : Nat) : Int) = _; omega
theorem texts_ne (a b : ByteArray) (k : Nat) (h1 : k < a.size) (h2 : k < b.size) (h : (a[k].toNat : Int) ≠ b[k].toNat) : cmpS (a.data.toList.drop k) (b.data.toList.drop k) = cmpI a[k].toNat b[k].toNat := by
  rw [drop_at a k h1, drop_at b k h2, cmpS_cons, if_neg]
  intro e; rw [e] at h; exact h rfl
theorem texts_eq (a b : ByteArray) (k : Nat) (h1 : k < a.size) (h2 : k < b.size) (h : (a[k].toNat : Int) = b[k].toNat) : cmpS (a.data.toList.drop k) (b.data.toList.drop k) = cmpS (a.data.toList.drop (k + 1)) (b.data.toList.drop (k + 1)) := by
  rw [drop_at a k h1, drop_at b k h2, cmpS_cons, if_pos]
  exact UInt8.toNat_inj.1 (by omega)

theorem wrap_byte (c : UInt8) : IntKind.i64.wrap (c.toNat : Int) = (c.toNat : Int) := by
  have := c.toNat_lt
  have e : (2 : Int) ^ IntKind.i64.bits = 18446744073709551616 := by decide
  have e2 : (2 : Int) ^ (IntKind.i64.bits - 1) = 9223372036854775808 := by decide
  simp [IntKind.wrap, e, e2]
  omega

set_option maxHeartbeats 1000000 in
theorem texts_any (a b : ByteArray) (w : World) (ha : a.size ≤ maxLen) :
    Calls Tryz.prog 35 #[.string a, .string b] w fun e w' => e = .returned (.int .i64 (cmpS a.toList b.toList)) ∧ Below w.heap.size w w' := by
  unfold maxLen at ha
  rw [ByteArray.toList_eq, ByteArray.toList_eq]
  go_enter Tryz.func35, Tryz.ntmps35
  go_wp2
  go_loopw [5] (fun i wr => ∃ k : Nat, k ≤ a.size ∧ k ≤ b.size ∧ i = .int .i64 k ∧ Below w.heap.size w wr ∧ cmpS a.data.toList b.data.toList = cmpS (a.data.toList.drop k) (b.data.toList.drop k)) (fun i _ => a.size - (intOf i).toNat)
  case atStart => exact ⟨0, Nat.zero_le _, Nat.zero_le _, rfl, Below.refl _ _, by simp⟩
  case round =>
    obtain ⟨k, hka, hkb, rfl, hbel, heq⟩ := hrel
    have Heq := hide heq
    clear heq
    by_cases hlt : k < a.size ∧ k < b.size
    · obtain ⟨h1, h2⟩ := hlt
      have i0 : (0 : Int) ≤ (k : Int) := by omega
      have i1 : (k : Int) < (a.size : Int) := by omega
      have i2 : (k : Int) < (b.size : Int) := by omega
      by_cases hc : (a[k].toNat : Int) = b[k].toNat
      · have Hc := hide (texts_eq a b k h1 h2 hc)
        have hd : (((a[k].toNat : Int)) != (b[k].toNat : Int)) = false := by simp [hc]
        clear hc
        go_wp2
        go_quiet (fail)
        go_wp2
        go_roundw
        case rel => exact ⟨k + 1, by omega, by omega, by go_num, below_drewN hbel _, by rw [unhide Heq, unhide Hc]⟩
        case measure => simp [intOf]; omega
      · have Hc := hide (texts_ne a b k h1 h2 hc)
        have hd : (((a[k].toNat : Int)) != (b[k].toNat : Int)) = true := by simp [hc]
        clear hc
        go_wp2
        go_quiet (fail)
        go_wp2
        go_region_held3 (fun _ => True) (go_keep) ((go_at_call 65; refine (ints_any _ _ _).mono ?_; rintro e w' ⟨rfl, rfl⟩))
        all_goals
          go_wp2
          go_ret
          refine ⟨ret_int ?_, (below_drewN hbel _).drew⟩
          rw [unhide Heq, unhide Hc, wrap_byte, wrap_byte]

    · have Hend := hide (texts_end a b k hka hkb hlt)
      by_cases h1 : k < a.size
      · have h2 : ¬ k < b.size := fun h => hlt ⟨h1, h⟩
        clear hlt
        go_wp2_with (go_at_call 65; refine (ints_any _ _ _).mono ?_; rintro e w' ⟨rfl, rfl⟩)
        go_ret
        exact ⟨ret_int (by rw [unhide Heq, unhide Hend]), hbel⟩
      · clear hlt
        go_wp2_with (go_at_call 65; refine (ints_any _ _ _).mono ?_; rintro e w' ⟨rfl, rfl⟩)
        go_ret
        exact ⟨ret_int (by rw [unhide Heq, unhide Hend]), hbel⟩

end Go.Proofs.YtencibjmiphinaaGreatDoor.Sc
namespace Go.Proofs.YtencibjmiphinaaGreatDoor.Sc
open Go.RowKit

def isLet (c : Int) : Bool := decide (97 ≤ c) && decide (c ≤ 122)
def isDig (c : Int) : Bool := decide (48 ≤ c) && decide (c ≤ 57)
def okB (c : Int) : Bool := isLet c || isDig c || c == 95
def byteI (s : ByteArray) (i : Nat) : Int := if h : i < s.size then (s[i].toNat : Int) else 0
theorem byteI_lt {s : ByteArray} {i : Nat} (h : i < s.size) : byteI s i = (s[i].toNat : Int) := by unfold byteI; rw [dif_pos h]
/-- Is it a name? -/
def nameOk (s : ByteArray) : Bool := decide (1 ≤ s.size) && decide (s.size ≤ 32) && isLet (byteI s 0) && (List.range s.size).all fun i => okB (byteI s i)
theorem name_no0 {s : ByteArray} (h : s.size < 1) : nameOk s = false := by unfold nameOk; simp; omega
theorem name_no32 {s : ByteArray} (h : 32 < s.size) : nameOk s = false := by unfold nameOk; simp; omega
theorem name_noL {s : ByteArray} (h : isLet (byteI s 0) = false) : nameOk s = false := by unfold nameOk; simp [h]
theorem name_noB {s : ByteArray} {i : Nat} (hi : i < s.size) (h : okB (byteI s i) = false) : nameOk s = false := by
  unfold nameOk
  rw [Bool.and_eq_false_iff]
  right
  rw [Bool.eq_false_iff]
  intro hall
  rw [List.all_eq_true] at hall
  have := hall i (by simpa using hi)
  rw [h] at this; cases this
theorem name_yes {s : ByteArray} (h1 : 1 ≤ s.size) (h2 : s.size ≤ 32) (h3 : isLet (byteI s 0) = true) (h : ∀ j, j < s.size → okB (byteI s j) = true) : nameOk s = true := by
  unfold nameOk
  rw [h3]
  simp only [Bool.and_eq_true, decide_eq_true_eq, List.all_eq_true, List.mem_range]
  exact ⟨⟨⟨h1, h2⟩, trivial⟩, h⟩

set_option maxHeartbeats 400000 in
theorem letter_any (c : Int) (w : World) :
    Calls Tryz.prog 102 #[.int .u8 c] w fun e w' => e = .returned (.bool (isLet c)) ∧ w' = w := by
  by_cases h1 : 97 ≤ c <;> by_cases h2 : c ≤ 122
  all_goals
    go_enter Tryz.func102, Tryz.ntmps102
    go_wp2
    go_ret
    exact ⟨ret_bool (by simp [isLet, h1, h2]), rfl⟩
set_option maxHeartbeats 400000 in
theorem digit_any (c : Int) (w : World) :
    Calls Tryz.prog 103 #[.int .u8 c] w fun e w' => e = .returned (.bool (isDig c)) ∧ w' = w := by
  by_cases h1 : 48 ≤ c <;> by_cases h2 : c ≤ 57
  all_goals
    go_enter Tryz.func103, Tryz.ntmps103
    go_wp2
    go_ret
    exact ⟨ret_bool (by simp [isDig, h1, h2]), rfl⟩

set_option maxHeartbeats 1000000 in
theorem name_any (s : ByteArray) (w : World) :
    Calls Tryz.prog 60 #[.string s] w fun e w' => e = .returned (.bool (nameOk s)) ∧ w' = w := by
  by_cases h1 : s.size < 1
  · have hn := hide (name_no0 h1)
    have i1 : (s.size : Int) < 1 := by omega
    go_enter Tryz.func60, Tryz.ntmps60
    go_wp2
    go_ret
    exact ⟨ret_bool (unhide hn).symm, rfl⟩
  · by_cases h2 : 32 < s.size
    · have hn := hide (name_no32 h2)
      have i1 : ¬ (s.size : Int) < 1 := by omega
      have i2 : (32 : Int) < (s.size : Int) := by omega
      go_enter Tryz.func60, Tryz.ntmps60
      go_wp2
      go_ret
      exact ⟨ret_bool (unhide hn).symm, rfl⟩
    · have i1 : ¬ (s.size : Int) < 1 := by omega
      have i2 : ¬ (32 : Int) < (s.size : Int) := by omega
      have hb0 := byteI_lt (s := s) (i := 0) (by omega)
      have hlt := fun (c : Int) (W : World) => letter_any c W
      have hdg := fun (c : Int) (W : World) => digit_any c W
      cases hl : isLet (byteI s 0) with
      | false =>
        have hn := hide (name_noL hl)
        rw [hb0] at hl
        clear hb0
        have i0 : (0 : Int) < (s.size : Int) := by omega
        go_enter Tryz.func60, Tryz.ntmps60
        go_wp2_with (first | (go_at_call 102; refine (hlt _ _).mono ?_; rintro e w' ⟨rfl, rfl⟩))
        go_ret
        exact ⟨ret_bool (unhide hn).symm, rfl⟩
      | true =>
        have Hl := hide hl
        rw [hb0] at hl
        clear hb0
        have i0 : (0 : Int) < (s.size : Int) := by omega
        go_enter Tryz.func60, Tryz.ntmps60
        go_wp2_with (first | (go_at_call 102; refine (hlt _ _).mono ?_; rintro e w' ⟨rfl, rfl⟩))
        go_loop [20] (fun i => ∃ k : Nat, k ≤ s.size ∧ i = .int .i64 k ∧ ∀ j, j < k → okB (byteI s j) = true) (fun i => s.size - (intOf i).toNat)
        case atStart => exact ⟨0, by omega, rfl, fun j hj => by omega⟩
        case round =>
          obtain ⟨k, hk, rfl, hz⟩ := hrel
          have Hz := hide hz
          clear hz
          by_cases hkl : k < s.size
          · have ki0 : (0 : Int) ≤ (k : Int) := by omega
            have ki1 : (k : Int) < (s.size : Int) := by omega
            have hbk := byteI_lt hkl
            cases hok : okB (byteI s k) with
            | true =>
              have Hok := hide hok
              rw [hbk] at hok
              have hparts : (isLet (s[k].toNat : Int) = true) ∨ (isLet (s[k].toNat : Int) = false ∧ isDig (s[k].toNat : Int) = true) ∨ (isLet (s[k].toNat : Int) = false ∧ isDig (s[k].toNat : Int) = false ∧ ((s[k].toNat : Int) != 95) = false) := by
                revert hok; unfold okB
                cases isLet (s[k].toNat : Int) <;> cases isDig (s[k].toNat : Int) <;> simp
              clear hok hbk
              rcases hparts with p1 | ⟨p1, p2⟩ | ⟨p1, p2, p3⟩
              all_goals
                go_wp2_with (first | (go_at_call 102; refine (hlt _ _).mono ?_; rintro e w' ⟨rfl, rfl⟩) | (go_at_call 103; refine (hdg _ _).mono ?_; rintro e w' ⟨rfl, rfl⟩))
                go_round
                case rel => exact ⟨k + 1, by omega, by go_num, fun j hj => by
                  by_cases e : j = k
                  · rw [e]; exact unhide Hok
                  · exact unhide Hz j (by omega)⟩
                case measure => simp [intOf]; omega
            | false =>
              have hn := hide (name_noB hkl hok)
              rw [hbk] at hok
              have hparts : isLet (s[k].toNat : Int) = false ∧ isDig (s[k].toNat : Int) = false ∧ ((s[k].toNat : Int) != 95) = true := by
                revert hok; unfold okB
                cases isLet (s[k].toNat : Int) <;> cases isDig (s[k].toNat : Int) <;> simp
              obtain ⟨p1, p2, p3⟩ := hparts
              clear hok hbk
              go_wp2_with (first | (go_at_call 102; refine (hlt _ _).mono ?_; rintro e w' ⟨rfl, rfl⟩) | (go_at_call 103; refine (hdg _ _).mono ?_; rintro e w' ⟨rfl, rfl⟩))
              go_ret
              exact ⟨ret_bool (unhide hn).symm, rfl⟩
          · obtain rfl : k = s.size := by omega
            go_wp2
            go_ret
            exact ⟨ret_bool (name_yes (by omega) (by omega) (unhide Hl) (unhide Hz)).symm, rfl⟩

set_option maxHeartbeats 1000000 in
theorem refName_any (s : ByteArray) (w : World) :
    Calls Tryz.prog 33 #[.string s] w fun e w' => e = .returned (.bool (nameOk s)) ∧ w' = w := by
  by_cases h1 : s.size < 1
  · have hn := hide (name_no0 h1)
    have he : s.toList.isEmpty = true := (empty_iff s).2 (by omega)
    go_enter Tryz.func33, Tryz.ntmps33
    go_wp2
    go_ret
    exact ⟨ret_bool (unhide hn).symm, rfl⟩
  · have he : s.toList.isEmpty = false := by
      cases h : s.toList.isEmpty with
      | false => rfl
      | true => have := (empty_iff s).1 h; omega
    by_cases h2 : 32 < s.size
    · have hn := hide (name_no32 h2)
      have i2 : (32 : Int) < (s.size : Int) := by omega
      go_enter Tryz.func33, Tryz.ntmps33
      go_wp2
      go_ret
      exact ⟨ret_bool (unhide hn).symm, rfl⟩
    · have i2 : ¬ (32 : Int) < (s.size : Int) := by omega
      go_enter Tryz.func33, Tryz.ntmps33
      go_wp2
      go_loop [3] (fun i => ∃ k : Nat, k ≤ s.size ∧ i = .int .i64 k ∧ (0 < k → isLet (byteI s 0) = true) ∧ ∀ j, j < k → okB (byteI s j) = true) (fun i => s.size - (intOf i).toNat)
      case atStart => exact ⟨0, by omega, rfl, fun h => by omega, fun j hj => by omega⟩
      case round =>
        obtain ⟨k, hk, rfl, hl, hz⟩ := hrel
        have Hz := hide hz
        have Hl := hide hl
        clear hz hl
        by_cases hkl : k < s.size
        · have ki0 : (0 : Int) ≤ (k : Int) := by omega
          have ki1 : (k : Int) < (s.size : Int) := by omega
          have hbk := hide (byteI_lt hkl)
          by_cases k0 : k = 0
          · subst k0
            by_cases a : (97 : Int) ≤ (s[0].toNat : Int) ∧ (s[0].toNat : Int) ≤ 122
            · obtain ⟨a1, a2⟩ := a
              have hL : isLet (byteI s 0) = true := by rw [unhide hbk]; simp [isLet, a1, a2]
              have HL := hide hL
              clear hL
              go_wp2
              go_round
              case rel => exact ⟨0 + 1, by omega, by go_num, fun _ => unhide HL, fun j hj => by
                  obtain rfl : j = 0 := by omega
                  simp [okB, unhide HL]⟩
              case measure => simp [intOf]; omega
            · have hN := hide (name_noL (s := s) (by rw [unhide hbk]; simp [isLet]; omega))
              by_cases a1 : (97 : Int) ≤ (s[0].toNat : Int)
              · have a2 : ¬ (s[0].toNat : Int) ≤ 122 := fun h => a ⟨a1, h⟩
                clear a
                go_wp2
                go_ret
                exact ⟨ret_bool (unhide hN).symm, rfl⟩
              · clear a
                go_wp2
                go_ret
                exact ⟨ret_bool (unhide hN).symm, rfl⟩
          · have kd : ((k : Int) == 0) = false := by simp; omega
            cases hok : okB (byteI s k) with
            | true =>
              have Hok := hide hok
              rw [unhide hbk] at hok
              have hparts : ((97 : Int) ≤ (s[k].toNat : Int) ∧ (s[k].toNat : Int) ≤ 122) ∨ (¬ (97 : Int) ≤ (s[k].toNat : Int) ∧ ¬ (s[k].toNat : Int) < 48 ∧ ¬ (57 : Int) < (s[k].toNat : Int)) ∨ (¬ (97 : Int) ≤ (s[k].toNat : Int) ∧ ¬ (s[k].toNat : Int) < 48 ∧ (57 : Int) < (s[k].toNat : Int) ∧ ((s[k].toNat : Int) != 95) = false) := by
                revert hok; unfold okB isLet isDig; simp; omega
              clear hok
              rcases hparts with ⟨p1, p2⟩ | ⟨p1, p2, p3⟩ | ⟨p1, p2, p3, p4⟩
              all_goals
                go_wp2
                go_round
                case rel => exact ⟨k + 1, by omega, by go_num, fun _ => unhide Hl (by omega), fun j hj => by
                  by_cases e : j = k
                  · rw [e]; exact unhide Hok
                  · exact unhide Hz j (by omega)⟩
                case measure => simp [intOf]; omega
            | false =>
              have hn := hide (name_noB hkl hok)
              rw [unhide hbk] at hok
              have hparts : (¬ (97 : Int) ≤ (s[k].toNat : Int) ∧ (s[k].toNat : Int) < 48 ∧ ((s[k].toNat : Int) != 95) = true) ∨ (¬ (97 : Int) ≤ (s[k].toNat : Int) ∧ ¬ (s[k].toNat : Int) < 48 ∧ (57 : Int) < (s[k].toNat : Int) ∧ ((s[k].toNat : Int) != 95) = true) ∨ ((97 : Int) ≤ (s[k].toNat : Int) ∧ ¬ (s[k].toNat : Int) ≤ 122 ∧ ¬ (s[k].toNat : Int) < 48 ∧ (57 : Int) < (s[k].toNat : Int) ∧ ((s[k].toNat : Int) != 95) = true) := by
                revert hok; unfold okB isLet isDig; simp; omega
              clear hok
              rcases hparts with ⟨p1, p2, p3⟩ | ⟨p1, p2, p3, p4⟩ | ⟨p1, p2, p3, p4, p5⟩
              all_goals
                go_wp2
                go_ret
                exact ⟨ret_bool (unhide hn).symm, rfl⟩
        · obtain rfl : k = s.size := by omega
          go_wp2
          go_ret
          exact ⟨ret_bool (name_yes (by omega) (by omega) (unhide Hl (by omega)) (unhide Hz)).symm, rfl⟩

theorem name_a : nameOk ⟨#[97]⟩ = true := by decide
theorem name_b : nameOk ⟨#[98]⟩ = true := by decide
theorem name_a_1 : nameOk ⟨#[97, 95, 49]⟩ = true := by decide
end Go.Proofs.YtencibjmiphinaaGreatDoor.Sc
