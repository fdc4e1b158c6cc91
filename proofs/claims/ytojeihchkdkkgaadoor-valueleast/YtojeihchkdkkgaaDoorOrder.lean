/- The comparison of values is a total order, 0 just for the same value. -/
import Derived.Test.YtojeihchkdkkgaaDoorLeast
namespace Go.Proofs.YtojeihchkdkkgaaDoor
open Go.RowKit

/-- A total order, told by -1, 0, 1. -/
structure IsCmp {α : Type} (c : α → α → Int) : Prop where
  rng : ∀ a b, c a b = -1 ∨ c a b = 0 ∨ c a b = 1
  neg : ∀ a b, c b a = - c a b
  eq : ∀ a b, c a b = 0 ↔ a = b
  trans : ∀ a b d, c a b ≤ 0 → c b d ≤ 0 → c a d ≤ 0

theorem isCmp_int : IsCmp cmpI where
  rng a b := by unfold cmpI; split; simp; split <;> simp
  neg a b := by unfold cmpI; split <;> split <;> (try split) <;> omega
  eq a b := by unfold cmpI; split <;> (try split) <;> (constructor <;> intro h <;> omega)
  trans a b d := by unfold cmpI; intro h1 h2; split <;> (try split) <;> (split at h1 <;> (try split at h1) <;> split at h2 <;> (try split at h2) <;> omega)

theorem less_irrefl : ∀ l : List UInt8, Op.bytesLess l l = false
  | [] => rfl
  | c :: l => by simp [Op.bytesLess, less_irrefl l]
theorem less_asymm : ∀ l m : List UInt8, Op.bytesLess l m = true → Op.bytesLess m l = false
  | _, [] => by simp [Op.bytesLess]
  | [], _ :: _ => by simp [Op.bytesLess]
  | a :: x, b :: y => by
    have ih := less_asymm x y
    simp only [Op.bytesLess, Bool.or_eq_true, Bool.and_eq_true, decide_eq_true_eq, beq_iff_eq, Bool.or_eq_false_iff, decide_eq_false_iff_not, Bool.and_eq_false_iff, beq_eq_false_iff_ne]
    rintro (h | ⟨rfl, h⟩)
    · refine ⟨fun h2 => ?_, Or.inl fun h2 => ?_⟩
      · exact absurd (UInt8.lt_trans h h2) (UInt8.lt_irrefl _)
      · subst h2; exact absurd h (UInt8.lt_irrefl _)
    · exact ⟨UInt8.lt_irrefl _, Or.inr (ih h)⟩
theorem less_total : ∀ l m : List UInt8, Op.bytesLess l m = false → l ≠ m → Op.bytesLess m l = true
  | [], [] => by simp
  | _ :: _, [] => by simp [Op.bytesLess]
  | [], _ :: _ => by simp [Op.bytesLess]
  | a :: x, b :: y => by
    have ih := less_total x y
    simp only [Op.bytesLess, Bool.or_eq_true, Bool.and_eq_true, decide_eq_true_eq, beq_iff_eq, Bool.or_eq_false_iff, decide_eq_false_iff_not, Bool.and_eq_false_iff, beq_eq_false_iff_ne]
    rintro ⟨h1, h2⟩ h3
    by_cases e : a = b
    · subst e
      refine Or.inr ⟨rfl, ih ?_ fun h => h3 (by rw [h])⟩
      rcases h2 with h2 | h2
      · exact absurd rfl h2
      · exact h2
    · left
      rw [UInt8.lt_iff_toNat_lt] at h1 ⊢
      have : a.toNat ≠ b.toNat := fun h => e (UInt8.toNat_inj.1 h)
      omega
theorem less_trans : ∀ l m n : List UInt8, Op.bytesLess l m = true → Op.bytesLess m n = true → Op.bytesLess l n = true
  | _, _, [] => by simp [Op.bytesLess]
  | _, [], _ :: _ => by intro h; simp [Op.bytesLess] at h
  | [], _ :: _, _ :: _ => by simp [Op.bytesLess]
  | a :: x, b :: y, c :: z => by
    have ih := less_trans x y z
    simp only [Op.bytesLess, Bool.or_eq_true, Bool.and_eq_true, decide_eq_true_eq, beq_iff_eq]
    rintro (h1 | ⟨rfl, h1⟩) (h2 | ⟨rfl, h2⟩)
    · exact Or.inl (UInt8.lt_trans h1 h2)
    · exact Or.inl h1
    · exact Or.inl h2
    · exact Or.inr ⟨rfl, ih h1 h2⟩

theorem cmpS_cases (a b : List UInt8) : (Op.bytesLess a b = true ∧ cmpS a b = -1) ∨ (a = b ∧ cmpS a b = 0) ∨ (Op.bytesLess b a = true ∧ cmpS a b = 1) := by
  cases h : Op.bytesLess a b
  · by_cases e : a = b
    · subst e; exact Or.inr (Or.inl ⟨rfl, by unfold cmpS; rw [if_neg (by simp [h]), if_pos (by simp)]⟩)
    · exact Or.inr (Or.inr ⟨less_total a b h e, by unfold cmpS; rw [if_neg (by simp [h]), if_neg (by simpa using e)]⟩)
  · exact Or.inl ⟨rfl, cmpS_lt h⟩
theorem cmpS_of_lt {a b : List UInt8} (h : Op.bytesLess b a = true) : cmpS a b = 1 := by
  rcases cmpS_cases a b with ⟨h1, _⟩ | ⟨rfl, _⟩ | ⟨_, h2⟩
  · rw [less_asymm _ _ h] at h1; simp at h1
  · rw [less_irrefl] at h; simp at h
  · exact h2
theorem cmpS_refl (a : List UInt8) : cmpS a a = 0 := by
  unfold cmpS; rw [if_neg (by simp [less_irrefl]), if_pos (by simp)]

theorem isCmp_str : IsCmp cmpS where
  rng a b := by rcases cmpS_cases a b with ⟨_, h⟩ | ⟨_, h⟩ | ⟨_, h⟩ <;> simp [h]
  neg a b := by
    rcases cmpS_cases a b with ⟨h1, h⟩ | ⟨rfl, h⟩ | ⟨h1, h⟩
    · rw [cmpS_of_lt h1, h]; rfl
    · rw [h]; rfl
    · rw [cmpS_lt h1, h]
  eq a b := by
    rcases cmpS_cases a b with ⟨h1, h⟩ | ⟨rfl, h⟩ | ⟨h1, h⟩
    · rw [h]; refine ⟨fun h => by omega, fun e => ?_⟩; subst e; rw [less_irrefl] at h1; simp at h1
    · simp [h]
    · rw [h]; refine ⟨fun h => by omega, fun e => ?_⟩; subst e; rw [less_irrefl] at h1; simp at h1
  trans a b d h1 h2 := by
    rcases cmpS_cases a b with ⟨h, e⟩ | ⟨rfl, _⟩ | ⟨_, e⟩
    · rcases cmpS_cases b d with ⟨h', e'⟩ | ⟨rfl, _⟩ | ⟨_, e'⟩
      · rw [cmpS_lt (less_trans _ _ _ h h')]; omega
      · exact h1
      · omega
    · exact h2
    · omega

/-- First by the one, then by the other. -/
theorem isCmp_then {α β : Type} {c : α → α → Int} {d : β → β → Int} (hc : IsCmp c) (hd : IsCmp d) : IsCmp (fun (p q : α × β) => if c p.1 q.1 = 0 then d p.2 q.2 else c p.1 q.1) where
  rng p q := by split; exact hd.rng _ _; exact hc.rng _ _
  neg p q := by
    have h1 := hc.neg p.1 q.1
    have h2 := hd.neg p.2 q.2
    by_cases e : c p.1 q.1 = 0
    · rw [if_pos e, if_pos (by omega), h2]
    · rw [if_neg e, if_neg (by omega), h1]
  eq p q := by
    by_cases e : c p.1 q.1 = 0
    · rw [if_pos e, hd.eq]
      exact ⟨fun h => Prod.ext ((hc.eq _ _).1 e) h, fun h => by rw [h]⟩
    · rw [if_neg e]
      exact ⟨fun h => absurd h e, fun h => absurd ((hc.eq _ _).2 (by rw [h])) e⟩
  trans p q r := by
    intro h1 h2
    by_cases e1 : c p.1 q.1 = 0
    · rw [if_pos e1] at h1
      rw [(hc.eq _ _).1 e1]
      by_cases e2 : c q.1 r.1 = 0
      · rw [if_pos e2] at h2 ⊢; exact hd.trans _ _ _ h1 h2
      · rw [if_neg e2] at h2 ⊢; exact h2
    · rw [if_neg e1] at h1
      by_cases e2 : c q.1 r.1 = 0
      · rw [← (hc.eq _ _).1 e2, if_neg e1]; exact h1
      · rw [if_neg e2] at h2
        have h3 := hc.trans _ _ _ h1 h2
        by_cases e3 : c p.1 r.1 = 0
        · exfalso
          have h4 := (hc.eq _ _).1 e3
          have h5 := hc.neg p.1 q.1
          rw [h4] at h5 h1 e1
          rcases hc.rng r.1 q.1 with h6 | h6 | h6 <;> omega
        · rw [if_neg e3]; exact h3

/-- The order of values, over their parts. -/
def cmpP (p q : Int × Int × List UInt8) : Int := if cmpI p.1 q.1 = 0 then (if cmpI p.2.1 q.2.1 = 0 then cmpS p.2.2 q.2.2 else cmpI p.2.1 q.2.1) else cmpI p.1 q.1
theorem isCmp_val : IsCmp cmpP := isCmp_then isCmp_int (isCmp_then isCmp_int isCmp_str)
def partsOf (k n : Int) (s : ByteArray) : Int × Int × List UInt8 := (k, n, s.toList)
theorem cmpV_eq (k n : Int) (s : ByteArray) (k' n' : Int) (s' : ByteArray) : cmpV k n s k' n' s' = cmpP (partsOf k n s) (partsOf k' n' s') := rfl
theorem sameV_eq (k n : Int) (s : ByteArray) (k' n' : Int) (s' : ByteArray) : sameV k n s k' n' s' = decide (cmpV k n s k' n' s' = 0) := by
  rw [cmpV_eq, sameV, decide_eq_decide, isCmp_val.eq]
  simp [partsOf]

/-- '==' of two values. -/
theorem eqlV (k n : Int) (s : ByteArray) (k' n' : Int) (s' : ByteArray) (w : World) : (binOp .eql 23 (.agg #[.int .i64 k, .int .i64 n, .string s]) (.agg #[.int .i64 k', .int .i64 n', .string s'])).run Tryd.prog w = .ok (.bool (sameV k n s k' n' s')) w := by
  have u3 := Tryd.underlying3
  have a3 := Tryd.isAgg3
  have z3 := Tryd.sizeOf3
  have u9 := Tryd.underlying9
  have a9 := Tryd.isAgg9
  have z9 := Tryd.sizeOf9
  have hS : Tryd.prog.underlying 23 = some (.struct (Tryd.prog.fieldsOf 23)) := by kernel_rfl
  have hp : Tryd.prog.stoodInHeld 23 = false := by kernel_rfl
  rw [run_eql_struct, show (10000 : Nat) = 9999 + 1 from rfl, run_equalIn_agg w 9999 23 _ _ hS hp]
  simp only [Program.fieldsOf, Tryd.underlying23]
  go_simp
  by_cases h1 : k = k' <;> by_cases h2 : n = n' <;> by_cases h3 : s.toList = s'.toList <;> simp [sameV, h1, h2, h3]
end Go.Proofs.YtojeihchkdkkgaaDoor
