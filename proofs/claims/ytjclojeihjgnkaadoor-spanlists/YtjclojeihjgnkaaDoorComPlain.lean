/- The common span of a list does not see its order; beginnings and ends of lists in memory. -/
import Derived.Test.YtjclojeihjgnkaaDoorCoversLaw
namespace Go.Proofs.YtjclojeihjgnkaaDoor
open Go.RowKit

theorem bitLen_eq {u v : Nat} (hu : u < 2 ^ 64) (hv : v < 2 ^ 64) (h : ∀ k, u < 2 ^ k ↔ v < 2 ^ k) : Lib.bitLen u = Lib.bitLen v :=
  Nat.le_antisymm (Lib.bitLen_le u _ (bitLen_le64 v hv) ((h _).2 (bitLen_up v hv))) (Lib.bitLen_le v _ (bitLen_le64 u hu) ((h _).1 (bitLen_up u hu)))
theorem unl_same {a b : Nat} {l m : List Nat} (hm : ∀ x, x ∈ m ↔ x ∈ l) (ha : a ∈ l) (hb : b ∈ m) (k : Nat) : unl a l < 2 ^ k ↔ unl b m < 2 ^ k := by
  rw [unl_lt, unl_lt]
  constructor
  · intro h x hx
    rw [h x ((hm x).1 hx), h b ((hm b).1 hb)]
  · intro h x hx
    rw [h x ((hm x).2 hx), h a ((hm a).2 ha)]
theorem com_perm {xs ys : List Int} (h : ys.Perm xs) : comZ ys = comZ xs := by
  cases xs with
  | nil => rw [List.perm_nil.1 h]
  | cons x r =>
    cases ys with
    | nil => exact absurd (List.nil_perm.1 h) (by simp)
    | cons y s =>
      cases hall : (x :: r).all isNum with
      | false =>
        have h2 : (y :: s).all isNum = false := by rw [h.all_eq]; exact hall
        simp only [comZ, hall, h2, if_false, Bool.false_eq_true]
      | true =>
        have h2 : (y :: s).all isNum = true := by rw [h.all_eq]; exact hall
        rw [comZ_good rfl h2, comZ_good rfl hall]
        have hP := h.map plc
        have hm : ∀ z, z ∈ (y :: s).map plc ↔ z ∈ (x :: r).map plc := fun z => hP.mem_iff
        have ha : plc x ∈ (x :: r).map plc := by simp
        have hb : plc y ∈ (y :: s).map plc := by simp
        have small : ∀ {z : Int} {l : List Int}, isNum z = true → l.all isNum = true → unl (plc z) (l.map plc) < 2 ^ 32 := fun hz hl =>
          unl_small (plc_lt hz).1 fun t ht => by
            obtain ⟨q, hq, rfl⟩ := List.mem_map.1 ht
            exact (plc_lt (List.all_eq_true.1 hl q hq)).1
        have hx : isNum x = true := List.all_eq_true.1 hall x (by simp)
        have hy : isNum y = true := List.all_eq_true.1 h2 y (by simp)
        have s1 := small hx hall
        have s2 := small hy h2
        have e : Lib.bitLen (unl (plc y) ((y :: s).map plc)) = Lib.bitLen (unl (plc x) ((x :: r).map plc)) :=
          (bitLen_eq (by omega) (by omega) (unl_same hm ha hb)).symm
        rw [e]
        congr 2
        exact (unl_lt _ _ _).1 (bitLen_up _ (by omega)) _ ((hm _).1 hb)
/-- What the common span is. -/
theorem com_is {xs : List Int} {L J : Nat} (h : comZ xs = some (L, J)) : xs.all isNum = true ∧ L ≤ 32 ∧ okN L J ∧ (∀ x ∈ xs, plc x / 2 ^ L = J) ∧ (∀ k, L = k + 1 → (∃ x ∈ xs, plc x / 2 ^ k = 2 * J) ∧ ∃ x ∈ xs, plc x / 2 ^ k ≠ 2 * J) := by
  cases xs with
  | nil => simp [comZ] at h
  | cons x r =>
    cases hall : (x :: r).all isNum with
    | false => simp [comZ, hall] at h
    | true =>
      rw [comZ_good rfl hall] at h
      have hx : isNum x = true := List.all_eq_true.1 hall x (by simp)
      have small : unl (plc x) ((x :: r).map plc) < 2 ^ 32 :=
        unl_small (plc_lt hx).1 fun t ht => by
          obtain ⟨q, hq, rfl⟩ := List.mem_map.1 ht
          exact (plc_lt (List.all_eq_true.1 hall q hq)).1
      generalize hu : unl (plc x) ((x :: r).map plc) = u at *
      injection h with h
      injection h with h1 h2
      have hL : L ≤ 32 := by rw [← h1]; exact Lib.bitLen_le u 32 (by omega) small
      have hall2 : ∀ y ∈ x :: r, plc y / 2 ^ L = J := fun y hy => by
        rw [← h2, ← h1]
        rw [← hu]
        exact (unl_lt _ _ _).1 (bitLen_up _ (by rw [hu]; omega)) _ (List.mem_map.2 ⟨y, hy, rfl⟩)
      have hp := (plc_lt hx).1
      refine ⟨rfl, hL, ⟨32 - L, by omega, ?_⟩, hall2, ?_⟩
      · rw [← hall2 x (by simp)]
        apply Nat.div_lt_of_lt_mul
        rw [← Nat.pow_add, show L + (32 - L) = 32 by omega]
        exact hp
      · intro k hk
        have half : ∀ y ∈ x :: r, plc y / 2 ^ k = 2 * J ∨ plc y / 2 ^ k = 2 * J + 1 := fun y hy => by
          have h3 := hall2 y hy
          rw [hk, Nat.pow_succ, ← Nat.div_div_eq_div_mul] at h3
          omega
        have hnot : ¬ u < 2 ^ k := by
          intro g
          have := Lib.bitLen_le u k (by omega) g
          omega
        have hn2 : ¬ ∀ y ∈ x :: r, plc y / 2 ^ k = plc x / 2 ^ k := fun g => hnot (by
          rw [← hu]
          exact (unl_lt _ _ _).2 fun z hz => by
            obtain ⟨y, hy, rfl⟩ := List.mem_map.1 hz
            exact g y hy)
        obtain ⟨y, hy⟩ := Classical.not_forall.1 hn2
        obtain ⟨hym, hyn⟩ := Classical.not_imp.1 hy
        have hxm : x ∈ x :: r := by simp
        have a1 := half x hxm
        have a2 := half y hym
        by_cases c : plc x / 2 ^ k = 2 * J
        · exact ⟨⟨x, hxm, c⟩, y, hym, by omega⟩
        · exact ⟨⟨y, hym, by omega⟩, x, hxm, c⟩

theorem LsOf.take {α : Type} [Inhabited α] {enc : α → List Value} {k : Nat} (hk : 0 < k) {w : World} {q : Option Addr} {l : List α} (h : LsOf enc k w q l) (j : Nat) : LsOf enc k w q (l.take j) := fun h0 => by
  have h1 : 0 < l.length := by simp at h0; omega
  obtain ⟨b, off, hq, hb, hA⟩ := h h1
  refine ⟨b, off, hq, hb, fun t u ht => hA t u ?_⟩
  have e := flat_app enc k hk (l.take j) (l.drop j)
  rw [List.take_append_drop] at e
  rw [e, List.getElem?_append_left (List.getElem?_eq_some_iff.1 ht).1]
  exact ht
theorem LsOf.drop {α : Type} [Inhabited α] {enc : α → List Value} {k : Nat} (hk : 0 < k) {w : World} {b off : Nat} {l : List α} (h : LsOf enc k w (some ⟨b, off, none⟩) l) (j : Nat) : LsOf enc k w (some ⟨b, off + j * k, none⟩) (l.drop j) := fun h0 => by
  have h1 : j < l.length := by simp at h0; omega
  obtain ⟨b', off', hq, hb, hA⟩ := h (by omega)
  injection hq with hq
  injection hq with e1 e2
  subst e1 e2
  refine ⟨b, off + j * k, rfl, hb, fun t u ht => ?_⟩
  rw [Nat.add_assoc]
  refine hA (j * k + t) u ?_
  have e := flat_app enc k hk (l.take j) (l.drop j)
  rw [List.take_append_drop] at e
  have hl : (Sort.flatK enc k (l.take j).toArray).toList.length = j * k := by simp; rw [Nat.min_eq_left (by omega)]
  rw [e, List.getElem?_append_right (by omega), hl, show j * k + t - j * k = t by omega]
  exact ht
theorem com_all (xs : List Int) (q : Option Addr) (cap : Nat) (w : World) (hl : xs.length ≤ 140737488355328) (hA : LsOf encI 1 w q xs) :
    Calls Tryd.prog 19 #[.slice q xs.length cap] w fun e w' => e = .returned (comV (comZ xs)) ∧ Below w.heap.size w w' := by
  cases xs with
  | nil => exact com_none_nil q cap w
  | cons x r => exact com_any x r q cap w hl hA
theorem turn_perm {α : Type} (l : List α) (k : Nat) : (l.drop k ++ l.take k).Perm l := by
  have := List.perm_append_comm (l₁ := l.drop k) (l₂ := l.take k)
  rwa [List.take_append_drop] at this
theorem turn_k (n : Int) (m : Nat) (hm : 0 < m) (hb : m ≤ 140737488355328) : ∃ k : Nat, k < m ∧ wrap64 ((IntKind.u64.wrap n).tmod m) = (k : Int) := by
  have h0 : 0 ≤ IntKind.u64.wrap n := by
    have e : (2 : Int) ^ IntKind.u64.bits = 18446744073709551616 := by decide
    simp [IntKind.wrap, e, IntKind.signed]
    omega
  have e1 : (IntKind.u64.wrap n).tmod m = IntKind.u64.wrap n % m := Int.tmod_eq_emod_of_nonneg h0
  have h1 := Int.emod_nonneg (IntKind.u64.wrap n) (b := (m : Int)) (by omega)
  have h2 := Int.emod_lt_of_pos (IntKind.u64.wrap n) (b := (m : Int)) (by omega)
  rw [e1]
  refine ⟨(IntKind.u64.wrap n % (m : Int)).toNat, by omega, ?_⟩
  unfold wrap64
  omega
end Go.Proofs.YtjclojeihjgnkaaDoor
