/- Sorted, each once: the plain part. -/
import Derived.Test.YtjbafggnbfknfaaGreatDoorPlain
import Derived.Lib.SlicesCompact
import Derived.Sort.Walk0
namespace Go.Proofs.YtjbafggnbfknfaaGreatDoor

theorem once_of {α : Type} [Inhabited α] [DecidableEq α] (le lt : α → α → Prop) (hr : ∀ a, le a a) (ha : ∀ a b, le a b → le b a → a = b) (hl : ∀ a b, le a b → a ≠ b → lt a b) (zs : List α) (hs : zs.Pairwise le) :
    (∀ x, x ∈ Lib.compact zs ↔ x ∈ zs) ∧ (Lib.compact zs).Pairwise lt := by
  have hget : ∀ j (h : j < zs.length), zs.toArray[j]! = zs[j] := fun j h => by simp [h]
  have hle : ∀ i j (hi : i < zs.length) (hj : j < zs.length), i ≤ j → le zs[i] zs[j] := fun i j hi hj hij => by
    by_cases e : i = j
    · subst e; exact hr _
    · exact List.pairwise_iff_getElem.1 hs i j hi hj (by omega)
  have key : ∀ m, m ≤ zs.length → (∀ x, x ∈ Lib.compactUpTo zs.toArray m ↔ x ∈ zs.take m) ∧ (Lib.compactUpTo zs.toArray m).Pairwise lt := by
    intro m
    induction m with
    | zero => intro _; simp [Lib.compactUpTo]
    | succ m ih =>
      intro hm
      obtain ⟨i1, i2⟩ := ih (by omega)
      have hml : m < zs.length := by omega
      have ht : zs.take (m + 1) = zs.take m ++ [zs[m]] := List.take_succ_eq_append_getElem hml
      rw [Lib.compactUpTo_succ, hget m hml]
      cases hk : Lib.keeps zs.toArray m with
      | true =>
        rw [if_pos rfl]
        refine ⟨fun x => by rw [ht, List.mem_append, List.mem_append, i1], List.pairwise_append.2 ⟨i2, List.pairwise_singleton _ _, fun x hx y hy => ?_⟩⟩
        obtain rfl : y = zs[m] := by simpa using hy
        rw [i1] at hx
        obtain ⟨i, hi, rfl⟩ := List.mem_take_iff_getElem.1 hx
        have him : i < m := by omega
        refine hl _ _ (hle i m (by omega) hml (by omega)) fun e => ?_
        unfold Lib.keeps at hk
        simp only [decide_eq_true_eq] at hk
        rcases hk with hk | hk
        · omega
        · rw [hget m hml, hget (m - 1) (by omega)] at hk
          apply hk
          have h1 := hle i (m - 1) (by omega) (by omega) (by omega)
          have h2 := hle (m - 1) m (by omega) hml (by omega)
          rw [e] at h1
          exact ha _ _ h1 h2
      | false =>
        rw [if_neg (by simp), List.append_nil]
        refine ⟨fun x => ?_, i2⟩
        rw [i1, ht, List.mem_append]
        refine ⟨Or.inl, fun h => ?_⟩
        rcases h with h | h
        · exact h
        · obtain rfl : x = zs[m] := by simpa using h
          unfold Lib.keeps at hk
          simp only [decide_eq_false_iff_not, not_or, Classical.not_not] at hk
          rw [hget m hml, hget (m - 1) (by omega)] at hk
          rw [hk.2]
          exact List.mem_take_iff_getElem.2 ⟨m - 1, by omega, rfl⟩
  have := key zs.length (Nat.le_refl _)
  rw [List.take_length] at this
  exact this
theorem once_len {α : Type} [Inhabited α] [DecidableEq α] (zs : List α) : (Lib.compact zs).length ≤ zs.length := by
  unfold Lib.compact Lib.compactUpTo
  rw [List.length_map]
  exact Nat.le_trans (List.length_filter_le _ _) (by simp)
/-- Numbers sorted, each once. -/
def onceI (l : List Int) : List Int := Lib.compact (l.mergeSort fun x y => decide (x ≤ y))
theorem onceI_spec (l : List Int) : (∀ x, x ∈ onceI l ↔ x ∈ l) ∧ (onceI l).Pairwise (· < ·) ∧ (onceI l).length ≤ l.length := by
  have h := List.pairwise_mergeSort (le := fun x y : Int => decide (x ≤ y)) (fun a b c h1 h2 => by simp only [decide_eq_true_eq] at *; omega) (fun a b => by simp only [Bool.or_eq_true, decide_eq_true_eq]; omega) l
  have hs : (l.mergeSort fun x y => decide (x ≤ y)).Pairwise (· ≤ ·) := h.imp fun {a b} hab => by simpa using hab
  have hp : (l.mergeSort fun x y => decide (x ≤ y)).Perm l := List.mergeSort_perm _ _
  obtain ⟨h1, h2⟩ := once_of (· ≤ ·) (· < ·) (fun a => Int.le_refl a) (fun a b h1 h2 => by omega) (fun a b h1 h2 => by omega) _ hs
  refine ⟨fun x => (h1 x).trans hp.mem_iff, h2, ?_⟩
  have := once_len (l.mergeSort fun x y => decide (x ≤ y))
  rw [hp.length_eq] at this
  exact this
/-- Words sorted, each once. -/
def onceS (l : List ByteArray) : List ByteArray := (Lib.compact ((l.map (·.data.toList)).mergeSort fun x y => decide (x ≤ y))).map fun s => ⟨s.toArray⟩
def ltS (a b : ByteArray) : Prop := cmpS a.data.toList b.data.toList < 0
theorem onceS_spec (l : List ByteArray) : (∀ x, x ∈ onceS l ↔ x ∈ l) ∧ (onceS l).Pairwise ltS ∧ (onceS l).length ≤ l.length := by
  have hless : ∀ a b : List UInt8, a ≤ b ↔ Op.bytesLess b a = false := fun a b => by
    rw [bytesLess_eq, decide_eq_false_iff_not]; exact Iff.rfl
  have h := List.pairwise_mergeSort (le := fun x y : List UInt8 => decide (x ≤ y)) (fun a b c h1 h2 => by
      simp only [decide_eq_true_eq, hless] at *
      cases hc : Op.bytesLess c a with
      | false => rfl
      | true =>
        cases hb : Op.bytesLess b c with
        | true => rw [less_trans _ _ _ hb hc] at h1; cases h1
        | false =>
          by_cases e : b = c
          · subst e; rw [h1] at hc; cases hc
          · rw [less_total _ _ hb e] at h2; cases h2) (fun a b => by
      simp only [Bool.or_eq_true, decide_eq_true_eq, hless]
      cases hc : Op.bytesLess b a with
      | false => exact Or.inl rfl
      | true => exact Or.inr (less_asymm _ _ hc)) (l.map (·.data.toList))
  have hs : ((l.map (·.data.toList)).mergeSort fun x y => decide (x ≤ y)).Pairwise (fun a b => Op.bytesLess b a = false) := h.imp fun {a b} hab => (hless a b).1 (by simpa using hab)
  have hp : ((l.map (·.data.toList)).mergeSort fun x y => decide (x ≤ y)).Perm (l.map (·.data.toList)) := List.mergeSort_perm _ _
  obtain ⟨h1, h2⟩ := once_of (fun a b : List UInt8 => Op.bytesLess b a = false) (fun a b => Op.bytesLess a b = true) (fun a => less_irrefl a) (fun a b h1 h2 => Classical.byContradiction fun e => by rw [less_total _ _ h2 e] at h1; cases h1) (fun a b h1 h2 => less_total _ _ h1 (fun e => h2 e.symm)) _ hs
  refine ⟨fun x => ?_, ?_, ?_⟩
  · unfold onceS
    rw [List.mem_map]
    constructor
    · rintro ⟨s, hs1, rfl⟩
      have := (hp.mem_iff).1 ((h1 s).1 hs1)
      obtain ⟨y, hy, rfl⟩ := List.mem_map.1 this
      exact hy
    · intro hx
      exact ⟨x.data.toList, (h1 _).2 ((hp.mem_iff).2 (List.mem_map.2 ⟨x, hx, rfl⟩)), rfl⟩
  · unfold onceS
    rw [List.pairwise_map]
    exact h2.imp fun {a b} hab => by unfold ltS; rw [cmpS_lt (by simpa using hab)]; decide
  · unfold onceS
    rw [List.length_map]
    have := once_len ((l.map (·.data.toList)).mergeSort fun x y => decide (x ≤ y))
    rw [hp.length_eq, List.length_map] at this
    exact this
end Go.Proofs.YtjbafggnbfknfaaGreatDoor
