/- The law ValueLeast returns true at every list of values. -/
import Derived.Test.YtojeihchkdkkgaaDoorRefLeast
import Derived.Test.YtojeihchkdkkgaaDoorFixed
import Derived.Test.YtojeihchkdkkgaaDoorOrder
namespace Go.Proofs.YtojeihchkdkkgaaDoor
open Go.RowKit

theorem Tryd.info23 : (Tryd.prog.info? 23).map (fun i => (i.zero, i.size, i.bytes)) = some (some (.agg #[.int .i64 0, .int .i64 0, .string ⟨#[]⟩]), 3, 32) := by kernel_rfl
theorem neqV (k n : Int) (s : ByteArray) (k' n' : Int) (s' : ByteArray) (w : World) : (binOp .neq 23 (.agg #[.int .i64 k, .int .i64 n, .string s]) (.agg #[.int .i64 k', .int .i64 n', .string s'])).run Tryd.prog w = .ok (.bool (!sameV k n s k' n' s')) w := by
  have u3 := Tryd.underlying3
  have a3 := Tryd.isAgg3
  have z3 := Tryd.sizeOf3
  have u9 := Tryd.underlying9
  have a9 := Tryd.isAgg9
  have z9 := Tryd.sizeOf9
  have hS : Tryd.prog.underlying 23 = some (.struct (Tryd.prog.fieldsOf 23)) := by kernel_rfl
  have hp : Tryd.prog.stoodInHeld 23 = false := by kernel_rfl
  rw [run_neq_struct, show (10000 : Nat) = 9999 + 1 from rfl, run_equalIn_agg w 9999 23 _ _ hS hp]
  simp only [Program.fieldsOf, Tryd.underlying23]
  go_simp
  by_cases h1 : k = k' <;> by_cases h2 : n = n' <;> by_cases h3 : s.toList = s'.toList <;> simp [sameV, h1, h2, h3]
theorem cmpW_refl_min (f : Nat → Val) : ∀ (m j : Nat), j ≤ m → ¬ cmpW (f j) (minTo f m) < 0 := by
  have hc : ∀ a b : Val, cmpW a b = cmpP (partsOf a.k a.n a.s) (partsOf b.k b.n b.s) := fun a b => rfl
  intro m
  induction m with
  | zero =>
    intro j hj
    obtain rfl : j = 0 := by omega
    show ¬ cmpW (f 0) (f 0) < 0
    rw [hc, (isCmp_val.eq _ _).2 rfl]; omega
  | succ m ih =>
    intro j hj
    unfold minTo
    by_cases h : cmpW (f (m + 1)) (minTo f m) < 0
    · rw [if_pos h]
      by_cases e : j = m + 1
      · rw [e, hc, (isCmp_val.eq _ _).2 rfl]; omega
      · intro h2
        have h3 := ih j (by omega)
        rw [hc] at h h2 h3
        exact h3 (by
          have h4 := isCmp_val.trans _ _ _ (Int.le_of_lt h2) (Int.le_of_lt h)
          rcases isCmp_val.rng (partsOf (f j).k (f j).n (f j).s) (partsOf (minTo f m).k (minTo f m).n (minTo f m).s) with r | r | r
          · omega
          · exfalso
            have e1 := (isCmp_val.eq _ _).1 r
            rw [e1] at h2
            have h5 := isCmp_val.neg (partsOf (minTo f m).k (minTo f m).n (minTo f m).s) (partsOf (f (m + 1)).k (f (m + 1)).n (f (m + 1)).s)
            omega
          · omega)
    · rw [if_neg h]
      by_cases e : j = m + 1
      · rw [e]; exact h
      · exact ih j (by omega)
set_option maxHeartbeats 400000 in
theorem least_zero (A : Option Addr) (cap : Nat) (w : World) :
    Calls Tryd.prog 23 #[.slice A 0 cap] w fun e w' => e = .returned (.tuple #[.agg #[.int .i64 0, .int .i64 0, .string ⟨#[]⟩], .bool false]) ∧ Below w.heap.size w w' := by
  go_enter Tryd.func23, Tryd.ntmps23
  go_wp2
  refine bodyPost_ret (v := .tuple #[.agg #[.int .i64 0, .int .i64 0, .string ⟨#[]⟩], .bool false]) (by simp [results, Tryd.results23, go_sem]) rfl ⟨rfl, ?_⟩
  exact (Below.refl _ _).alloc (Nat.le_refl _) _
set_option maxHeartbeats 400000 in
theorem refLeast_zero (A : Option Addr) (cap : Nat) (w : World) :
    Calls Tryd.prog 24 #[.slice A 0 cap] w fun e w' => e = .returned (.tuple #[.agg #[.int .i64 0, .int .i64 0, .string ⟨#[]⟩], .bool false]) ∧ Below w.heap.size w w' := by
  go_enter Tryd.func24, Tryd.ntmps24
  go_wp2
  go_loop [5] (fun i => i = .int .i64 0) (fun _ => 0)
  case atStart => rfl
  case round =>
    subst hrel
    go_wp2
    refine bodyPost_ret (v := .tuple #[.agg #[.int .i64 0, .int .i64 0, .string ⟨#[]⟩], .bool false]) (by simp [results, Tryd.results24, go_sem]) rfl ⟨rfl, ?_⟩
    exact ((Below.refl _ _).alloc (Nat.le_refl _) _).alloc (by simp) _

/-- The cells of the values f 0 .. f (n-1), one behind the other. -/
def flat (f : Nat → Val) (n : Nat) : List Value := (List.range n).flatMap fun j => [.int .i64 (f j).k, .int .i64 (f j).n, .string (f j).s]
theorem flat_succ (f : Nat → Val) (n : Nat) : flat f (n + 1) = flat f n ++ [.int .i64 (f n).k, .int .i64 (f n).n, .string (f n).s] := by
  unfold flat; rw [List.range_succ]; simp
theorem flat_len (f : Nat → Val) : ∀ n, (flat f n).length = n * 3
  | 0 => rfl
  | n + 1 => by rw [flat_succ, List.length_append, flat_len f n]; simp; omega
theorem flat_at (f : Nat → Val) : ∀ n j, j < n → (flat f n)[j * 3]? = some (.int .i64 (f j).k) ∧ (flat f n)[j * 3 + 1]? = some (.int .i64 (f j).n) ∧ (flat f n)[j * 3 + 2]? = some (.string (f j).s)
  | 0, j, h => by omega
  | n + 1, j, h => by
    rw [flat_succ]
    have hl := flat_len f n
    by_cases e : j = n
    · subst e
      refine ⟨?_, ?_, ?_⟩
      · rw [List.getElem?_append_right (by omega), hl]; simp
      · rw [List.getElem?_append_right (by omega), hl, show j * 3 + 1 - j * 3 = 1 by omega]; rfl
      · rw [List.getElem?_append_right (by omega), hl, show j * 3 + 2 - j * 3 = 2 by omega]; rfl
    · obtain ⟨h1, h2, h3⟩ := flat_at f n j (by omega)
      refine ⟨?_, ?_, ?_⟩
      · rw [List.getElem?_append_left (by omega)]; exact h1
      · rw [List.getElem?_append_left (by omega)]; exact h2
      · rw [List.getElem?_append_left (by omega)]; exact h3
theorem flat_one (f : Nat → Val) (n : Nat) : ∀ u ∈ flat f n, u.oneCell' = true := by
  intro u hu
  unfold flat at hu
  obtain ⟨j, _, hj⟩ := List.mem_flatMap.1 hu
  simp only [List.mem_cons, List.not_mem_nil, or_false] at hj
  rcases hj with rfl | rfl | rfl <;> rfl
theorem flat_cells {w : World} {b off n : Nat} {f : Nat → Val} (h : ValsAt w b off n f) : ∀ (j : Nat) (u : Value), (flat f n)[j]? = some u → w.cell? ((⟨b, off, none⟩ : Addr).add j) = some u := by
  intro j u hu
  have hj : j < n * 3 := by
    have := (List.getElem?_eq_some_iff.1 hu).1
    rw [flat_len] at this; exact this
  have ha : (⟨b, off, none⟩ : Addr).add j = ⟨b, off + j, none⟩ := by unfold Addr.add; split <;> simp_all
  rw [ha]
  obtain ⟨q, hq⟩ : ∃ q, q = j / 3 := ⟨_, rfl⟩
  obtain ⟨h1, h2, h3⟩ := h q (by omega)
  obtain ⟨g1, g2, g3⟩ := flat_at f n q (by omega)
  have hc : j = q * 3 ∨ j = q * 3 + 1 ∨ j = q * 3 + 2 := by omega
  rcases hc with e | e | e
  · rw [e] at hu ⊢; rw [g1] at hu; rw [← hu]; exact h1
  · rw [e] at hu ⊢; rw [g2] at hu; rw [← hu, ← Nat.add_assoc]; exact h2
  · rw [e] at hu ⊢; rw [g3] at hu; rw [← hu, ← Nat.add_assoc]; exact h3
/-- A row that owns the values' cells and more holds the values. -/
theorem vals_row {w : World} {B g m cap n : Nat} {f : Nat → Val} {more : List Value} (h : w.ownsRow B 23 3 (.slice (some ⟨g, 0, none⟩) m cap) m (flat f n ++ more)) (hm : n ≤ m) : ValsAt w g 0 n f := by
  intro j hj
  obtain ⟨g1, g2, g3⟩ := flat_at f n j hj
  have hl := flat_len f n
  refine ⟨?_, ?_, ?_⟩
  · rw [Nat.zero_add, h.cellAt (j * 3) (by omega), List.getElem?_append_left (by omega)]; exact g1
  · rw [Nat.zero_add, h.cellAt (j * 3 + 1) (by omega), List.getElem?_append_left (by omega)]; exact g2
  · rw [Nat.zero_add, h.cellAt (j * 3 + 2) (by omega), List.getElem?_append_left (by omega)]; exact g3
end Go.Proofs.YtojeihchkdkkgaaDoor
