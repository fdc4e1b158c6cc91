/- What Same returns, of any two trees. -/
import Derived.Test.YtcjkjhblmalbhaaTree
import Derived.Test.YtcjkjhblmalbhaaDeep
namespace Go.Proofs.Ytcjkjhblmalbhaa
open Go.RowKit

theorem pre_snoc {α : Type} {l m : List α} {k : Nat} {x : α} (h : l.take k = m.take k) (hx : l[k]? = some x) (hy : m[k]? = some x) : l.take (k + 1) = m.take (k + 1) := by
  rw [take_snoc_of hx, take_snoc_of hy, h]
theorem pre_ne {α : Type} {l m : List α} {k : Nat} {x y : α} (hx : l[k]? = some x) (hy : m[k]? = some y) (h : x ≠ y) : l ≠ m := fun e => by subst e; rw [hx] at hy; cases hy; exact h rfl
theorem toL_eq {a b : ByteArray} : (a.toList == b.toList) = decide (a = b) := by
  by_cases h : a = b
  · subst h; simp
  · rw [toList_ne h]; simp [h]
/-- The same tree? -/
noncomputable def sameT (a b : Nd) : Bool := @decide (a = b) (Classical.propDecidable _)
theorem sameT_yes {a b : Nd} (h : a = b) : sameT a b = true := by unfold sameT; simp [h]
theorem sameT_no {a b : Nd} (h : a ≠ b) : sameT a b = false := by unfold sameT; simp [h]
theorem sameT_iff {a b : Nd} : sameT a b = true ↔ a = b := by unfold sameT; simp
noncomputable def sameL (a b : List Nd) : Bool := @decide (a = b) (Classical.propDecidable _)
theorem sameL_yes {a b : List Nd} (h : a = b) : sameL a b = true := by unfold sameL; simp [h]
theorem sameL_no {a b : List Nd} (h : a ≠ b) : sameL a b = false := by unfold sameL; simp [h]
theorem NdsOf.cells {w wr : World} {q : Option Addr} {c : Nat} {l : List Nd} {j : Nat} {x : Nd} (h : NdsOf w q c l) (hj : l[j]? = some x) (hbel : Below w.heap.size w wr) :
    ∃ b off v, q = some ⟨b, off, none⟩ ∧ b < wr.heap.size ∧ NdIn wr v x ∧ (wr.cell? ⟨b, off + j * 8, none⟩ = some (.int .i64 v.kind) ∧ wr.cell? ⟨b, off + j * 8 + 1, none⟩ = some (.string v.attr) ∧ wr.cell? ⟨b, off + j * 8 + 2, none⟩ = some (.slice v.qi v.ni v.ci) ∧ wr.cell? ⟨b, off + j * 8 + 3, none⟩ = some (.slice v.qw v.nw v.cw) ∧ wr.cell? ⟨b, off + j * 8 + 4, none⟩ = some (.int .i64 v.lo) ∧ wr.cell? ⟨b, off + j * 8 + 5, none⟩ = some (.int .i64 v.hi) ∧ wr.cell? ⟨b, off + j * 8 + 6, none⟩ = some (.int .i64 v.op) ∧ wr.cell? ⟨b, off + j * 8 + 7, none⟩ = some (.slice v.qk v.nk v.ck)) := by
  obtain ⟨b, off, v, hq, hb, hin, c⟩ := (h.below hbel).at hj
  exact ⟨b, off, v, hq, hb, hin, c⟩
end Go.Proofs.Ytcjkjhblmalbhaa
