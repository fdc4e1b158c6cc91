/- What Depth and Size return, for every tree. -/
import Derived.Test.YtcjkjhblmalbhaaTree
import Derived.Test.YtcjkjhblmalbhaaText
namespace Go.Proofs.Ytcjkjhblmalbhaa
open Go.RowKit

theorem depL_snoc {l : List Nd} {k : Nat} {x : Nd} (h : l[k]? = some x) : depL (l.take (k + 1)) = max (depL (l.take k)) (depN x) := by
  rw [take_snoc_of h, depL_app]; simp [depL]
theorem sizeL_snoc {l : List Nd} {k : Nat} {x : Nd} (h : l[k]? = some x) : sizeL (l.take (k + 1)) = sizeL (l.take k) + sizeN x := by
  rw [take_snoc_of h, sizeL_app]; simp [sizeL]
theorem sizeL_take (l : List Nd) (k : Nat) : sizeL (l.take k) ≤ sizeL l := by
  conv => rhs; rw [← List.take_append_drop k l, sizeL_app]
  omega
theorem depL_take (l : List Nd) (k : Nat) : depL (l.take k) ≤ depL l := by
  conv => rhs; rw [← List.take_append_drop k l, depL_app]
  omega
theorem size_pos (t : Nd) : 1 ≤ sizeN t := by cases t; simp only [sizeN]; omega
theorem len_size (l : List Nd) : l.length ≤ sizeL l := by
  induction l with
  | nil => simp
  | cons x l ih => have := size_pos x; simp only [sizeL, List.length_cons]; omega
theorem depL_size (l : List Nd) : depL l ≤ sizeL l := by
  induction l with
  | nil => simp [depL]
  | cons x l ih => have := dep_le x; simp only [depL, sizeL]; omega
end Go.Proofs.Ytcjkjhblmalbhaa
