/- measured of a join. -/
import Derived.Test.YtcjkjhblmalbhaaDnfRows
import Derived.Deep.RegionHeld3
namespace Go.Proofs.Ytcjkjhblmalbhaa
open Go.RowKit Go.Sort

theorem rowA (X : World) (cur : Array Value) {n : Nat} (b0 b1 b2 b3 b4 b5 b6 b7 b8 b9 : Value) (sX : X.heap.size = n + 2) : ((X.alloc (.cells cur 73)).alloc (.cells #[b0, b1, b2, b3, b4, b5, b6, b7, b8, b9] 73)).drew.ownsRow (n + 2) 73 10 (.slice (some ⟨n + 2 + 1, 0, none⟩) 1 1) 1 [b0, b1, b2, b3, b4, b5, b6, b7, b8, b9] := by
  have h := box_nw (X.alloc (.cells cur 73)) (.cells #[b0, b1, b2, b3, b4, b5, b6, b7, b8, b9] 73)
  rw [size_al, sX] at h
  exact row_below (rowOf10 h (by omega) rfl (by unfold maxLen; omega)) ((Below.refl _ _).drew)
theorem rowA2 (X : World) (cur : Array Value) {n m : Nat} (o : Obj) (sX : X.heap.size = n + 2) (hcs : cur.size = m * 10) (hm : m ≤ maxLen) : ((X.alloc (.cells cur 73)).alloc o).drew.ownsRow (n + 2) 73 10 (.slice (some ⟨n + 2, 0, none⟩) m m) m cur.toList := by
  have h := box_nw X (.cells cur 73)
  rw [sX] at h
  exact row_below (rowOf10 h (by omega) hcs hm) (((Below.refl _ _).alloc (Nat.le_refl _) _).drew)
theorem rowB (X : World) (o : Obj) {n : Nat} (b0 b1 b2 b3 b4 b5 b6 b7 b8 b9 : Value) (sX : X.heap.size = n + 2) : ((X.alloc (.cells #[b0, b1, b2, b3, b4, b5, b6, b7, b8, b9] 73)).alloc o).drew.ownsRow (n + 2) 73 10 (.slice (some ⟨n + 2, 0, none⟩) 1 1) 1 [b0, b1, b2, b3, b4, b5, b6, b7, b8, b9] := by
  have h := box_nw X (.cells #[b0, b1, b2, b3, b4, b5, b6, b7, b8, b9] 73)
  rw [sX] at h
  exact row_below (rowOf10 h (by omega) rfl (by unfold maxLen; omega)) (((Below.refl _ _).alloc (Nat.le_refl _) _).drew)
theorem rowB2 (X : World) (cur : Array Value) {n m : Nat} (o : Obj) (sX : X.heap.size = n + 2) (hcs : cur.size = m * 10) (hm : m ≤ maxLen) : ((X.alloc o).alloc (.cells cur 73)).drew.ownsRow (n + 2) 73 10 (.slice (some ⟨n + 2 + 1, 0, none⟩) m m) m cur.toList := by
  have h := box_nw (X.alloc o) (.cells cur 73)
  rw [size_al, sX] at h
  exact row_below (rowOf10 h (by omega) hcs hm) ((Below.refl _ _).drew)
theorem set10b {B g o : Nat} {a w : World} (h : Below B a w) (hg : B ≤ g) (a0 a1 a2 a3 a4 a5 a6 a7 a8 a9 : Value) : Below B a ((((((((((w.setCell ⟨g, o, none⟩ (a0)).setCell ⟨g, o + 1, none⟩ (a1)).setCell ⟨g, o + 2, none⟩ (a2)).setCell ⟨g, o + 3, none⟩ (a3)).setCell ⟨g, o + 4, none⟩ (a4)).setCell ⟨g, o + 5, none⟩ (a5)).setCell ⟨g, o + 6, none⟩ (a6)).setCell ⟨g, o + 7, none⟩ (a7)).setCell ⟨g, o + 8, none⟩ (a8)).setCell ⟨g, o + 9, none⟩ (a9)) :=
  ((((((((((h.setCell (p := ⟨g, o, none⟩) hg a0)).setCell (p := ⟨g, o + 1, none⟩) hg a1).setCell (p := ⟨g, o + 2, none⟩) hg a2).setCell (p := ⟨g, o + 3, none⟩) hg a3).setCell (p := ⟨g, o + 4, none⟩) hg a4).setCell (p := ⟨g, o + 5, none⟩) hg a5).setCell (p := ⟨g, o + 6, none⟩) hg a6).setCell (p := ⟨g, o + 7, none⟩) hg a7).setCell (p := ⟨g, o + 8, none⟩) hg a8).setCell (p := ⟨g, o + 9, none⟩) hg a9
theorem g10z (w : World) (g : Nat) (a0 a1 a2 a3 a4 a5 a6 a7 a8 a9 : Value) : w.grownBy ((((((((((w.setCell ⟨g, 0, none⟩ (a0)).setCell ⟨g, 1, none⟩ (a1)).setCell ⟨g, 2, none⟩ (a2)).setCell ⟨g, 3, none⟩ (a3)).setCell ⟨g, 4, none⟩ (a4)).setCell ⟨g, 5, none⟩ (a5)).setCell ⟨g, 6, none⟩ (a6)).setCell ⟨g, 7, none⟩ (a7)).setCell ⟨g, 8, none⟩ (a8)).setCell ⟨g, 9, none⟩ (a9)) (some g) := gset (gset (gset (gset (gset (gset (gset (gset (gset (gset (grefl w (some g)) _ _) _ _) _ _) _ _) _ _) _ _) _ _) _ _) _ _) _ _
theorem ags10z {A C : Nat} {w0 w : World} (h : Ags A C w0 w) {g : Nat} (h1 : A ≤ g) (h2 : g < C) (a0 a1 a2 a3 a4 a5 a6 a7 a8 a9 : Value) : Ags A C w0 ((((((((((w.setCell ⟨g, 0, none⟩ (a0)).setCell ⟨g, 1, none⟩ (a1)).setCell ⟨g, 2, none⟩ (a2)).setCell ⟨g, 3, none⟩ (a3)).setCell ⟨g, 4, none⟩ (a4)).setCell ⟨g, 5, none⟩ (a5)).setCell ⟨g, 6, none⟩ (a6)).setCell ⟨g, 7, none⟩ (a7)).setCell ⟨g, 8, none⟩ (a8)).setCell ⟨g, 9, none⟩ (a9)) := ((((((((((h.set (p := ⟨g, 0, none⟩) h1 h2 a0)).set (p := ⟨g, 1, none⟩) h1 h2 a1).set (p := ⟨g, 2, none⟩) h1 h2 a2).set (p := ⟨g, 3, none⟩) h1 h2 a3).set (p := ⟨g, 4, none⟩) h1 h2 a4).set (p := ⟨g, 5, none⟩) h1 h2 a5).set (p := ⟨g, 6, none⟩) h1 h2 a6).set (p := ⟨g, 7, none⟩) h1 h2 a7).set (p := ⟨g, 8, none⟩) h1 h2 a8).set (p := ⟨g, 9, none⟩) h1 h2 a9
theorem snocS {kids : List Nd} {us : List Sv} {Q : Sv → Nd → Prop} {s : Sv} {x : Nd} {k : Nat} (hu : us.length = k) (hx : kids[k]? = some x) (h : ∀ (j : Nat) (v : Sv) (x : Nd), us[j]? = some v → kids[j]? = some x → Q v x) (sp : Q s x) : ∀ (j : Nat) (y : Sv) (z : Nd), (us ++ [s])[j]? = some y → kids[j]? = some z → Q y z := by
  intro j y z hj hz
  by_cases hjk : j < k
  · rw [List.getElem?_append_left (by omega)] at hj
    exact h j y z hj hz
  · have hj2 := (List.getElem?_eq_some_iff.1 hj).1
    rw [List.length_append, hu] at hj2
    obtain rfl : j = k := by simp at hj2; omega
    rw [List.getElem?_append_right (by omega), hu, Nat.sub_self] at hj
    rw [hx] at hz
    cases hj
    cases hz
    exact sp
end Go.Proofs.Ytcjkjhblmalbhaa
