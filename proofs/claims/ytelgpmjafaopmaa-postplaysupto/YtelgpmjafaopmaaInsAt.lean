/- Where a post is set into a rising list. -/
import Derived.Test.YtelgpmjafaopmaaRef
import Derived.Test.YtelgpmjafaopmaaJoin
namespace Go.Proofs.Ytelgpmjafaopmaa
open Go.RowKit Go.Sort Go.Shelf

theorem refCmpB (x y : Pt) (w : World) : Calls Try.prog 35 #[.agg #[.int .i64 x.1, .bool x.2], .agg #[.int .i64 y.1, .bool y.2]] w fun e w' => e = .returned (.int .i64 (cmpP x y)) ∧ Below w.heap.size w w' :=
  (refCmp x y w).mono fun e w' ⟨he, q, os, hw⟩ => ⟨he, by rw [hw]; exact below_grown_any (Below.refl _ _) (Nat.le_refl _) _ _⟩
theorem cmp_pos (x y : Pt) : 0 < cmpP x y ↔ ltP y x := by
  unfold ltP cmpP
  obtain ⟨a1, a2⟩ := x
  obtain ⟨b1, b2⟩ := y
  cases a2 <;> cases b2 <;> simp <;> (repeat' split) <;> omega
theorem ins_at {o : List Pt} {k : Nat} {x : Pt} (hs : Str o) (hx : x ∉ o) (h1 : ∀ z ∈ o.drop k, ltP x z) (h2 : ∀ n z, k = n + 1 → o[n]? = some z → ¬ ltP x z) (hk : k ≤ o.length) :
    Str (o.take k ++ x :: o.drop k) ∧ ∀ z, z ∈ o.take k ++ x :: o.drop k ↔ z ∈ o ∨ z = x := by
  constructor
  · refine Str.app.2 ⟨hs.sub (List.take_sublist _ _), List.pairwise_cons.2 ⟨h1, hs.sub (List.drop_sublist _ _)⟩, fun a ha b hb => ?_⟩
    rcases List.mem_cons.1 hb with rfl | hb
    · cases k with
      | zero => simp at ha
      | succ n =>
        obtain ⟨z, hz, _⟩ := get_at (l := o) (k := n) (by omega)
        have hzx : ltP z b := Classical.byContradiction fun hc => hx ((lt_total hc (h2 n z rfl hz)) ▸ List.mem_of_getElem? hz)
        have hst : Str (o.take n ++ [z]) := by rw [← take_snoc_of hz]; exact hs.sub (List.take_sublist _ _)
        rw [take_snoc_of hz] at ha
        rcases List.mem_append.1 ha with h | h
        · exact lt_trans ((Str.app.1 hst).2.2 a h z (by simp)) hzx
        · obtain rfl : a = z := by simpa using h
          exact hzx
    · have := hs
      rw [← List.take_append_drop k o] at this
      exact (Str.app.1 this).2.2 a ha b hb
  · intro z
    have e : z ∈ o ↔ z ∈ o.take k ∨ z ∈ o.drop k := by rw [← List.mem_append, List.take_append_drop]
    rw [List.mem_append, List.mem_cons, e]
    constructor
    · rintro (h | h | h) <;> simp [h]
    · rintro ((h | h) | h) <;> simp [h]
theorem set_mid {o : List Pt} {K : Nat} (y z : Pt) (hK : K ≤ o.length) : (o.take K ++ y :: o.drop K).set K z = o.take K ++ z :: o.drop K := by
  rw [List.set_append_right _ _ (by simp; omega)]
  simp [List.length_take, Nat.min_eq_left hK]
theorem mid_at {o : List Pt} {K : Nat} (y : Pt) (hK : K ≤ o.length) : (o.take K ++ y :: o.drop K)[K]? = some y := by
  rw [List.getElem?_append_right (by simp; omega)]
  simp [List.length_take, Nat.min_eq_left hK]
theorem mid_left {o : List Pt} {K n : Nat} {z : Pt} (y : Pt) (hK : K ≤ o.length) (hn : n < K) (hz : o[n]? = some z) : (o.take K ++ y :: o.drop K)[n]? = some z := by
  rw [List.getElem?_append_left (by simp; omega), List.getElem?_take, if_pos hn, hz]
theorem mid_len {o : List Pt} {K : Nat} (y : Pt) (hK : K ≤ o.length) : (o.take K ++ y :: o.drop K).length = o.length + 1 := by
  simp [List.length_take, List.length_drop]; omega
theorem mid_step {o : List Pt} {n : Nat} {z : Pt} (hz : o[n]? = some z) : o.take (n + 1) ++ z :: o.drop (n + 1) = o.take n ++ z :: o.drop n := by
  have hl : n < o.length := (List.getElem?_eq_some_iff.1 hz).1
  have e : o.drop n = z :: o.drop (n + 1) := by
    have h := List.drop_eq_getElem_cons hl
    rw [(List.getElem?_eq_some_iff.1 hz).2] at h
    exact h
  rw [take_snoc_of hz, e]; simp
end Go.Proofs.Ytelgpmjafaopmaa
