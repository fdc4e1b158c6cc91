/- How posts are compared, and slices.Compact over posts. -/
import Derived.Test.YtelgpmjafaopmaaIterI
namespace Go.Proofs.Ytelgpmjafaopmaa
open Go.RowKit Go.Sort Go.Shelf

theorem nan_any (a : Int) (w : World) : Calls Try.prog 57 #[.int .i64 a] w fun e w' => e = .returned (.bool false) ∧ w' = w := by
  have h : (a != a) = false := by simp
  go_enter Try.func57, Try.ntmps57
  go_wp2
  go_ret
  exact ⟨rfl, rfl⟩
theorem cmpI_lt {a b : Int} (h : a < b) : cmpI a b = -1 := by unfold cmpI; rw [if_pos h]
theorem cmpI_gt {a b : Int} (h : b < a) : cmpI a b = 1 := by unfold cmpI; rw [if_neg (by omega), if_pos h]
theorem cmpI_eq {a b : Int} (h1 : ¬ a < b) (h2 : ¬ b < a) : cmpI a b = 0 := by unfold cmpI; rw [if_neg h1, if_neg h2]
theorem compareI (a b : Int) (w : World) : Calls Try.prog 49 #[.int .i64 a, .int .i64 b] w fun e w' => e = .returned (.int .i64 (cmpI a b)) ∧ w' = w := by
  by_cases h1 : a < b
  · go_enter Try.func49, Try.ntmps49
    go_wp2_with (go_at_call 57; refine (nan_any _ _).mono ?_; rintro e w1 ⟨rfl, rfl⟩)
    go_ret
    exact ⟨ret_int (cmpI_lt h1).symm, rfl⟩
  · by_cases h2 : b < a
    · go_enter Try.func49, Try.ntmps49
      go_wp2_with (go_at_call 57; refine (nan_any _ _).mono ?_; rintro e w1 ⟨rfl, rfl⟩)
      go_ret
      exact ⟨ret_int (cmpI_gt h2).symm, rfl⟩
    · go_enter Try.func49, Try.ntmps49
      go_wp2_with (go_at_call 57; refine (nan_any _ _).mono ?_; rintro e w1 ⟨rfl, rfl⟩)
      go_ret
      exact ⟨ret_int (cmpI_eq (by omega) (by omega)).symm, rfl⟩
theorem cmpP_ne {x y : Pt} (h : x.1 ≠ y.1) : cmpP x y = cmpI x.1 y.1 := by
  unfold cmpP cmpI
  split
  · rfl
  · rw [if_pos (by omega), if_pos (by omega)]
/-- post.compare. -/
theorem compareP (x y : Pt) (w : World) : Calls Try.prog 43 #[.agg #[.int .i64 x.1, .bool x.2], .agg #[.int .i64 y.1, .bool y.2]] w fun e w' => e = .returned (.int .i64 (cmpP x y)) ∧ ∃ q os', w' = grow (w.drewN q) os' := by
  have hw : ∀ (o1 o2 : Obj), ∃ q os', (w.alloc o1).alloc o2 = grow (w.drewN q) os' := fun o1 o2 => ⟨0, _, by rw [alloc_eq_grow, alloc_eq_grow, grow_grow]; rfl⟩
  by_cases h : x.1 = y.1
  · have h1 : (x.1 != y.1) = false := by simpa using h
    cases hx : x.2 with
    | false =>
      cases hy : y.2 with
      | false =>
        have e : cmpP x y = 0 := by unfold cmpP; rw [if_neg (by omega), if_neg (by omega), if_pos (by rw [hx, hy])]
        rw [e]
        clear e hx hy
        go_enter Try.func43, Try.ntmps43
        go_wp2
        go_ret
        exact ⟨rfl, hw _ _⟩
      | true =>
        have e : cmpP x y = 1 := by unfold cmpP; rw [if_neg (by omega), if_neg (by omega), if_neg (by rw [hx, hy]; decide), if_neg (by rw [hx]; decide)]
        rw [e]
        clear e hx hy
        go_enter Try.func43, Try.ntmps43
        go_wp2
        go_ret
        exact ⟨rfl, hw _ _⟩
    | true =>
      cases hy : y.2 with
      | false =>
        have e : cmpP x y = -1 := by unfold cmpP; rw [if_neg (by omega), if_neg (by omega), if_neg (by rw [hx, hy]; decide), if_pos hx]
        rw [e]
        clear e hx hy
        go_enter Try.func43, Try.ntmps43
        go_wp2
        go_ret
        exact ⟨rfl, hw _ _⟩
      | true =>
        have e : cmpP x y = 0 := by unfold cmpP; rw [if_neg (by omega), if_neg (by omega), if_pos (by rw [hx, hy])]
        rw [e]
        clear e hx hy
        go_enter Try.func43, Try.ntmps43
        go_wp2
        go_ret
        exact ⟨rfl, hw _ _⟩
  · have h1 : (x.1 != y.1) = true := by simpa using h
    rw [cmpP_ne h]
    go_enter Try.func43, Try.ntmps43
    go_wp2_with (go_at_call 49; refine (compareI _ _ _).mono ?_; rintro e w1 ⟨rfl, rfl⟩)
    go_ret
    exact ⟨rfl, hw _ _⟩
/-- post.compareID. -/
theorem compareD (x : Pt) (id : Int) (w : World) : Calls Try.prog 37 #[.agg #[.int .i64 x.1, .bool x.2], .int .i64 id] w fun e w' => e = .returned (.int .i64 (cmpI x.1 id)) ∧ ∃ q os', w' = grow (w.drewN q) os' := by
  go_enter Try.func37, Try.ntmps37
  go_wp2_with (go_at_call 49; refine (compareI _ _ _).mono ?_; rintro e w1 ⟨rfl, rfl⟩)
  go_ret
  exact ⟨rfl, 0, _, by rw [alloc_eq_grow]; rfl⟩
end Go.Proofs.Ytelgpmjafaopmaa
