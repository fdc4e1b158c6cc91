/- What the document's Check, Bounds, Has and Parent answer, at every span and at what is none. -/
import Derived.Test.YtjclojeihjgnkaaDoorSpan
namespace Go.Proofs.YtjclojeihjgnkaaDoor
open Go.RowKit

theorem rcheck_bad (L I : Int) (h : ¬ okS L I) (hL : -9223372036854775808 ≤ L ∧ L ≤ 9223372036854775807) (_hI : -9223372036854775808 ≤ I ∧ I ≤ 9223372036854775807) (w : World) :
    Calls Tryd.prog 15 #[.agg #[.int .i64 L, .int .i64 I]] w fun e w' => e = .returned (.bool false) ∧ Below w.heap.size w w' := by
  by_cases h1 : 0 ≤ L
  · by_cases h2 : L ≤ 32
    · by_cases h3 : 0 ≤ I
      · obtain ⟨l, k, rfl, hk, hi⟩ := not_okS h1 h2 h3 h
        clear h
        have e1 : IntKind.i64.wrap (32 - (l : Int)) = (k : Int) := by have : (32 : Int) - (l : Int) = k := (by omega); rw [this, IntKind.wrap_i64]; omega
        have e2 := shl_t k (by omega)
        have e3 : ((2 ^ k : Nat) : Int) ≤ I := by rw [Int.natCast_pow]; exact hi
        obtain ⟨T, hT⟩ : ∃ T, 2 ^ k = T := ⟨_, rfl⟩
        rw [hT] at e2 e3
        clear hT hi
        go_enter Tryd.func15, Tryd.ntmps15
        go_wp2
        go_region
        go_wp2
        go_ret
        exact ⟨by simp_all <;> omega, ((Below.refl _ _).alloc (Nat.le_refl _) _).drew⟩
      · clear h
        have d1 : decide (0 ≤ I) = false := by simpa using h3
        go_enter Tryd.func15, Tryd.ntmps15
        go_wp2
        go_region
        go_wp2
        go_ret
        exact ⟨by simp_all <;> omega, ((Below.refl _ _).alloc (Nat.le_refl _) _).drew⟩
    · clear h
      have d1 : decide (L ≤ 32) = false := by simpa using h2
      go_enter Tryd.func15, Tryd.ntmps15
      go_wp2
      go_region
      go_wp2
      go_ret
      exact ⟨by simp_all <;> omega, ((Below.refl _ _).alloc (Nat.le_refl _) _).drew⟩
  · clear h
    have d1 : decide (0 ≤ L) = false := by simpa using h1
    go_enter Tryd.func15, Tryd.ntmps15
    go_wp2
    go_region
    go_wp2
    go_ret
    exact ⟨by simp_all <;> omega, ((Below.refl _ _).alloc (Nat.le_refl _) _).drew⟩

theorem rbounds_good (l i : Nat) (h : okN l i) (w : World) :
    Calls Tryd.prog 11 #[.agg #[.int .i64 l, .int .i64 i]] w fun e w' => e = .returned (.tuple #[.int .i64 (loS l i), .int .i64 (hiS l i)]) ∧ Below w.heap.size w w' := by
  obtain ⟨hb1, hb2, hb3⟩ := okN_bound h
  have e4 := shl_t l hb3
  unfold loS hiS
  have e3 : IntKind.i64.wrap ((i : Int) * ((2 ^ l : Nat) : Int)) = ((i * 2 ^ l : Nat) : Int) := by rw [Int.natCast_mul, IntKind.wrap_i64, ← Int.natCast_mul]; omega
  obtain ⟨Q, hQ⟩ : ∃ Q, i * 2 ^ l = Q := ⟨_, rfl⟩
  obtain ⟨T, hT⟩ : ∃ T, 2 ^ l = T := ⟨_, rfl⟩
  rw [hQ] at e3 hb1
  rw [hT] at e4 e3 hb1 hb2
  have e5 : (l : Int) ≤ 32 := by omega
  rw [hQ, hT]
  clear hQ hT
  have H := hide h
  clear h
  go_enter Tryd.func11, Tryd.ntmps11
  go_wp2_with (go_at_call 15; refine (rcheck_good l i (unhide H) _).mono ?_; rintro e w1 ⟨rfl, hb⟩; obtain ⟨c0, c1, bel, sz⟩ := box_cells hb)
  go_region
  go_wp2
  go_region
  go_wp2
  refine bodyPost_ret (v := .tuple #[.int .i64 (-2147483648 + (Q : Int)), .int .i64 (-2147483648 + (Q : Int) + (T : Int) - 1)]) (by simp [results, Tryd.results11, go_sem]) rfl ⟨rfl, bel.drew.drew⟩

theorem rbounds_bad (L I : Int) (h : ¬ okS L I) (hL : -9223372036854775808 ≤ L ∧ L ≤ 9223372036854775807) (hI : -9223372036854775808 ≤ I ∧ I ≤ 9223372036854775807) (w : World) :
    Calls Tryd.prog 11 #[.agg #[.int .i64 L, .int .i64 I]] w fun e w' => e = .returned (.tuple #[.int .i64 0, .int .i64 0]) ∧ Below w.heap.size w w' := by
  have H := rcheck_bad L I h hL hI
  clear h
  go_enter Tryd.func11, Tryd.ntmps11
  go_wp2_with (go_at_call 15; refine (H _).mono ?_; rintro e w1 ⟨rfl, hb⟩; obtain ⟨c0, c1, bel, sz⟩ := box_cells hb)
  refine bodyPost_ret (v := .tuple #[.int .i64 0, .int .i64 0]) (by simp [results, Tryd.results11, go_sem]) rfl ⟨rfl, bel⟩

theorem rhas_good (l i : Nat) (h : okN l i) (x : Int) (w : World) :
    Calls Tryd.prog 17 #[.agg #[.int .i64 l, .int .i64 i], .int .i64 x] w fun e w' => e = .returned (.bool (decide (loS l i ≤ x) && decide (x ≤ hiS l i))) ∧ Below w.heap.size w w' := by
  obtain ⟨A, hA⟩ : ∃ A, loS l i = A := ⟨_, rfl⟩
  obtain ⟨B, hB⟩ : ∃ B, hiS l i = B := ⟨_, rfl⟩
  have hbo := rbounds_good l i h
  have hch := rcheck_good l i h
  rw [hA, hB] at hbo ⊢
  clear hA hB h
  go_enter Tryd.func17, Tryd.ntmps17
  go_wp2_with (first
    | (go_at_call 11; refine (hbo _).mono ?_; rintro e w1 ⟨rfl, hb⟩; obtain ⟨c0, c1, bel, sz⟩ := box_cells hb)
    | (go_at_call 15; refine (hch _).mono ?_; rintro e w2 ⟨rfl, hb2⟩))
  all_goals (go_ret; exact ⟨by simp_all <;> omega, bel.trans (hb2.mono bel.size)⟩)

theorem rhas_bad (L I : Int) (h : ¬ okS L I) (hL : -9223372036854775808 ≤ L ∧ L ≤ 9223372036854775807) (hI : -9223372036854775808 ≤ I ∧ I ≤ 9223372036854775807) (x : Int) (w : World) :
    Calls Tryd.prog 17 #[.agg #[.int .i64 L, .int .i64 I], .int .i64 x] w fun e w' => e = .returned (.bool false) ∧ Below w.heap.size w w' := by
  have hbo := rbounds_bad L I h hL hI
  have hch := rcheck_bad L I h hL hI
  clear h
  go_enter Tryd.func17, Tryd.ntmps17
  go_wp2_with (first
    | (go_at_call 11; refine (hbo _).mono ?_; rintro e w1 ⟨rfl, hb⟩; obtain ⟨c0, c1, bel, sz⟩ := box_cells hb)
    | (go_at_call 15; refine (hch _).mono ?_; rintro e w2 ⟨rfl, hb2⟩))
  all_goals (go_ret; exact ⟨rfl, bel.trans (hb2.mono bel.size)⟩)

theorem rparent_good (l i : Nat) (h : okN l i) (hl : l < 32) (w : World) :
    Calls Tryd.prog 13 #[.agg #[.int .i64 l, .int .i64 i]] w fun e w' => e = .returned (.tuple #[.agg #[.int .i64 ((l + 1 : Nat) : Int), .int .i64 ((i / 2 : Nat) : Int)], .bool true]) ∧ Below w.heap.size w w' := by
  have H := hide h
  obtain ⟨hb1, hb2, hb3⟩ := okN_bound h
  have hi : i ≤ 4294967296 := by
    have : i * 1 ≤ i * 2 ^ l := Nat.mul_le_mul_left _ hb2
    omega
  clear h hb1 hb2
  have e1 : ((l : Int) == 32) = false := by simp; omega
  have e2 : ¬ (l : Int) = 32 := by omega
  have e3 : (i : Int).tdiv 2 = ((i / 2 : Nat) : Int) := by rw [Int.tdiv_eq_ediv_of_nonneg (by omega)]; omega
  have e4 : IntKind.i64.wrap ((i / 2 : Nat) : Int) = ((i / 2 : Nat) : Int) := by rw [IntKind.wrap_i64]; omega
  go_enter Tryd.func13, Tryd.ntmps13
  go_wp2_with (go_at_call 15; refine (rcheck_good l i (unhide H) _).mono ?_; rintro e w1 ⟨rfl, hb⟩; obtain ⟨c0, c1, c2, c3, c4, bel, sz⟩ := box_two hb)
  refine bodyPost_ret (v := .tuple #[.agg #[.int .i64 ((l + 1 : Nat) : Int), .int .i64 ((i / 2 : Nat) : Int)], .bool true]) (by simp [results, Tryd.results13, go_sem, c2, c3]) rfl ⟨rfl, ?_⟩
  exact ((bel.setCell (by simp) _).setCell (by simp) _)

theorem rparent_top (i : Nat) (h : okN 32 i) (w : World) :
    Calls Tryd.prog 13 #[.agg #[.int .i64 32, .int .i64 i]] w fun e w' => e = .returned (.tuple #[.agg #[.int .i64 0, .int .i64 0], .bool false]) ∧ Below w.heap.size w w' := by
  have H := rcheck_good 32 i h
  clear h
  go_enter Tryd.func13, Tryd.ntmps13
  go_wp2_with (go_at_call 15; refine (H _).mono ?_; rintro e w1 ⟨rfl, hb⟩; obtain ⟨c0, c1, c2, c3, c4, bel, sz⟩ := box_two hb)
  refine bodyPost_ret (v := .tuple #[.agg #[.int .i64 0, .int .i64 0], .bool false]) (by simp [results, Tryd.results13, go_sem, c2, c3]) rfl ⟨rfl, ?_⟩
  exact ((bel.setCell (by simp) _).setCell (by simp) _)

theorem rparent_bad (L I : Int) (h : ¬ okS L I) (hL : -9223372036854775808 ≤ L ∧ L ≤ 9223372036854775807) (hI : -9223372036854775808 ≤ I ∧ I ≤ 9223372036854775807) (w : World) :
    Calls Tryd.prog 13 #[.agg #[.int .i64 L, .int .i64 I]] w fun e w' => e = .returned (.tuple #[.agg #[.int .i64 0, .int .i64 0], .bool false]) ∧ Below w.heap.size w w' := by
  have H := rcheck_bad L I h hL hI
  clear h
  go_enter Tryd.func13, Tryd.ntmps13
  go_wp2_with (go_at_call 15; refine (H _).mono ?_; rintro e w1 ⟨rfl, hb⟩; obtain ⟨c0, c1, c2, c3, c4, bel, sz⟩ := box_two hb)
  all_goals
    (refine bodyPost_ret (v := .tuple #[.agg #[.int .i64 0, .int .i64 0], .bool false]) (by simp [results, Tryd.results13, go_sem, c2, c3]) rfl ⟨rfl, ?_⟩
     exact ((bel.setCell (by simp) _).setCell (by simp) _))

end Go.Proofs.YtjclojeihjgnkaaDoor
