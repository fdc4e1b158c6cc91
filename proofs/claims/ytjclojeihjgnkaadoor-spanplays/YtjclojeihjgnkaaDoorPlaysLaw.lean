/- The law SpanPlays: at every span and number the program answers as the document. -/
import Derived.Test.YtjclojeihjgnkaaDoorFixed
namespace Go.Proofs.YtjclojeihjgnkaaDoor
open Go.RowKit

set_option maxHeartbeats 2000000 in
theorem plays_core1 (L I x A B PA PB : Int) (pb hs : Bool) (w : World) (hG : G w)
    (h14 : ∀ w, Calls Tryd.prog 14 #[.agg #[.int .i64 L, .int .i64 I]] w fun e w' => e = .returned (.int .i64 0) ∧ Below w.heap.size w w')
    (h15 : ∀ w, Calls Tryd.prog 15 #[.agg #[.int .i64 L, .int .i64 I]] w fun e w' => e = .returned (.bool true) ∧ Below w.heap.size w w')
    (h10 : ∀ w, Calls Tryd.prog 10 #[.agg #[.int .i64 L, .int .i64 I]] w fun e w' => e = .returned (.tuple #[.int .i64 A, .int .i64 B]) ∧ Below w.heap.size w w')
    (h11 : ∀ w, Calls Tryd.prog 11 #[.agg #[.int .i64 L, .int .i64 I]] w fun e w' => e = .returned (.tuple #[.int .i64 A, .int .i64 B]) ∧ Below w.heap.size w w')
    (h12 : ∀ w, Calls Tryd.prog 12 #[.agg #[.int .i64 L, .int .i64 I]] w fun e w' => e = .returned (.tuple #[.agg #[.int .i64 PA, .int .i64 PB], .bool pb]) ∧ Below w.heap.size w w')
    (h13 : ∀ w, Calls Tryd.prog 13 #[.agg #[.int .i64 L, .int .i64 I]] w fun e w' => e = .returned (.tuple #[.agg #[.int .i64 PA, .int .i64 PB], .bool pb]) ∧ Below w.heap.size w w')
    (h16 : ∀ w, Calls Tryd.prog 16 #[.agg #[.int .i64 L, .int .i64 I], .int .i64 x] w fun e w' => e = .returned (.bool hs) ∧ Below w.heap.size w w')
    (h17 : ∀ w, Calls Tryd.prog 17 #[.agg #[.int .i64 L, .int .i64 I], .int .i64 x] w fun e w' => e = .returned (.bool hs) ∧ Below w.heap.size w w') :
    Calls Tryd.prog 3 #[.agg #[.int .i64 L, .int .i64 I], .int .i64 x] w fun e w' => e = .returned (.bool true) ∧ Below w.heap.size w w' := by
  have hfix := fixed_any
  have HG := hide (hG.below' ((Below.refl _ _).alloc (Nat.le_refl _) (.cells #[.int .i64 L, .int .i64 I] 23)))
  have qe := eqlS PA PB PA PB
  have d1 : decide (PA = PA ∧ PB = PB) = true := by simp
  rw [d1] at qe
  clear hG d1
  go_enter Tryd.func3, Tryd.ntmps3
  go_wp2_with (first
    | (go_at_call 9; refine (hfix _ (unhide HG)).mono ?_; rintro e w1 ⟨rfl, b1⟩; obtain ⟨c0, c1, bel, sz⟩ := box_cells b1; have R1 := hide bel; clear bel b1)
    | (go_at_call 10; refine (h10 _).mono ?_; rintro e w2 ⟨rfl, b2⟩; have d0 := (b2.cell (p := ⟨w.heap.size, 0, none⟩) (by exact sz)).trans c0; have d1 := (b2.cell (p := ⟨w.heap.size, 1, none⟩) (by exact sz)).trans c1; have sz2 : w.heap.size < w2.heap.size := Nat.lt_of_lt_of_le sz b2.size; have R2 := hide (below_sub (unhide R1) b2); clear b2 c0 c1)
    | (go_at_call 11; refine (h11 _).mono ?_; rintro e w3 ⟨rfl, b3⟩; have e0 := (b3.cell (p := ⟨w.heap.size, 0, none⟩) (by exact sz2)).trans d0; have e1 := (b3.cell (p := ⟨w.heap.size, 1, none⟩) (by exact sz2)).trans d1; have sz3 : w.heap.size < w3.heap.size := Nat.lt_of_lt_of_le sz2 b3.size; have R3 := hide (below_sub (unhide R2) b3); clear b3 d0 d1)
    | (go_at_call 12; refine (h12 _).mono ?_; rintro e w4 ⟨rfl, b4⟩; have f0 := (b4.cell (p := ⟨w.heap.size, 0, none⟩) (by exact sz3)).trans e0; have f1 := (b4.cell (p := ⟨w.heap.size, 1, none⟩) (by exact sz3)).trans e1; have sz4 : w.heap.size < w4.heap.size := Nat.lt_of_lt_of_le sz3 b4.size; have R4 := hide (below_sub (unhide R3) b4); clear b4 e0 e1)
    | (go_at_call 13; refine (h13 _).mono ?_; rintro e w5 ⟨rfl, b5⟩; obtain ⟨p0, p1, b45, s45⟩ := box_cells b5; have g0 := (b45.cell (p := ⟨w.heap.size, 0, none⟩) (by exact sz4)).trans f0; have g1 := (b45.cell (p := ⟨w.heap.size, 1, none⟩) (by exact sz4)).trans f1; have sz5 : w.heap.size < w5.heap.size := Nat.lt_of_lt_of_le sz4 b45.size; have R5 := hide (below_sub (unhide R4) b45); clear b5 f0 f1 b45))
  obtain ⟨V, hV⟩ : ∃ V, V = w5.alloc (.cells #[.int .i64 PA, .int .i64 PB] 23) := ⟨_, rfl⟩
  have m0 : V.cell? ⟨w5.heap.size, 0, none⟩ = some (.int .i64 PA) := by rw [hV]; simp
  have m1 : V.cell? ⟨w5.heap.size, 1, none⟩ = some (.int .i64 PB) := by rw [hV]; simp
  have bV : Below w5.heap.size w5 V := by rw [hV]; exact (Below.refl _ _).alloc (Nat.le_refl _) _
  have sV : w5.heap.size < V.heap.size := by rw [hV]; simp
  have n0 := (bV.cell (p := ⟨w4.heap.size, 0, none⟩) (by exact s45)).trans p0
  have n1 := (bV.cell (p := ⟨w4.heap.size, 1, none⟩) (by exact s45)).trans p1
  have k0 := (bV.cell (p := ⟨w.heap.size, 0, none⟩) (by exact sz5)).trans g0
  have k1 := (bV.cell (p := ⟨w.heap.size, 1, none⟩) (by exact sz5)).trans g1
  have t1 : w.heap.size < V.heap.size := by omega
  have t2 : w4.heap.size < V.heap.size := by omega
  have RV := hide (below_sub (unhide R5) bV)
  rw [← hV]
  have R : Below V.heap.size V V := Below.refl _ _
  clear hV bV p0 p1 g0 g1
  go_region_held3 (fun w' => w'.cell? ⟨w.heap.size, 0, none⟩ = some (.int .i64 L) ∧ w'.cell? ⟨w.heap.size, 1, none⟩ = some (.int .i64 I) ∧ w'.cell? ⟨w4.heap.size, 0, none⟩ = some (.int .i64 PA) ∧ w'.cell? ⟨w4.heap.size, 1, none⟩ = some (.int .i64 PB) ∧ w'.cell? ⟨w5.heap.size, 0, none⟩ = some (.int .i64 PA) ∧ w'.cell? ⟨w5.heap.size, 1, none⟩ = some (.int .i64 PB))
    (first | go_keep | exact ⟨(R.cell (p := ⟨w.heap.size, 0, none⟩) (by exact t1)).trans k0, (R.cell (p := ⟨w.heap.size, 1, none⟩) (by exact t1)).trans k1, (R.cell (p := ⟨w4.heap.size, 0, none⟩) (by exact t2)).trans n0, (R.cell (p := ⟨w4.heap.size, 1, none⟩) (by exact t2)).trans n1, (R.cell (p := ⟨w5.heap.size, 0, none⟩) (by exact sV)).trans m0, (R.cell (p := ⟨w5.heap.size, 1, none⟩) (by exact sV)).trans m1⟩)
    (first
      | (go_at_call 14; refine (h14 _).mono ?_; rintro e v1 ⟨rfl, b1⟩; have R := below_sub R (below_undrew b1); clear b1)
      | (go_at_call 14; refine (h14 _).mono ?_; rintro e v1 ⟨rfl, b1⟩; have R := below_sub R b1; clear b1)
      | (go_at_call 15; refine (h15 _).mono ?_; rintro e v1 ⟨rfl, b1⟩; have R := below_sub R b1; clear b1)
      | (go_at_call 16; refine (h16 _).mono ?_; rintro e v1 ⟨rfl, b1⟩; have R := below_sub R b1; clear b1)
      | (go_at_call 17; refine (h17 _).mono ?_; rintro e v1 ⟨rfl, b1⟩; have R := below_sub R b1; clear b1))
  go_wp2
  go_ret
  exact ⟨rfl, below_sub (unhide RV) R⟩

set_option maxHeartbeats 2000000 in
theorem plays_core0 (L I x A B PA PB : Int) (pb hs : Bool) (w : World) (hG : G w)
    (h14 : ∀ w, Calls Tryd.prog 14 #[.agg #[.int .i64 L, .int .i64 I]] w fun e w' => e = .returned (.int .i64 1) ∧ Below w.heap.size w w')
    (h15 : ∀ w, Calls Tryd.prog 15 #[.agg #[.int .i64 L, .int .i64 I]] w fun e w' => e = .returned (.bool false) ∧ Below w.heap.size w w')
    (h10 : ∀ w, Calls Tryd.prog 10 #[.agg #[.int .i64 L, .int .i64 I]] w fun e w' => e = .returned (.tuple #[.int .i64 A, .int .i64 B]) ∧ Below w.heap.size w w')
    (h11 : ∀ w, Calls Tryd.prog 11 #[.agg #[.int .i64 L, .int .i64 I]] w fun e w' => e = .returned (.tuple #[.int .i64 A, .int .i64 B]) ∧ Below w.heap.size w w')
    (h12 : ∀ w, Calls Tryd.prog 12 #[.agg #[.int .i64 L, .int .i64 I]] w fun e w' => e = .returned (.tuple #[.agg #[.int .i64 PA, .int .i64 PB], .bool pb]) ∧ Below w.heap.size w w')
    (h13 : ∀ w, Calls Tryd.prog 13 #[.agg #[.int .i64 L, .int .i64 I]] w fun e w' => e = .returned (.tuple #[.agg #[.int .i64 PA, .int .i64 PB], .bool pb]) ∧ Below w.heap.size w w')
    (h16 : ∀ w, Calls Tryd.prog 16 #[.agg #[.int .i64 L, .int .i64 I], .int .i64 x] w fun e w' => e = .returned (.bool hs) ∧ Below w.heap.size w w')
    (h17 : ∀ w, Calls Tryd.prog 17 #[.agg #[.int .i64 L, .int .i64 I], .int .i64 x] w fun e w' => e = .returned (.bool hs) ∧ Below w.heap.size w w') :
    Calls Tryd.prog 3 #[.agg #[.int .i64 L, .int .i64 I], .int .i64 x] w fun e w' => e = .returned (.bool true) ∧ Below w.heap.size w w' := by
  have hfix := fixed_any
  have HG := hide (hG.below' ((Below.refl _ _).alloc (Nat.le_refl _) (.cells #[.int .i64 L, .int .i64 I] 23)))
  have qe := eqlS PA PB PA PB
  have d1 : decide (PA = PA ∧ PB = PB) = true := by simp
  rw [d1] at qe
  clear hG d1
  go_enter Tryd.func3, Tryd.ntmps3
  go_wp2_with (first
    | (go_at_call 9; refine (hfix _ (unhide HG)).mono ?_; rintro e w1 ⟨rfl, b1⟩; obtain ⟨c0, c1, bel, sz⟩ := box_cells b1; have R1 := hide bel; clear bel b1)
    | (go_at_call 10; refine (h10 _).mono ?_; rintro e w2 ⟨rfl, b2⟩; have d0 := (b2.cell (p := ⟨w.heap.size, 0, none⟩) (by exact sz)).trans c0; have d1 := (b2.cell (p := ⟨w.heap.size, 1, none⟩) (by exact sz)).trans c1; have sz2 : w.heap.size < w2.heap.size := Nat.lt_of_lt_of_le sz b2.size; have R2 := hide (below_sub (unhide R1) b2); clear b2 c0 c1)
    | (go_at_call 11; refine (h11 _).mono ?_; rintro e w3 ⟨rfl, b3⟩; have e0 := (b3.cell (p := ⟨w.heap.size, 0, none⟩) (by exact sz2)).trans d0; have e1 := (b3.cell (p := ⟨w.heap.size, 1, none⟩) (by exact sz2)).trans d1; have sz3 : w.heap.size < w3.heap.size := Nat.lt_of_lt_of_le sz2 b3.size; have R3 := hide (below_sub (unhide R2) b3); clear b3 d0 d1)
    | (go_at_call 12; refine (h12 _).mono ?_; rintro e w4 ⟨rfl, b4⟩; have f0 := (b4.cell (p := ⟨w.heap.size, 0, none⟩) (by exact sz3)).trans e0; have f1 := (b4.cell (p := ⟨w.heap.size, 1, none⟩) (by exact sz3)).trans e1; have sz4 : w.heap.size < w4.heap.size := Nat.lt_of_lt_of_le sz3 b4.size; have R4 := hide (below_sub (unhide R3) b4); clear b4 e0 e1)
    | (go_at_call 13; refine (h13 _).mono ?_; rintro e w5 ⟨rfl, b5⟩; obtain ⟨p0, p1, b45, s45⟩ := box_cells b5; have g0 := (b45.cell (p := ⟨w.heap.size, 0, none⟩) (by exact sz4)).trans f0; have g1 := (b45.cell (p := ⟨w.heap.size, 1, none⟩) (by exact sz4)).trans f1; have sz5 : w.heap.size < w5.heap.size := Nat.lt_of_lt_of_le sz4 b45.size; have R5 := hide (below_sub (unhide R4) b45); clear b5 f0 f1 b45))
  obtain ⟨V, hV⟩ : ∃ V, V = w5.alloc (.cells #[.int .i64 PA, .int .i64 PB] 23) := ⟨_, rfl⟩
  have m0 : V.cell? ⟨w5.heap.size, 0, none⟩ = some (.int .i64 PA) := by rw [hV]; simp
  have m1 : V.cell? ⟨w5.heap.size, 1, none⟩ = some (.int .i64 PB) := by rw [hV]; simp
  have bV : Below w5.heap.size w5 V := by rw [hV]; exact (Below.refl _ _).alloc (Nat.le_refl _) _
  have sV : w5.heap.size < V.heap.size := by rw [hV]; simp
  have n0 := (bV.cell (p := ⟨w4.heap.size, 0, none⟩) (by exact s45)).trans p0
  have n1 := (bV.cell (p := ⟨w4.heap.size, 1, none⟩) (by exact s45)).trans p1
  have k0 := (bV.cell (p := ⟨w.heap.size, 0, none⟩) (by exact sz5)).trans g0
  have k1 := (bV.cell (p := ⟨w.heap.size, 1, none⟩) (by exact sz5)).trans g1
  have t1 : w.heap.size < V.heap.size := by omega
  have t2 : w4.heap.size < V.heap.size := by omega
  have RV := hide (below_sub (unhide R5) bV)
  rw [← hV]
  have R : Below V.heap.size V V := Below.refl _ _
  clear hV bV p0 p1 g0 g1
  go_region_held3 (fun w' => w'.cell? ⟨w.heap.size, 0, none⟩ = some (.int .i64 L) ∧ w'.cell? ⟨w.heap.size, 1, none⟩ = some (.int .i64 I) ∧ w'.cell? ⟨w4.heap.size, 0, none⟩ = some (.int .i64 PA) ∧ w'.cell? ⟨w4.heap.size, 1, none⟩ = some (.int .i64 PB) ∧ w'.cell? ⟨w5.heap.size, 0, none⟩ = some (.int .i64 PA) ∧ w'.cell? ⟨w5.heap.size, 1, none⟩ = some (.int .i64 PB))
    (first | go_keep | exact ⟨(R.cell (p := ⟨w.heap.size, 0, none⟩) (by exact t1)).trans k0, (R.cell (p := ⟨w.heap.size, 1, none⟩) (by exact t1)).trans k1, (R.cell (p := ⟨w4.heap.size, 0, none⟩) (by exact t2)).trans n0, (R.cell (p := ⟨w4.heap.size, 1, none⟩) (by exact t2)).trans n1, (R.cell (p := ⟨w5.heap.size, 0, none⟩) (by exact sV)).trans m0, (R.cell (p := ⟨w5.heap.size, 1, none⟩) (by exact sV)).trans m1⟩)
    (first
      | (go_at_call 14; refine (h14 _).mono ?_; rintro e v1 ⟨rfl, b1⟩; have R := below_sub R (below_undrew b1); clear b1)
      | (go_at_call 14; refine (h14 _).mono ?_; rintro e v1 ⟨rfl, b1⟩; have R := below_sub R b1; clear b1)
      | (go_at_call 15; refine (h15 _).mono ?_; rintro e v1 ⟨rfl, b1⟩; have R := below_sub R b1; clear b1)
      | (go_at_call 16; refine (h16 _).mono ?_; rintro e v1 ⟨rfl, b1⟩; have R := below_sub R b1; clear b1)
      | (go_at_call 17; refine (h17 _).mono ?_; rintro e v1 ⟨rfl, b1⟩; have R := below_sub R b1; clear b1))
  go_wp2
  go_ret
  exact ⟨rfl, below_sub (unhide RV) R⟩

theorem spanPlays_any (L I x : Int) (hL : -9223372036854775808 ≤ L ∧ L ≤ 9223372036854775807) (hI : -9223372036854775808 ≤ I ∧ I ≤ 9223372036854775807) (w : World) (hG : G w) :
    Calls Tryd.prog 3 #[.agg #[.int .i64 L, .int .i64 I], .int .i64 x] w fun e w' => e = .returned (.bool true) ∧ Below w.heap.size w w' := by
  by_cases h : okS L I
  · obtain ⟨l, i, rfl, rfl, hk⟩ := h
    obtain ⟨_, _, hl⟩ := okN_bound hk
    by_cases h32 : l < 32
    · exact plays_core1 l i x _ _ _ _ true _ w hG (check_good l i hk) (rcheck_good l i hk) (bounds_good l i hk) (rbounds_good l i hk) (parent_good l i hk h32) (rparent_good l i hk h32) (has_good l i hk x) (rhas_good l i hk x)
    · obtain rfl : l = 32 := by omega
      exact plays_core1 (32 : Nat) i x _ _ 0 0 false _ w hG (check_good 32 i hk) (rcheck_good 32 i hk) (bounds_good 32 i hk) (rbounds_good 32 i hk) (parent_top i hk) (rparent_top i hk) (has_good 32 i hk x) (rhas_good 32 i hk x)
  · exact plays_core0 L I x 0 0 0 0 false false w hG (check_bad L I h hL hI) (rcheck_bad L I h hL hI) (bounds_bad L I h hL hI) (rbounds_bad L I h hL hI) (parent_bad L I h hL hI) (rparent_bad L I h hL hI) (has_bad L I h hL hI x) (rhas_bad L I h hL hI x)
end Go.Proofs.YtjclojeihjgnkaaDoor
