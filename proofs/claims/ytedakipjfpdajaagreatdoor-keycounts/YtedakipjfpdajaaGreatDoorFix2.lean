/- law12.fixed's predicate: tree.Pred and conj.Normal at the literal. -/
import Derived.Test.YtedakipjfpdajaaGreatDoorFix1
namespace Go.Proofs.YtedakipjfpdajaaGreatDoor
open Go.RowKit Go.Sort Go.Shelf

theorem of6' {w : World} {M : Nat} {a0 a1 a2 a3 a4 a5 : Value} {T : TypeId} (h : w.heap[M]? = some (.cells #[a0, a1, a2, a3, a4, a5] T (0, 0))) : w.cell? ⟨M, 0, none⟩ = some a0 ∧ w.cell? ⟨M, 1, none⟩ = some a1 ∧ w.cell? ⟨M, 2, none⟩ = some a2 ∧ w.cell? ⟨M, 3, none⟩ = some a3 ∧ w.cell? ⟨M, 4, none⟩ = some a4 ∧ w.cell? ⟨M, 5, none⟩ = some a5 := by
  refine ⟨?_, ?_, ?_, ?_, ?_, ?_⟩ <;> (unfold World.cell?; simp [h])
theorem emptyA (w : World) : Calls Tryz.prog 90 #[.agg #[.int .i64 3, .string ⟨#[97]⟩, .slice none 0 0, .slice none 0 0, .int .i64 0, .int .i64 0]] w fun e w' => e = .returned (.bool true) ∧ Below w.heap.size w w' := by
  go_enter Tryz.func90, Tryz.ntmps90
  go_wp2
  go_ret
  exact ⟨rfl, (Below.refl _ _).alloc (Nat.le_refl _) _⟩
set_option maxRecDepth 100000 in
theorem predA (w : World) : Calls Tryz.prog 48 #[.agg #[.int .i64 3, .string ⟨#[97]⟩, .slice none 0 0, .slice none 0 0, .int .i64 0, .int .i64 7]] w fun e w' => e = .returned (.int .i64 0) ∧ Below w.heap.size w w' := by
  obtain ⟨X, HX⟩ : ∃ X, w.alloc (.cells #[.int .i64 3, .string ⟨#[97]⟩, .slice none 0 0, .slice none 0 0, .int .i64 0, .int .i64 7] 25) = X := ⟨_, rfl⟩
  have bX : Below w.heap.size w X := by rw [← HX]; exact (Below.refl _ _).alloc (Nat.le_refl _) _
  have x8 : X.heap[w.heap.size]? = some (.cells #[.int .i64 3, .string ⟨#[97]⟩, .slice none 0 0, .slice none 0 0, .int .i64 0, .int .i64 7] 25 (0, 0)) := by rw [← HX]; exact box_nw _ _
  have hlt : w.heap.size < X.heap.size := by rw [← HX]; simp
  obtain ⟨x0, x1, x2, x3, x4, x5⟩ := of6' x8
  have X8 := hide x8
  have BX := hide bX
  clear x8 bX
  go_enter Tryz.func48, Tryz.ntmps48
  go_wp2_with (first
    | (go_at_call 85; refine (nameA _).mono ?_; rintro e w1 ⟨rfl, hw⟩; obtain rfl := hw.symm)
    | (go_at_call 87; have mk := B2; refine (isNumN 7 (by decide) (by decide) _).mono ?_; rintro e w3 ⟨rfl, b3⟩; have B3 := hide (below_sub (unhide B2) b3); have q8 := ((unhide B3).block _ hlt).trans (unhide X8); (obtain ⟨z0, z1, z2, z3, z4, z5⟩ := of6' q8); have zf := fun o => frozen_free (o := o) q8; clear b3 mk q8)
    | (go_at_call 87; refine (isNumN 0 (by decide) (by decide) _).mono ?_; rintro e w2 ⟨rfl, b2⟩; have B2 := hide b2; (obtain ⟨y0, y1, y2, y3, y4, y5⟩ := of6' ((b2.block _ hlt).trans (unhide X8))); clear b2)
    | (go_at_call 90; refine (emptyA _).mono ?_; rintro e w4 ⟨rfl, b4⟩; have B4 := hide b4; clear b4))
  go_ret
  exact ⟨rfl, below_sub (((below_sub (unhide BX) (unhide B3)).setCell (p := ⟨w.heap.size, 4, none⟩) (Nat.le_refl _) _).setCell (p := ⟨w.heap.size, 5, none⟩) (Nat.le_refl _) _) (unhide B4)⟩
set_option maxRecDepth 100000 in
theorem normalA (w : World) : Calls Tryz.prog 23 #[.agg #[.int .i64 3, .string ⟨#[97]⟩, .slice none 0 0, .slice none 0 0, .int .i64 0, .int .i64 7]] w fun e w' => e = .returned (.tuple #[.agg #[.int .i64 3, .string ⟨#[97]⟩, .slice none 0 0, .slice none 0 0, .int .i64 0, .int .i64 7], .bool true]) ∧ Below w.heap.size w w' := by
  obtain ⟨X, HX⟩ : ∃ X, (w.alloc (.cells #[.int .i64 3, .string ⟨#[97]⟩, .slice none 0 0, .slice none 0 0, .int .i64 0, .int .i64 7] 25)).alloc (.cells #[.int .i64 0, .string ⟨#[]⟩, .slice none 0 0, .slice none 0 0, .int .i64 0, .int .i64 0] 25) = X := ⟨_, rfl⟩
  have bX : Below w.heap.size w X := by rw [← HX]; exact ((Below.refl _ _).alloc (Nat.le_refl _) _).alloc (by simp) _
  have x9 : X.heap[w.heap.size + 1]? = some (.cells #[.int .i64 0, .string ⟨#[]⟩, .slice none 0 0, .slice none 0 0, .int .i64 0, .int .i64 0] 25 (0, 0)) := by
    have := box_nw (w.alloc (.cells #[.int .i64 3, .string ⟨#[97]⟩, .slice none 0 0, .slice none 0 0, .int .i64 0, .int .i64 7] 25)) (.cells #[.int .i64 0, .string ⟨#[]⟩, .slice none 0 0, .slice none 0 0, .int .i64 0, .int .i64 0] 25)
    rw [World.size_alloc] at this
    rw [← HX]; exact this
  have x8 : X.heap[w.heap.size]? = some (.cells #[.int .i64 3, .string ⟨#[97]⟩, .slice none 0 0, .slice none 0 0, .int .i64 0, .int .i64 7] 25 (0, 0)) := by
    rw [← HX]
    exact (((Below.refl _ _).alloc (Nat.le_refl _) _).block w.heap.size (by simp)).trans (box_nw _ _)
  have hlt : w.heap.size + 1 < X.heap.size := by rw [← HX]; simp
  have hlt0 : w.heap.size < X.heap.size := by omega
  obtain ⟨x0, x1, x2, x3, x4, x5⟩ := of6' x8
  obtain ⟨v0, v1, v2, v3, v4, v5⟩ := of6' x9
  have X8 := hide x8
  have X9 := hide x9
  have BX := hide bX
  clear x8 x9 bX
  go_enter Tryz.func23, Tryz.ntmps23
  go_wp2_with (first
    | (go_at_call 48; refine (predA _).mono ?_; rintro e w1 ⟨rfl, b1⟩; have B1 := hide b1; (obtain ⟨y0, y1, y2, y3, y4, y5⟩ := of6' ((b1.block _ hlt0).trans (unhide X8))); clear b1)
    | (go_at_call 60; refine (betweenA _).mono ?_; rintro e w2 ⟨rfl, b2⟩; have BY := hide (below_sub (unhide BX) (below_sub (unhide B1) b2)); have q9 := ((below_sub (unhide B1) b2).block _ hlt).trans (unhide X9); (obtain ⟨z0, z1, z2, z3, z4, z5⟩ := of6' q9); have zf := fun o => frozen_free (o := o) q9; clear b2 q9))
  refine bodyPost_ret (v := .tuple #[.agg #[.int .i64 3, .string ⟨#[97]⟩, .slice none 0 0, .slice none 0 0, .int .i64 0, .int .i64 7], .bool true]) (by simp [results, Tryz.results23, go_sem, *]) rfl ⟨rfl, (((((((unhide BY).setCell (p := ⟨w.heap.size + 1, 0, none⟩) (Nat.le_succ _) _).setCell (p := ⟨w.heap.size + 1, 1, none⟩) (Nat.le_succ _) _).setCell (p := ⟨w.heap.size + 1, 2, none⟩) (Nat.le_succ _) _).setCell (p := ⟨w.heap.size + 1, 3, none⟩) (Nat.le_succ _) _).setCell (p := ⟨w.heap.size + 1, 4, none⟩) (Nat.le_succ _) _).setCell (p := ⟨w.heap.size + 1, 5, none⟩) (Nat.le_succ _) _)⟩
end Go.Proofs.YtedakipjfpdajaaGreatDoor
