/- A head is read. -/
import Derived.Test.YtfigjfmldpfjkaaGreatRd7
import Derived.Shelf.Abstract
namespace Go.Proofs.YtfigjfmldpfjkaaGreat
open Go.RowKit Go.Sort Go.Shelf

/-- A head's number, as it is told. -/
def headV (l : List UInt8) : Nat × Nat × Bool := varS l 6 0 0 (st1 l 0 false).2.1 ((st1 l 0 false).2.2 || !(((st1 l 0 false).1.toNat : Int) == ((72 : UInt8).toNat : Int)))
/-- What readHead answers. -/
def headOk (l : List UInt8) : Bool := !(sealS l (headV l).2.1 (headV l).2.2).2 && decide (1 ≤ ((headV l).1 : Int) ∧ ((headV l).1 : Int) ≤ 1099511627777)
set_option maxRecDepth 100000 in
set_option maxHeartbeats 1000000 in
theorem readHead_any (q : Option Addr) (c : Nat) (l : List UInt8) (w : World) (h : SlOf encB 1 w q c l) (hl : l.length ≤ 1000000000000000) :
    Calls Tryz.prog 83 #[.slice q l.length c] w fun e w' => e = .returned (.tuple #[.int .i64 ((headV l).1 : Int), .int .i64 ((sealS l (headV l).2.1 (headV l).2.2).1 : Int), .bool (headOk l)]) ∧ Below w.heap.size w w' := by
  have mixed : Tryz.prog.follows .mixedOrders = true := by kernel_rfl
  have e29 : ∀ args w, (callFunc 101 args).run Tryz.prog w = .ok (.enter 101 args) w := enters_of Tryz.func101 (by kernel_rfl) rfl
  have hro := readerOf_any q c l w h
  unfold headOk
  obtain ⟨s, hs⟩ : ∃ s, st1 l 0 false = s := ⟨_, rfl⟩
  obtain ⟨y, a1, t0⟩ := s
  have hmk := fun (W : World) (H : Rd W w.heap.size q c l 0 false) => mark_any w.heap.size q c l 0 false 72 W H hl
  rw [hs] at hmk
  simp only at hmk
  obtain ⟨t1, ht1⟩ : ∃ t1, (t0 || !((y.toNat : Int) == ((72 : UInt8).toNat : Int))) = t1 := ⟨_, rfl⟩
  rw [ht1] at hmk
  obtain ⟨v, hv⟩ : ∃ v, varS l 6 0 0 a1 t1 = v := ⟨_, rfl⟩
  have hV : headV l = v := by unfold headV; rw [hs]; simp only; rw [ht1, hv]
  rw [hV]
  obtain ⟨n, a2, t2⟩ := v
  have hvar := fun (W : World) (H : Rd W w.heap.size q c l a1 t1) => varint_any w.heap.size q c l a1 t1 W H hl
  rw [hv] at hvar
  simp only at hvar ⊢
  obtain ⟨S, hS⟩ : ∃ S, sealS l a2 t2 = S := ⟨_, rfl⟩
  have hse := fun (W : World) (H : Rd W w.heap.size q c l a2 t2) => rseal_any w.heap.size q c l a2 t2 W H hl
  rw [hS] at hse ⊢
  obtain ⟨a4, t4⟩ := S
  simp only at hse ⊢
  have hnx := fun W : World => next_any (n : Int) W
  generalize decide (1 ≤ (n : Int) ∧ (n : Int) ≤ 1099511627777) = M at hnx ⊢
  have hnx2 : ∀ W : World, Calls Tryz.prog 101 #[.int .i64 (n : Int)] W fun e w' => e = .returned (.bool M) ∧ Below W.heap.size W w' := fun W => (hnx W).mono (by rintro e w' ⟨h1, rfl⟩; exact ⟨h1, Below.refl _ _⟩)
  clear h hs ht1 hv hV hS hl hnx
  cases t4
  · go_enter Tryz.func83, Tryz.ntmps83
    go_wp2_with (first
      | (go_at_call 106; refine hro.mono ?_; rintro e w1 ⟨rfl, r1, b1⟩; have R1 := hide r1; have B1 := hide b1; clear r1 b1)
      | (go_at_call 107; refine (hmk _ (unhide R1)).mono ?_; rintro e w2 ⟨⟨v2, rfl⟩, r2, g2⟩; have R2 := hide r2; have B2 := hide ((unhide B1).trans (below_grown g2 (Nat.le_refl _) (unhide B1).size)); clear r2 g2)
      | (go_at_call 108; refine (hvar _ (unhide R2)).mono ?_; rintro e w3 ⟨rfl, r3, g3⟩; have R3 := hide r3; have B3 := hide ((unhide B2).trans (below_grown g3 (Nat.le_refl _) (unhide B2).size)); clear r3 g3)
      | (go_at_call 109; refine (hse _ (unhide R3)).mono ?_; rintro e w5 ⟨⟨v5, rfl⟩, r5, g5⟩; obtain ⟨c50, c51, c52⟩ := r5.cells; have q1 := cell_regrown c51; have q2 := cell_regrown c52; have B5 := hide ((unhide B3).trans (below_grown g5 (Nat.le_refl _) (unhide B3).size)); clear r5 g5))
    refine wp_region_quiet_below (by assumption) (by kernel_rfl) ?_
    repeat (go_big_quiet_step (first | (go_at_fn 101; refine Calls.regrown_of (hnx2 _))))
    refine wpQuiet_nil ?_
    intro _ hw'
    obtain ⟨⟨dq, osq⟩, hw''⟩ := hw'
    subst hw''
    go_wp2
    refine bodyPost_ret (v := .tuple #[.int .i64 (n : Int), .int .i64 (a4 : Int), .bool M]) (by simp [results, Tryz.f83, go_sem]) rfl ?_
    exact ⟨rfl, (unhide B5).trans ((below_regrown _ _ _).mono (unhide B5).size)⟩
  · go_enter Tryz.func83, Tryz.ntmps83
    go_wp2_with (first
      | (go_at_call 106; refine hro.mono ?_; rintro e w1 ⟨rfl, r1, b1⟩; have R1 := hide r1; have B1 := hide b1; clear r1 b1)
      | (go_at_call 107; refine (hmk _ (unhide R1)).mono ?_; rintro e w2 ⟨⟨v2, rfl⟩, r2, g2⟩; have R2 := hide r2; have B2 := hide ((unhide B1).trans (below_grown g2 (Nat.le_refl _) (unhide B1).size)); clear r2 g2)
      | (go_at_call 108; refine (hvar _ (unhide R2)).mono ?_; rintro e w3 ⟨rfl, r3, g3⟩; have R3 := hide r3; have B3 := hide ((unhide B2).trans (below_grown g3 (Nat.le_refl _) (unhide B2).size)); clear r3 g3)
      | (go_at_call 109; refine (hse _ (unhide R3)).mono ?_; rintro e w5 ⟨⟨v5, rfl⟩, r5, g5⟩; obtain ⟨c50, c51, c52⟩ := r5.cells; have q1 := cell_regrown c51; have q2 := cell_regrown c52; have B5 := hide ((unhide B3).trans (below_grown g5 (Nat.le_refl _) (unhide B3).size)); clear r5 g5))
    refine wp_region_quiet_below (by assumption) (by kernel_rfl) ?_
    repeat (go_big_quiet_step (fail))
    refine wpQuiet_nil ?_
    intro _ hw'
    obtain ⟨⟨dq, osq⟩, hw''⟩ := hw'
    subst hw''
    go_wp2
    refine bodyPost_ret (v := .tuple #[.int .i64 (n : Int), .int .i64 (a4 : Int), .bool false]) (by simp [results, Tryz.f83, go_sem]) rfl ?_
    exact ⟨rfl, (unhide B5).trans ((below_regrown _ _ _).mono (unhide B5).size)⟩
end Go.Proofs.YtfigjfmldpfjkaaGreat
