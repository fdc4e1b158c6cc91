/- The reference's Compare and Has. -/
import Derived.Test.YtelgpmjafaopmaaWithout
namespace Go.Proofs.Ytelgpmjafaopmaa
open Go.RowKit Go.Sort Go.Shelf

/-- trommelref13.Compare. -/
theorem refCmp (x y : Pt) (w : World) : Calls Try.prog 35 #[.agg #[.int .i64 x.1, .bool x.2], .agg #[.int .i64 y.1, .bool y.2]] w fun e w' => e = .returned (.int .i64 (cmpP x y)) ∧ ∃ q os', w' = grow (w.drewN q) os' := by
  have hw : ∀ (o1 o2 : Obj), ∃ q os', (w.alloc o1).alloc o2 = grow (w.drewN q) os' := fun o1 o2 => ⟨0, _, by rw [alloc_eq_grow, alloc_eq_grow, grow_grow]; rfl⟩
  by_cases h : x.1 = y.1
  · have h1 : (x.1 != y.1) = false := by simpa using h
    cases hx : x.2 with
    | false =>
      cases hy : y.2 with
      | false =>
        have e : cmpP x y = 0 := by unfold cmpP; rw [if_neg (by omega), if_neg (by omega), if_pos (by rw [hx, hy])]
        rw [e]
        clear e hx hy
        go_enter Try.func35, Try.ntmps35
        go_wp2
        go_ret
        exact ⟨rfl, hw _ _⟩
      | true =>
        have e : cmpP x y = 1 := by unfold cmpP; rw [if_neg (by omega), if_neg (by omega), if_neg (by rw [hx, hy]; decide), if_neg (by rw [hx]; decide)]
        rw [e]
        clear e hx hy
        go_enter Try.func35, Try.ntmps35
        go_wp2
        go_ret
        exact ⟨rfl, hw _ _⟩
    | true =>
      cases hy : y.2 with
      | false =>
        have e : cmpP x y = -1 := by unfold cmpP; rw [if_neg (by omega), if_neg (by omega), if_neg (by rw [hx, hy]; decide), if_pos hx]
        rw [e]
        clear e hx hy
        go_enter Try.func35, Try.ntmps35
        go_wp2
        go_ret
        exact ⟨rfl, hw _ _⟩
      | true =>
        have e : cmpP x y = 0 := by unfold cmpP; rw [if_neg (by omega), if_neg (by omega), if_pos (by rw [hx, hy])]
        rw [e]
        clear e hx hy
        go_enter Try.func35, Try.ntmps35
        go_wp2
        go_ret
        exact ⟨rfl, hw _ _⟩
  · have h1 : (x.1 != y.1) = true := by simpa using h
    rw [cmpP_ne h]
    by_cases hlt : x.1 < y.1
    · rw [cmpI_lt hlt]
      go_enter Try.func35, Try.ntmps35
      go_wp2
      go_ret
      exact ⟨rfl, hw _ _⟩
    · rw [cmpI_gt (by omega)]
      go_enter Try.func35, Try.ntmps35
      go_wp2
      go_ret
      exact ⟨rfl, hw _ _⟩
theorem mem_of_at {l : List Pt} {k : Nat} {x : Pt} (hx : l[k]? = some x) : x ∈ l := List.mem_of_getElem? hx
set_option maxHeartbeats 1000000 in
set_option maxRecDepth 100000 in
/-- trommelref13.Has. -/
theorem refHas (q : Option Addr) (c : Nat) (l : List Pt) (p : Pt) (w : World) (h : SlOf encP 2 w q c l) (hl : l.length ≤ 100000000000000) :
    Calls Try.prog 28 #[.slice q l.length c, .agg #[.int .i64 p.1, .bool p.2]] w fun e w' => e = .returned (.bool (decide (p ∈ l))) ∧ Below w.heap.size w w' := by
  obtain ⟨w0, hw0⟩ : ∃ w0, w0 = w.alloc (.cells #[.int .i64 p.1, .bool p.2] 43) := ⟨_, rfl⟩
  have hB0 : Below w.heap.size w w0 := by rw [hw0]; exact (Below.refl _ _).alloc (Nat.le_refl _) _
  have hblk : w0.heap[w.heap.size]? = some (.cells #[.int .i64 p.1, .bool p.2] 43 (0, 0)) := by rw [hw0]; exact World.alloc_heap_new w _
  have hlt0 : w.heap.size < w0.heap.size := by rw [hw0, World.size_alloc]; omega
  have HP := hide hblk
  have HS := hide (h.below hB0)
  have HB0 := hide hB0
  have a0 : (l.length : Int) ≤ 100000000000000 := by omega
  clear h hB0 hblk
  go_enter Try.func28, Try.ntmps28
  go_wp2
  rw [← hw0]
  clear hw0
  go_loopw [5] (fun i wr => ∃ k : Nat, k ≤ l.length ∧ i = .int .i64 k ∧ p ∉ l.take k ∧ Below w0.heap.size w0 wr) (fun i _ => l.length - (intOf i).toNat)
  case atStart => exact ⟨0, by omega, rfl, by simp, Below.refl _ _⟩
  case round =>
    obtain ⟨k, hk, rfl, hpre, hbel⟩ := hrel
    have HB := hide hbel
    by_cases hlt : k < l.length
    · obtain ⟨x, hx, _⟩ := get_at hlt
      obtain ⟨b, off, hq, _, g1, g1'⟩ := postAt ((unhide HS).below hbel) hx
      obtain ⟨g2, g2'⟩ := cells_of_block ((hbel.block _ hlt0).trans (unhide HP))
      subst hq
      have ki0 : (0 : Int) ≤ (k : Int) := by omega
      have ki1 : (k : Int) < (l.length : Int) := by omega
      have hne := fun W => eqlP x p W
      by_cases hxy : x = p
      · have HN := hide (show p ∈ l from hxy ▸ mem_of_at hx)
        rw [show decide (x = p) = true from decide_eq_true hxy] at hne
        clear hx hbel hpre hxy
        go_wp2
        go_region_held3 (fun w' => (w'.cell? ⟨b, off + k * 2, none⟩ = some (.int .i64 x.1) ∧ w'.cell? ⟨b, off + k * 2 + 1, none⟩ = some (.bool x.2)) ∧ w'.cell? ⟨w.heap.size, 0, none⟩ = some (.int .i64 p.1) ∧ w'.cell? ⟨w.heap.size, 1, none⟩ = some (.bool p.2)) (go_keep) (fail)
        all_goals
          go_wp2
          go_ret
          exact ⟨ret_bool (by simp [unhide HN]), below_sub (unhide HB0) (unhide HB).drew⟩
      · have HN := hide (show p ∉ l.take (k + 1) by rw [take_snoc_of hx, List.mem_append, List.mem_singleton]; exact fun h => h.elim hpre fun h => hxy h.symm)
        rw [show decide (x = p) = false from decide_eq_false hxy] at hne
        clear hx hbel hpre hxy
        go_wp2
        go_region_held3 (fun w' => (w'.cell? ⟨b, off + k * 2, none⟩ = some (.int .i64 x.1) ∧ w'.cell? ⟨b, off + k * 2 + 1, none⟩ = some (.bool x.2)) ∧ w'.cell? ⟨w.heap.size, 0, none⟩ = some (.int .i64 p.1) ∧ w'.cell? ⟨w.heap.size, 1, none⟩ = some (.bool p.2)) (go_keep) (fail)
        all_goals
          go_wp2
          go_roundw
          case rel => exact ⟨k + 1, by omega, by go_num, unhide HN, (unhide HB).drew⟩
          case measure => simp [intOf]; omega
    · have ki1 : ¬ (k : Int) < (l.length : Int) := by omega
      have HN := hide (show p ∉ l by rw [← List.take_of_length_le (l := l) (i := k) (by omega)]; exact hpre)
      clear hpre
      go_wp2
      go_ret
      exact ⟨ret_bool (by simp [unhide HN]), below_sub (unhide HB0) (unhide HB)⟩
end Go.Proofs.Ytelgpmjafaopmaa
