/- The law ValueOrder returns true at every three values. -/
import Derived.Test.YtojeihchkdkkgaaDoorOrder
import Derived.Test.YtojeihchkdkkgaaDoorFixed
namespace Go.Proofs.YtojeihchkdkkgaaDoor
open Go.RowKit

/-- Three values boxed one behind the other. -/
theorem box3 (w : World) (a b c : Val) (o1 o2 o3 : Obj) (h1 : o1 = .cells #[.int .i64 a.k, .int .i64 a.n, .string a.s] 23) (h2 : o2 = .cells #[.int .i64 b.k, .int .i64 b.n, .string b.s] 23) (h3 : o3 = .cells #[.int .i64 c.k, .int .i64 c.n, .string c.s] 23) :
    Box (((w.alloc o1).alloc o2).alloc o3) w.heap.size a ∧ Box (((w.alloc o1).alloc o2).alloc o3) (w.heap.size + 1) b ∧ Box (((w.alloc o1).alloc o2).alloc o3) (w.heap.size + 2) c := by
  subst h1; subst h2; subst h3
  refine ⟨((Box.new w a 23).alloc _).alloc _, ?_, ?_⟩
  · have := (Box.new (w.alloc (.cells #[.int .i64 a.k, .int .i64 a.n, .string a.s] 23)) b 23).alloc (.cells #[.int .i64 c.k, .int .i64 c.n, .string c.s] 23)
    simpa using this
  · have := Box.new ((w.alloc (.cells #[.int .i64 a.k, .int .i64 a.n, .string a.s] 23)).alloc (.cells #[.int .i64 b.k, .int .i64 b.n, .string b.s] 23)) c 23
    simpa using this

theorem back_any (k n : Int) (s : ByteArray) (k' n' : Int) (s' : ByteArray) (x : Int) (hx : x = cmpV k n s k' n' s') (w : World) :
    Calls Tryd.prog 15 #[.agg #[.int .i64 k', .int .i64 n', .string s'], .agg #[.int .i64 k, .int .i64 n, .string s]] w fun e w' => e = .returned (.int .i64 (-x)) ∧ Below w.heap.size w w' := by
  have := compare_any k' n' s' k n s w
  rw [cmpV_eq, isCmp_val.neg, ← cmpV_eq, ← hx] at this
  exact this
theorem same_at (k n : Int) (s : ByteArray) (k' n' : Int) (s' : ByteArray) (x : Int) (hx : x = cmpV k n s k' n' s') (w : World) :
    Calls Tryd.prog 14 #[.agg #[.int .i64 k, .int .i64 n, .string s], .agg #[.int .i64 k', .int .i64 n', .string s']] w fun e w' => e = .returned (.bool (decide (x = 0))) ∧ Below w.heap.size w w' := by
  have := same_any k n s k' n' s' w
  rw [sameV_eq, ← hx] at this
  exact this
theorem zero_iff (k n : Int) (s : ByteArray) (k' n' : Int) (s' : ByteArray) (x : Int) (hx : x = cmpV k n s k' n' s') : x = 0 ↔ (k = k' ∧ n = n' ∧ s.toList = s'.toList) := by
  rw [hx, cmpV_eq, isCmp_val.eq]; simp [partsOf]
theorem rng_of {k n : Int} {s : ByteArray} {k' n' : Int} {s' : ByteArray} {x : Int} (hx : x = cmpV k n s k' n' s') : x = -1 ∨ x = 0 ∨ x = 1 := by rw [hx, cmpV_eq]; exact isCmp_val.rng _ _
theorem tri {k n : Int} {s : ByteArray} {k' n' : Int} {s' : ByteArray} {k'' n'' : Int} {s'' : ByteArray} {x y z : Int} (hx : x = cmpV k n s k' n' s') (hy : y = cmpV k' n' s' k'' n'' s'') (hz : z = cmpV k n s k'' n'' s'') (h1 : x ≤ 0) (h2 : y ≤ 0) :
    z ≤ 0 ∧ (z = 0 ↔ x = 0 ∧ y = 0) := by
  rw [cmpV_eq] at hx hy hz
  have ht := isCmp_val.trans _ _ _ (hx ▸ h1) (hy ▸ h2)
  rw [← hz] at ht
  refine ⟨ht, fun h => ?_, fun ⟨h3, h4⟩ => ?_⟩
  · have e := (isCmp_val.eq _ _).1 (hz ▸ h)
    have hn := isCmp_val.neg (partsOf k n s) (partsOf k' n' s')
    rw [← hx, e, ← hy] at hn
    omega
  · have e1 := (isCmp_val.eq _ _).1 (hx ▸ h3)
    rw [hz, e1, ← hy]; exact h4

theorem fin1 {y z : Int} (h : z = 0 ↔ (-1 : Int) = 0 ∧ y = 0) : (decide (0 < y) || !(z == 0)) = true := by
  have : z ≠ 0 := fun e => by have := (h.1 e).1; omega
  simp [this]
theorem fin2 {y z : Int} (h : z = 0 ↔ True ∧ y = 0) : (decide (0 < y) || ((z == 0) == (y == 0))) = true := by
  by_cases e : y = 0
  · have : z = 0 := h.2 ⟨trivial, e⟩
    simp [e, this]
  · have h0 : z ≠ 0 := fun h2 => e (h.1 h2).2
    rw [beq_eq_false_iff_ne.2 h0, beq_eq_false_iff_ne.2 e]; simp

set_option maxHeartbeats 4000000 in
theorem valueOrder_any (k n : Int) (s : ByteArray) (k' n' : Int) (s' : ByteArray) (k'' n'' : Int) (s'' : ByteArray) (w : World) (hG : G w) :
    Calls Tryd.prog 7 #[.agg #[.int .i64 k, .int .i64 n, .string s], .agg #[.int .i64 k', .int .i64 n', .string s'], .agg #[.int .i64 k'', .int .i64 n'', .string s'']] w fun e w' => e = .returned (.bool true) ∧ Below w.heap.size w w' := by
  obtain ⟨B0, B1, B2⟩ := box3 w ⟨k, n, s⟩ ⟨k', n', s'⟩ ⟨k'', n'', s''⟩ _ _ _ rfl rfl rfl
  have hb0 : Below w.heap.size w (((w.alloc (.cells #[.int .i64 k, .int .i64 n, .string s] 23)).alloc (.cells #[.int .i64 k', .int .i64 n', .string s'] 23)).alloc (.cells #[.int .i64 k'', .int .i64 n'', .string s''] 23)) := (((Below.refl _ _).alloc (Nat.le_refl _) _).alloc (by simp) _).alloc (by simp; omega) _
  have hfx := fixed_any _ (G_below hG hb0)
  have H0 := hide B0
  have H1 := hide B1
  have H2 := hide B2
  have HB := hide hb0
  clear B0 B1 B2 hb0
  obtain ⟨x, hx0⟩ : ∃ x, x = cmpV k n s k' n' s' := ⟨_, rfl⟩
  obtain ⟨y, hy0⟩ : ∃ y, y = cmpV k' n' s' k'' n'' s'' := ⟨_, rfl⟩
  obtain ⟨z, hz0⟩ : ∃ z, z = cmpV k n s k'' n'' s'' := ⟨_, rfl⟩
  have hx := hide hx0
  have hy := hide hy0
  have hz := hide hz0
  clear hx0 hy0 hz0
  go_enter Tryd.func7, Tryd.ntmps7
  go_wp2_with (go_at_call 9; refine hfx.mono ?_; rintro e w1 ⟨rfl, hb1⟩)
  have HB1 := hide (below_sub (unhide HB) hb1)
  obtain ⟨c0, c1, c2, _, z0⟩ := (unhide H0).below hb1
  obtain ⟨d0, d1, d2, _, z1⟩ := (unhide H1).below hb1
  obtain ⟨e0, e1, e2, _, z2⟩ := (unhide H2).below hb1
  simp only at c0 c1 c2 d0 d1 d2 e0 e1 e2
  clear hfx H0 H1 H2 HB hb1
  go_region_held3 (fun w' => w'.cell? ⟨w.heap.size, 0, none⟩ = some (.int .i64 k) ∧ w'.cell? ⟨w.heap.size, 1, none⟩ = some (.int .i64 n) ∧ w'.cell? ⟨w.heap.size, 2, none⟩ = some (.string s) ∧ w'.cell? ⟨w.heap.size + 1, 0, none⟩ = some (.int .i64 k') ∧ w'.cell? ⟨w.heap.size + 1, 1, none⟩ = some (.int .i64 n') ∧ w'.cell? ⟨w.heap.size + 1, 2, none⟩ = some (.string s') ∧ w'.cell? ⟨w.heap.size + 2, 0, none⟩ = some (.int .i64 k'') ∧ w'.cell? ⟨w.heap.size + 2, 1, none⟩ = some (.int .i64 n'') ∧ w'.cell? ⟨w.heap.size + 2, 2, none⟩ = some (.string s''))
    (first | go_keep | exact ⟨(R2.cell (by exact z0)).trans c0, (R2.cell (by exact z0)).trans c1, (R2.cell (by exact z0)).trans c2, (R2.cell (by exact z1)).trans d0, (R2.cell (by exact z1)).trans d1, (R2.cell (by exact z1)).trans d2, (R2.cell (by exact z2)).trans e0, (R2.cell (by exact z2)).trans e1, (R2.cell (by exact z2)).trans e2⟩)
    ((go_at_call 15; refine (compare_any _ _ _ _ _ _ _).mono ?_; rintro e w2 ⟨rfl, hb2⟩; have R2 : Below w1.heap.size w1 w2 := (by first | exact below_undrew hb2 | exact below_sub R2 hb2)))
  rw [← unhide hx, ← unhide hy, ← unhide hz]
  have q0 := (R2.cell (by exact z0)).trans c0
  have q1 := (R2.cell (by exact z0)).trans c1
  have q2 := (R2.cell (by exact z0)).trans c2
  have p0 := (R2.cell (by exact z1)).trans d0
  have p1 := (R2.cell (by exact z1)).trans d1
  have p2 := (R2.cell (by exact z1)).trans d2
  have y0 := Nat.lt_of_lt_of_le z0 R2.size
  have y1 := Nat.lt_of_lt_of_le z1 R2.size
  have HR := hide (below_sub (unhide HB1) R2)
  clear c0 c1 c2 d0 d1 d2 e0 e1 e2 z0 z1 z2 HB1 hb2 R2
  have HT := hide (tri (unhide hx) (unhide hy) (unhide hz))
  have cba := back_any k n s k' n' s' x (unhide hx)
  have sab := same_at k n s k' n' s' x (unhide hx)
  have hzi := hide (zero_iff k n s k' n' s' x (unhide hx))
  have ry := rng_of (unhide hy)
  have rz := rng_of (unhide hz)
  have rx := rng_of (unhide hx)
  have rr := hide (And.intro ry rz)
  clear ry rz
  have heq := fun W => eqlV k n s k' n' s' W
  rw [sameV_eq, ← unhide hx] at heq
  clear hx hy hz
  rename_i hHeld
  clear hHeld
  rcases rx with rfl | rfl | rfl
  all_goals
    go_wp2_with (first
      | (go_at_call 15; refine (cba _).mono ?_; rintro e w3 ⟨rfl, hb3⟩; obtain ⟨hc3, hf3⟩ := bcell hb3; have HR3 := hide (below_sub (unhide HR) hb3); have HZ : w2.heap.size ≤ w3.heap.size := hb3.size; clear hb3)
      | (go_at_call 14; refine (sab _).mono ?_; rintro e w4 ⟨rfl, hb4⟩; have HR4 := hide (below_sub (unhide HR3) hb4)))
  all_goals
    go_ret
    refine ⟨ret_bool ?_, unhide HR4⟩
    first
      | (exfalso; have hT := ((unhide HT) (by omega) (by omega)).1; omega)
      | rfl
      | exact fin1 ((unhide HT) (by omega) (by omega)).2
      | exact fin2 ((unhide HT) (by omega) (by omega)).2
end Go.Proofs.YtojeihchkdkkgaaDoor
