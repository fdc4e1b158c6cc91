/- key.Compare. -/
import Derived.Test.YtedakipjfpdajaaGreatDoorZaa
namespace Go.Proofs.YtedakipjfpdajaaGreatDoor
open Go.RowKit Go.Sort Go.Shelf

set_option maxHeartbeats 4000000 in
set_option maxRecDepth 100000 in
/-- key.Compare. -/
theorem compareK (x y : Ky) (w : World) : Calls Tryz.prog 19 #[.agg #[.string x.attr, .int .i64 x.kind, .int .i64 x.level, .int .i64 x.num, .string x.word], .agg #[.string y.attr, .int .i64 y.kind, .int .i64 y.level, .int .i64 y.num, .string y.word]] w fun e w' => e = .returned (.int .i64 (cmpK x y)) ∧ ∃ q os', w' = grow (w.drewN q) os' := by
  obtain ⟨X, HX⟩ : ∃ X, (w.alloc (.cells #[.string x.attr, .int .i64 x.kind, .int .i64 x.level, .int .i64 x.num, .string x.word] 46)).alloc (.cells #[.string y.attr, .int .i64 y.kind, .int .i64 y.level, .int .i64 y.num, .string y.word] 46) = X := ⟨_, rfl⟩
  have hS0 : X.heap[w.heap.size]? = some (.cells #[.string x.attr, .int .i64 x.kind, .int .i64 x.level, .int .i64 x.num, .string x.word] 46 (0, 0)) ∧ X.heap[w.heap.size + 1]? = some (.cells #[.string y.attr, .int .i64 y.kind, .int .i64 y.level, .int .i64 y.num, .string y.word] 46 (0, 0)) := by
    rw [← HX]
    have h1 := World.alloc_heap_new w (.cells #[.string x.attr, .int .i64 x.kind, .int .i64 x.level, .int .i64 x.num, .string x.word] 46)
    have h2 := World.alloc_heap_new (w.alloc (.cells #[.string x.attr, .int .i64 x.kind, .int .i64 x.level, .int .i64 x.num, .string x.word] 46)) (.cells #[.string y.attr, .int .i64 y.kind, .int .i64 y.level, .int .i64 y.num, .string y.word] 46)
    have hb := (Below.refl (w.alloc (.cells #[.string x.attr, .int .i64 x.kind, .int .i64 x.level, .int .i64 x.num, .string x.word] 46)).heap.size (w.alloc (.cells #[.string x.attr, .int .i64 x.kind, .int .i64 x.level, .int .i64 x.num, .string x.word] 46))).alloc (Nat.le_refl _) (.cells #[.string y.attr, .int .i64 y.kind, .int .i64 y.level, .int .i64 y.num, .string y.word] 46)
    refine ⟨(hb.block w.heap.size (by simp)).trans h1, ?_⟩
    rw [World.size_alloc] at h2
    exact h2
  have hz : X.heap.size = w.heap.size + 2 := by rw [← HX]; simp
  have hNW : ∀ o : Obj, (X.alloc o).drew.heap[w.heap.size + 2]? = some o := fun o => by
    have h := World.alloc_heap_new X o
    rw [hz] at h
    exact h
  have hS1 : ∀ o : Obj, (X.alloc o).drew.heap[w.heap.size]? = some (.cells #[.string x.attr, .int .i64 x.kind, .int .i64 x.level, .int .i64 x.num, .string x.word] 46 (0, 0)) ∧ (X.alloc o).drew.heap[w.heap.size + 1]? = some (.cells #[.string y.attr, .int .i64 y.kind, .int .i64 y.level, .int .i64 y.num, .string y.word] 46 (0, 0)) := fun o => by
    have hb := ((Below.refl X.heap.size X).alloc (Nat.le_refl _) o).drew
    exact ⟨(hb.block w.heap.size (by omega)).trans hS0.1, (hb.block (w.heap.size + 1) (by omega)).trans hS0.2⟩
  have hEnd : ∀ o : Obj, ∃ q os', (X.alloc o).drew = grow (w.drewN q) os' := fun o => by
    rw [← HX]
    simp only [alloc_eq_grow, grow_grow]
    exact ⟨1, _, rfl⟩
  have mixed : Tryz.prog.follows .mixedOrders = true := by kernel_rfl
  go_enter Tryz.func19, Tryz.ntmps19
  go_wp2
  refine wp_region_held_drew (S := fun w' => (w'.heap[w.heap.size]? = some (.cells #[.string x.attr, .int .i64 x.kind, .int .i64 x.level, .int .i64 x.num, .string x.word] 46 (0, 0)) ∧ w'.heap[w.heap.size + 1]? = some (.cells #[.string y.attr, .int .i64 y.kind, .int .i64 y.level, .int .i64 y.num, .string y.word] 46 (0, 0)))) (by kernel_rfl) (hS0) (fun hHeld => ?_)
  refine wpAnyH_take (i := 0) (oi := { dst := some 5, op := Op.fieldAddr 46 (Operand.tmp 2) 0, type := 0, pos := "key.go:17", after := #[], guard := none }) (v := ?_) rfl (by kernel_rfl) (by kernel_rfl) (by kernel_rfl) (fun _ _ _ h => h) (Or.inl ⟨by rfl, ?_⟩) (by assumption) ?_
  rotate_left
  · intro wq hSw
    obtain ⟨hx, hy⟩ := hSw
    obtain ⟨e0, e1, e2, e3, e4⟩ := cells_of_block hx
    obtain ⟨f0, f1, f2, f3, f4⟩ := cells_of_block hy
    go_simp
    with_reducible rfl
  simp only [Act.put, List.setIfInBounds_toArray, List.set_cons_zero, List.set_cons_succ]
  refine wpAnyH_take (i := 1) (oi := { dst := some 6, op := Op.load 9 (Operand.tmp 5), type := 9, pos := "key.go:17", after := #[{ on := 0, ground := Ground.data }], guard := none }) (v := ?_) rfl (by kernel_rfl) (by kernel_rfl) (by kernel_rfl) (fun _ _ _ h => h) (Or.inl ⟨by rfl, ?_⟩) (by assumption) ?_
  rotate_left
  · intro wq hSw
    obtain ⟨hx, hy⟩ := hSw
    obtain ⟨e0, e1, e2, e3, e4⟩ := cells_of_block hx
    obtain ⟨f0, f1, f2, f3, f4⟩ := cells_of_block hy
    go_simp
    with_reducible rfl
  simp only [Act.put, List.setIfInBounds_toArray, List.set_cons_zero, List.set_cons_succ]
  refine wpAnyH_take (i := 2) (oi := { dst := some 7, op := Op.fieldAddr 46 (Operand.tmp 3) 0, type := 0, pos := "key.go:17", after := #[], guard := none }) (v := ?_) rfl (by kernel_rfl) (by kernel_rfl) (by kernel_rfl) (fun _ _ _ h => h) (Or.inl ⟨by rfl, ?_⟩) (by assumption) ?_
  rotate_left
  · intro wq hSw
    obtain ⟨hx, hy⟩ := hSw
    obtain ⟨e0, e1, e2, e3, e4⟩ := cells_of_block hx
    obtain ⟨f0, f1, f2, f3, f4⟩ := cells_of_block hy
    go_simp
    with_reducible rfl
  simp only [Act.put, List.setIfInBounds_toArray, List.set_cons_zero, List.set_cons_succ]
  refine wpAnyH_take (i := 3) (oi := { dst := some 8, op := Op.load 9 (Operand.tmp 7), type := 9, pos := "key.go:17", after := #[{ on := 2, ground := Ground.data }], guard := none }) (v := ?_) rfl (by kernel_rfl) (by kernel_rfl) (by kernel_rfl) (fun _ _ _ h => h) (Or.inl ⟨by rfl, ?_⟩) (by assumption) ?_
  rotate_left
  · intro wq hSw
    obtain ⟨hx, hy⟩ := hSw
    obtain ⟨e0, e1, e2, e3, e4⟩ := cells_of_block hx
    obtain ⟨f0, f1, f2, f3, f4⟩ := cells_of_block hy
    go_simp
    with_reducible rfl
  simp only [Act.put, List.setIfInBounds_toArray, List.set_cons_zero, List.set_cons_succ]
  refine wpAnyH_take (i := 5) (oi := { dst := some 10, op := Op.fieldAddr 46 (Operand.tmp 2) 1, type := 0, pos := "key.go:17", after := #[], guard := none }) (v := ?_) rfl (by kernel_rfl) (by kernel_rfl) (by kernel_rfl) (fun _ _ _ h => h) (Or.inl ⟨by rfl, ?_⟩) (by assumption) ?_
  rotate_left
  · intro wq hSw
    obtain ⟨hx, hy⟩ := hSw
    obtain ⟨e0, e1, e2, e3, e4⟩ := cells_of_block hx
    obtain ⟨f0, f1, f2, f3, f4⟩ := cells_of_block hy
    go_simp
    with_reducible rfl
  simp only [Act.put, List.setIfInBounds_toArray, List.set_cons_zero, List.set_cons_succ]
  refine wpAnyH_take (i := 6) (oi := { dst := some 11, op := Op.load 3 (Operand.tmp 10), type := 3, pos := "key.go:17", after := #[{ on := 5, ground := Ground.data }], guard := none }) (v := ?_) rfl (by kernel_rfl) (by kernel_rfl) (by kernel_rfl) (fun _ _ _ h => h) (Or.inl ⟨by rfl, ?_⟩) (by assumption) ?_
  rotate_left
  · intro wq hSw
    obtain ⟨hx, hy⟩ := hSw
    obtain ⟨e0, e1, e2, e3, e4⟩ := cells_of_block hx
    obtain ⟨f0, f1, f2, f3, f4⟩ := cells_of_block hy
    go_simp
    with_reducible rfl
  simp only [Act.put, List.setIfInBounds_toArray, List.set_cons_zero, List.set_cons_succ]
  refine wpAnyH_take (i := 7) (oi := { dst := some 12, op := Op.fieldAddr 46 (Operand.tmp 3) 1, type := 0, pos := "key.go:17", after := #[], guard := none }) (v := ?_) rfl (by kernel_rfl) (by kernel_rfl) (by kernel_rfl) (fun _ _ _ h => h) (Or.inl ⟨by rfl, ?_⟩) (by assumption) ?_
  rotate_left
  · intro wq hSw
    obtain ⟨hx, hy⟩ := hSw
    obtain ⟨e0, e1, e2, e3, e4⟩ := cells_of_block hx
    obtain ⟨f0, f1, f2, f3, f4⟩ := cells_of_block hy
    go_simp
    with_reducible rfl
  simp only [Act.put, List.setIfInBounds_toArray, List.set_cons_zero, List.set_cons_succ]
  refine wpAnyH_take (i := 8) (oi := { dst := some 13, op := Op.load 3 (Operand.tmp 12), type := 3, pos := "key.go:17", after := #[{ on := 7, ground := Ground.data }], guard := none }) (v := ?_) rfl (by kernel_rfl) (by kernel_rfl) (by kernel_rfl) (fun _ _ _ h => h) (Or.inl ⟨by rfl, ?_⟩) (by assumption) ?_
  rotate_left
  · intro wq hSw
    obtain ⟨hx, hy⟩ := hSw
    obtain ⟨e0, e1, e2, e3, e4⟩ := cells_of_block hx
    obtain ⟨f0, f1, f2, f3, f4⟩ := cells_of_block hy
    go_simp
    with_reducible rfl
  simp only [Act.put, List.setIfInBounds_toArray, List.set_cons_zero, List.set_cons_succ]
  refine wpAnyH_take (i := 10) (oi := { dst := some 15, op := Op.fieldAddr 46 (Operand.tmp 2) 2, type := 0, pos := "key.go:17", after := #[], guard := none }) (v := ?_) rfl (by kernel_rfl) (by kernel_rfl) (by kernel_rfl) (fun _ _ _ h => h) (Or.inl ⟨by rfl, ?_⟩) (by assumption) ?_
  rotate_left
  · intro wq hSw
    obtain ⟨hx, hy⟩ := hSw
    obtain ⟨e0, e1, e2, e3, e4⟩ := cells_of_block hx
    obtain ⟨f0, f1, f2, f3, f4⟩ := cells_of_block hy
    go_simp
    with_reducible rfl
  simp only [Act.put, List.setIfInBounds_toArray, List.set_cons_zero, List.set_cons_succ]
  refine wpAnyH_take (i := 11) (oi := { dst := some 16, op := Op.load 3 (Operand.tmp 15), type := 3, pos := "key.go:17", after := #[{ on := 10, ground := Ground.data }], guard := none }) (v := ?_) rfl (by kernel_rfl) (by kernel_rfl) (by kernel_rfl) (fun _ _ _ h => h) (Or.inl ⟨by rfl, ?_⟩) (by assumption) ?_
  rotate_left
  · intro wq hSw
    obtain ⟨hx, hy⟩ := hSw
    obtain ⟨e0, e1, e2, e3, e4⟩ := cells_of_block hx
    obtain ⟨f0, f1, f2, f3, f4⟩ := cells_of_block hy
    go_simp
    with_reducible rfl
  simp only [Act.put, List.setIfInBounds_toArray, List.set_cons_zero, List.set_cons_succ]
  refine wpAnyH_take (i := 12) (oi := { dst := some 17, op := Op.fieldAddr 46 (Operand.tmp 3) 2, type := 0, pos := "key.go:17", after := #[], guard := none }) (v := ?_) rfl (by kernel_rfl) (by kernel_rfl) (by kernel_rfl) (fun _ _ _ h => h) (Or.inl ⟨by rfl, ?_⟩) (by assumption) ?_
  rotate_left
  · intro wq hSw
    obtain ⟨hx, hy⟩ := hSw
    obtain ⟨e0, e1, e2, e3, e4⟩ := cells_of_block hx
    obtain ⟨f0, f1, f2, f3, f4⟩ := cells_of_block hy
    go_simp
    with_reducible rfl
  simp only [Act.put, List.setIfInBounds_toArray, List.set_cons_zero, List.set_cons_succ]
  refine wpAnyH_take (i := 13) (oi := { dst := some 18, op := Op.load 3 (Operand.tmp 17), type := 3, pos := "key.go:17", after := #[{ on := 12, ground := Ground.data }], guard := none }) (v := ?_) rfl (by kernel_rfl) (by kernel_rfl) (by kernel_rfl) (fun _ _ _ h => h) (Or.inl ⟨by rfl, ?_⟩) (by assumption) ?_
  rotate_left
  · intro wq hSw
    obtain ⟨hx, hy⟩ := hSw
    obtain ⟨e0, e1, e2, e3, e4⟩ := cells_of_block hx
    obtain ⟨f0, f1, f2, f3, f4⟩ := cells_of_block hy
    go_simp
    with_reducible rfl
  simp only [Act.put, List.setIfInBounds_toArray, List.set_cons_zero, List.set_cons_succ]
  refine wpAnyH_take (i := 15) (oi := { dst := some 20, op := Op.fieldAddr 46 (Operand.tmp 2) 3, type := 0, pos := "key.go:17", after := #[], guard := none }) (v := ?_) rfl (by kernel_rfl) (by kernel_rfl) (by kernel_rfl) (fun _ _ _ h => h) (Or.inl ⟨by rfl, ?_⟩) (by assumption) ?_
  rotate_left
  · intro wq hSw
    obtain ⟨hx, hy⟩ := hSw
    obtain ⟨e0, e1, e2, e3, e4⟩ := cells_of_block hx
    obtain ⟨f0, f1, f2, f3, f4⟩ := cells_of_block hy
    go_simp
    with_reducible rfl
  simp only [Act.put, List.setIfInBounds_toArray, List.set_cons_zero, List.set_cons_succ]
  refine wpAnyH_take (i := 16) (oi := { dst := some 21, op := Op.load 3 (Operand.tmp 20), type := 3, pos := "key.go:17", after := #[{ on := 15, ground := Ground.data }], guard := none }) (v := ?_) rfl (by kernel_rfl) (by kernel_rfl) (by kernel_rfl) (fun _ _ _ h => h) (Or.inl ⟨by rfl, ?_⟩) (by assumption) ?_
  rotate_left
  · intro wq hSw
    obtain ⟨hx, hy⟩ := hSw
    obtain ⟨e0, e1, e2, e3, e4⟩ := cells_of_block hx
    obtain ⟨f0, f1, f2, f3, f4⟩ := cells_of_block hy
    go_simp
    with_reducible rfl
  simp only [Act.put, List.setIfInBounds_toArray, List.set_cons_zero, List.set_cons_succ]
  refine wpAnyH_take (i := 17) (oi := { dst := some 22, op := Op.fieldAddr 46 (Operand.tmp 3) 3, type := 0, pos := "key.go:17", after := #[], guard := none }) (v := ?_) rfl (by kernel_rfl) (by kernel_rfl) (by kernel_rfl) (fun _ _ _ h => h) (Or.inl ⟨by rfl, ?_⟩) (by assumption) ?_
  rotate_left
  · intro wq hSw
    obtain ⟨hx, hy⟩ := hSw
    obtain ⟨e0, e1, e2, e3, e4⟩ := cells_of_block hx
    obtain ⟨f0, f1, f2, f3, f4⟩ := cells_of_block hy
    go_simp
    with_reducible rfl
  simp only [Act.put, List.setIfInBounds_toArray, List.set_cons_zero, List.set_cons_succ]
  refine wpAnyH_take (i := 18) (oi := { dst := some 23, op := Op.load 3 (Operand.tmp 22), type := 3, pos := "key.go:17", after := #[{ on := 17, ground := Ground.data }], guard := none }) (v := ?_) rfl (by kernel_rfl) (by kernel_rfl) (by kernel_rfl) (fun _ _ _ h => h) (Or.inl ⟨by rfl, ?_⟩) (by assumption) ?_
  rotate_left
  · intro wq hSw
    obtain ⟨hx, hy⟩ := hSw
    obtain ⟨e0, e1, e2, e3, e4⟩ := cells_of_block hx
    obtain ⟨f0, f1, f2, f3, f4⟩ := cells_of_block hy
    go_simp
    with_reducible rfl
  simp only [Act.put, List.setIfInBounds_toArray, List.set_cons_zero, List.set_cons_succ]
  refine wpAnyH_take (i := 20) (oi := { dst := some 25, op := Op.fieldAddr 46 (Operand.tmp 2) 4, type := 0, pos := "key.go:17", after := #[], guard := none }) (v := ?_) rfl (by kernel_rfl) (by kernel_rfl) (by kernel_rfl) (fun _ _ _ h => h) (Or.inl ⟨by rfl, ?_⟩) (by assumption) ?_
  rotate_left
  · intro wq hSw
    obtain ⟨hx, hy⟩ := hSw
    obtain ⟨e0, e1, e2, e3, e4⟩ := cells_of_block hx
    obtain ⟨f0, f1, f2, f3, f4⟩ := cells_of_block hy
    go_simp
    with_reducible rfl
  simp only [Act.put, List.setIfInBounds_toArray, List.set_cons_zero, List.set_cons_succ]
  refine wpAnyH_take (i := 21) (oi := { dst := some 26, op := Op.load 9 (Operand.tmp 25), type := 9, pos := "key.go:17", after := #[{ on := 20, ground := Ground.data }], guard := none }) (v := ?_) rfl (by kernel_rfl) (by kernel_rfl) (by kernel_rfl) (fun _ _ _ h => h) (Or.inl ⟨by rfl, ?_⟩) (by assumption) ?_
  rotate_left
  · intro wq hSw
    obtain ⟨hx, hy⟩ := hSw
    obtain ⟨e0, e1, e2, e3, e4⟩ := cells_of_block hx
    obtain ⟨f0, f1, f2, f3, f4⟩ := cells_of_block hy
    go_simp
    with_reducible rfl
  simp only [Act.put, List.setIfInBounds_toArray, List.set_cons_zero, List.set_cons_succ]
  refine wpAnyH_take (i := 22) (oi := { dst := some 27, op := Op.fieldAddr 46 (Operand.tmp 3) 4, type := 0, pos := "key.go:17", after := #[], guard := none }) (v := ?_) rfl (by kernel_rfl) (by kernel_rfl) (by kernel_rfl) (fun _ _ _ h => h) (Or.inl ⟨by rfl, ?_⟩) (by assumption) ?_
  rotate_left
  · intro wq hSw
    obtain ⟨hx, hy⟩ := hSw
    obtain ⟨e0, e1, e2, e3, e4⟩ := cells_of_block hx
    obtain ⟨f0, f1, f2, f3, f4⟩ := cells_of_block hy
    go_simp
    with_reducible rfl
  simp only [Act.put, List.setIfInBounds_toArray, List.set_cons_zero, List.set_cons_succ]
  refine wpAnyH_take (i := 23) (oi := { dst := some 28, op := Op.load 9 (Operand.tmp 27), type := 9, pos := "key.go:17", after := #[{ on := 22, ground := Ground.data }], guard := none }) (v := ?_) rfl (by kernel_rfl) (by kernel_rfl) (by kernel_rfl) (fun _ _ _ h => h) (Or.inl ⟨by rfl, ?_⟩) (by assumption) ?_
  rotate_left
  · intro wq hSw
    obtain ⟨hx, hy⟩ := hSw
    obtain ⟨e0, e1, e2, e3, e4⟩ := cells_of_block hx
    obtain ⟨f0, f1, f2, f3, f4⟩ := cells_of_block hy
    go_simp
    with_reducible rfl
  simp only [Act.put, List.setIfInBounds_toArray, List.set_cons_zero, List.set_cons_succ]
  refine wpAnyH_ready (rs := [4]) (by kernel_rfl) (by simp) ?_
  refine AllReadyH.cons (o := { dst := some 9, op := Op.call { callee := Callee.value (Operand.func 54), args := #[Operand.tmp 6, Operand.tmp 8], argTypes := #[9, 9] }, type := 3, pos := "key.go:18", after := #[{ on := 1, ground := Ground.data }, { on := 3, ground := Ground.data }], guard := none }) rfl (fun K hK => ?_) ?_
  · go_simp
    refine (strCmp x.attr y.attr _).mono ?_
    rintro e wc ⟨rfl, rfl⟩
    simp only
    refine hK.out _ _ (hS0) (fun hHeld => ?_)
    clear hK K
    refine wpAnyH_ready (rs := [9]) (by kernel_rfl) (by simp) ?_
    refine AllReadyH.cons (o := { dst := some 14, op := Op.call { callee := Callee.value (Operand.func 55), args := #[Operand.tmp 11, Operand.tmp 13], argTypes := #[3, 3] }, type := 3, pos := "key.go:19", after := #[{ on := 6, ground := Ground.data }, { on := 8, ground := Ground.data }, { on := 4, ground := Ground.chain }], guard := none }) rfl (fun K hK => ?_) ?_
    · go_simp
      refine (compareI x.kind y.kind _).mono ?_
      rintro e wc ⟨rfl, rfl⟩
      simp only
      refine hK.out _ _ (hS0) (fun hHeld => ?_)
      clear hK K
      refine wpAnyH_ready (rs := [14]) (by kernel_rfl) (by simp) ?_
      refine AllReadyH.cons (o := { dst := some 19, op := Op.call { callee := Callee.value (Operand.func 55), args := #[Operand.tmp 16, Operand.tmp 18], argTypes := #[3, 3] }, type := 3, pos := "key.go:20", after := #[{ on := 11, ground := Ground.data }, { on := 13, ground := Ground.data }, { on := 9, ground := Ground.chain }], guard := none }) rfl (fun K hK => ?_) ?_
      · go_simp
        refine (compareI x.level y.level _).mono ?_
        rintro e wc ⟨rfl, rfl⟩
        simp only
        refine hK.out _ _ (hS0) (fun hHeld => ?_)
        clear hK K
        refine wpAnyH_ready (rs := [19]) (by kernel_rfl) (by simp) ?_
        refine AllReadyH.cons (o := { dst := some 24, op := Op.call { callee := Callee.value (Operand.func 55), args := #[Operand.tmp 21, Operand.tmp 23], argTypes := #[3, 3] }, type := 3, pos := "key.go:21", after := #[{ on := 16, ground := Ground.data }, { on := 18, ground := Ground.data }, { on := 14, ground := Ground.chain }], guard := none }) rfl (fun K hK => ?_) ?_
        · go_simp
          refine (compareI x.num y.num _).mono ?_
          rintro e wc ⟨rfl, rfl⟩
          simp only
          refine hK.out _ _ (hS0) (fun hHeld => ?_)
          clear hK K
          refine wpAnyH_ready (rs := [24]) (by kernel_rfl) (by simp) ?_
          refine AllReadyH.cons (o := { dst := some 29, op := Op.call { callee := Callee.value (Operand.func 54), args := #[Operand.tmp 26, Operand.tmp 28], argTypes := #[9, 9] }, type := 3, pos := "key.go:22", after := #[{ on := 21, ground := Ground.data }, { on := 23, ground := Ground.data }, { on := 19, ground := Ground.chain }], guard := none }) rfl (fun K hK => ?_) ?_
          · go_simp
            refine (strCmp x.word y.word _).mono ?_
            rintro e wc ⟨rfl, rfl⟩
            simp only
            refine hK.out _ _ (hS0) (fun hHeld => ?_)
            clear hK K
            refine wpAnyH_ready (rs := [25]) (by kernel_rfl) (by simp) ?_
            refine AllReadyH.cons (o := { dst := some 30, op := Op.buildSlice 22 5 #[(0, Operand.tmp 9), (1, Operand.tmp 14), (2, Operand.tmp 19), (3, Operand.tmp 24), (4, Operand.tmp 29)], type := 22, pos := "key.go:17", after := #[{ on := 4, ground := Ground.data }, { on := 9, ground := Ground.data }, { on := 14, ground := Ground.data }, { on := 19, ground := Ground.data }, { on := 24, ground := Ground.data }], guard := none }) rfl (fun K hK => ?_) ?_
            · go_simp
              refine hK.out _ _ (hS1 _) (fun hHeld => ?_)
              clear hK K
              refine wpAnyH_ready (rs := [26]) (by kernel_rfl) (by simp) ?_
              refine AllReadyH.cons (o := { dst := some 31, op := Op.call { callee := Callee.value (Operand.func 53), args := #[Operand.tmp 30], argTypes := #[22] }, type := 3, pos := "key.go:17", after := #[{ on := 25, ground := Ground.data }, { on := 24, ground := Ground.chain }], guard := none }) rfl (fun K hK => ?_) ?_
              · go_simp
                refine (orIw _ _ _ _ _ _ _ (hNW _)).mono ?_
                rintro e wc ⟨rfl, rfl⟩
                simp only
                refine hK.out _ _ (hS1 _) (fun hHeld => ?_)
                clear hK K
                refine wpAnyH_take (i := 27) (oi := { dst := some 4, op := Op.assign (Operand.tmp 31), type := 3, pos := "key.go:17", after := #[{ on := 26, ground := Ground.data }, { on := 26, ground := Ground.chain }, { on := 0, ground := Ground.phase }, { on := 1, ground := Ground.phase }, { on := 2, ground := Ground.phase }, { on := 3, ground := Ground.phase }, { on := 4, ground := Ground.phase }, { on := 5, ground := Ground.phase }, { on := 6, ground := Ground.phase }, { on := 7, ground := Ground.phase }, { on := 8, ground := Ground.phase }, { on := 9, ground := Ground.phase }, { on := 10, ground := Ground.phase }, { on := 11, ground := Ground.phase }, { on := 12, ground := Ground.phase }, { on := 13, ground := Ground.phase }, { on := 14, ground := Ground.phase }, { on := 15, ground := Ground.phase }, { on := 16, ground := Ground.phase }, { on := 17, ground := Ground.phase }, { on := 18, ground := Ground.phase }, { on := 19, ground := Ground.phase }, { on := 20, ground := Ground.phase }, { on := 21, ground := Ground.phase }, { on := 22, ground := Ground.phase }, { on := 23, ground := Ground.phase }, { on := 24, ground := Ground.phase }, { on := 25, ground := Ground.phase }, { on := 26, ground := Ground.phase }], guard := none }) (v := ?_) rfl (by kernel_rfl) (by kernel_rfl) (by kernel_rfl) (fun _ _ _ h => h) (Or.inl ⟨by rfl, ?_⟩) (by assumption) ?_
                rotate_left
                · intro wq hSw
                  obtain ⟨hx, hy⟩ := hSw
                  obtain ⟨e0, e1, e2, e3, e4⟩ := cells_of_block hx
                  obtain ⟨f0, f1, f2, f3, f4⟩ := cells_of_block hy
                  go_simp
                  with_reducible rfl
                simp only [Act.put, List.setIfInBounds_toArray, List.set_cons_zero, List.set_cons_succ]
                refine wpAnyH_done (by kernel_rfl) ?_ _
                go_wp2
                go_ret
                exact ⟨ret_int (by unfold cmpK cmpT kParts; simp only [first5]), hEnd _⟩
              exact AllReadyH.nil
            exact AllReadyH.nil
          exact AllReadyH.nil
        exact AllReadyH.nil
      exact AllReadyH.nil
    exact AllReadyH.nil
  exact AllReadyH.nil
end Go.Proofs.YtedakipjfpdajaaGreatDoor
