/- The law SpanCommons, of any list. -/
import Derived.Test.YtjclojeihjgnkaaDoorCommonsPos
namespace Go.Proofs.YtjclojeihjgnkaaDoor
open Go.RowKit

set_option maxRecDepth 100000 in
set_option maxHeartbeats 2000000 in
theorem commons_nil (q : Option Addr) (cap : Nat) (turn : Int) (w : World) (hG : G w) (hq : q = none → cap = 0) :
    Calls Tryd.prog 8 #[.slice q 0 cap, .int .i64 turn] w fun e w' => e = .returned (.bool true) ∧ Below w.heap.size w w' := by
  have mixed : Tryd.prog.follows .mixedOrders = true := by kernel_rfl
  have hfix := fixed_any
  have HG := hide hG
  have hc : ∀ (q : Option Addr) (cap : Nat) (V : World), Calls Tryd.prog 19 #[.slice q 0 cap] V fun e w' => e = .returned (.tuple #[.agg #[.int .i64 0, .int .i64 0], .bool false]) ∧ Below V.heap.size V w' := fun q cap V => com_none_nil q cap V
  have qe := eqlS 0 0 0 0
  rw [show decide ((0 : Int) = 0 ∧ (0 : Int) = 0) = true by decide] at qe
  have qn := neqS 0 0 0 0
  rw [show (!decide ((0 : Int) = 0 ∧ (0 : Int) = 0)) = false by decide] at qn
  clear hG
  cases q with
  | none =>
    obtain rfl := hq rfl
    clear hq
    go_enter Tryd.func8, Tryd.ntmps8
    go_wp2_with (first
      | (go_at_call 9; refine (hfix _ (unhide HG)).mono ?_; rintro e w1 ⟨rfl, b1⟩; have B1 := hide b1; clear b1)
      | (go_at_call 19; refine (hc _ _ _).mono ?_; rintro e w2 ⟨rfl, b2⟩; have B2 := hide (below_sub (unhide B1) b2); clear b2))
    obtain ⟨U, HU⟩ : ∃ U, w2.alloc (.cells #[.int .i64 0, .int .i64 0] 23) = U := ⟨_, rfl⟩
    have OS := hide (show One U w2.heap.size 0 0 by rw [← HU]; exact One.new _ _ _)
    have BU := hide (show Below w.heap.size w U by rw [← HU]; exact (unhide B2).alloc (unhide B2).size _)
    rw [HU]
    obtain ⟨Ns, hNs⟩ : ∃ Ns, w2.heap.size = Ns := ⟨_, rfl⟩
    rw [hNs] at OS
    rw [hNs]
    clear hNs HU B1 B2 hfix HG
    have HSrc := hide (fun (V : World) (_ : Below U.heap.size U V) => (show SrcK encI 1 V none 0 [] from LsOf.src (fun h => by first | exact ⟨rfl, rfl⟩ | cases h) (LsOf.nil _ _)))
    go_cut [8, 9] from 34 (fun s8 s9 V => ∃ N8 : Nat, s8 = .pointer (some ⟨N8, 0, none⟩) ∧ s9 = .bool false ∧ One V N8 0 0 ∧ Below U.heap.size U V)
    case first =>
      have R0 : Below U.heap.size U U.drew := (Below.refl _ _).drew
      refine wp_region_held_drew (S := fun w' => True) (by kernel_rfl) (trivial) (fun hHeld => ?_)
      refine wpAnyH_take (i := 1) (oi := { dst := some 36, op := Op.move (Operand.tmp 0), type := 33, pos := "more.go:18", after := #[], guard := none }) (v := ?_) rfl (by kernel_rfl) (by kernel_rfl) (by kernel_rfl) (fun _ _ _ h => h) (Or.inl ⟨by rfl, ?_⟩) (by assumption) ?_
      rotate_left
      · intro wq hSw
        go_simp
        with_reducible rfl
      simp only [Act.put, List.setIfInBounds_toArray, List.set_cons_zero, List.set_cons_succ]
      refine wpAnyH_take (i := 2) (oi := { dst := some 37, op := Op.move (Operand.tmp 7), type := 3, pos := "more.go:18", after := #[], guard := none }) (v := ?_) rfl (by kernel_rfl) (by kernel_rfl) (by kernel_rfl) (fun _ _ _ h => h) (Or.inl ⟨by rfl, ?_⟩) (by assumption) ?_
      rotate_left
      · intro wq hSw
        go_simp
        with_reducible rfl
      simp only [Act.put, List.setIfInBounds_toArray, List.set_cons_zero, List.set_cons_succ]
      refine wpAnyH_take (i := 3) (oi := { dst := some 38, op := Op.slice 33 (Operand.tmp 36) (some (Operand.tmp 37)) none none, type := 33, pos := "more.go:18", after := #[{ on := 1, ground := Ground.data }, { on := 2, ground := Ground.data }], guard := none }) (v := ?_) rfl (by kernel_rfl) (by kernel_rfl) (by kernel_rfl) (fun _ _ _ h => h) (Or.inl ⟨by rfl, ?_⟩) (by assumption) ?_
      rotate_left
      · intro wq hSw
        go_simp
        with_reducible rfl
      simp only [Act.put, List.setIfInBounds_toArray, List.set_cons_zero, List.set_cons_succ]
      refine wpAnyH_take (i := 5) (oi := { dst := some 40, op := Op.move (Operand.tmp 0), type := 33, pos := "more.go:18", after := #[], guard := none }) (v := ?_) rfl (by kernel_rfl) (by kernel_rfl) (by kernel_rfl) (fun _ _ _ h => h) (Or.inl ⟨by rfl, ?_⟩) (by assumption) ?_
      rotate_left
      · intro wq hSw
        go_simp
        with_reducible rfl
      simp only [Act.put, List.setIfInBounds_toArray, List.set_cons_zero, List.set_cons_succ]
      refine wpAnyH_take (i := 6) (oi := { dst := some 41, op := Op.move (Operand.tmp 7), type := 3, pos := "more.go:18", after := #[], guard := none }) (v := ?_) rfl (by kernel_rfl) (by kernel_rfl) (by kernel_rfl) (fun _ _ _ h => h) (Or.inl ⟨by rfl, ?_⟩) (by assumption) ?_
      rotate_left
      · intro wq hSw
        go_simp
        with_reducible rfl
      simp only [Act.put, List.setIfInBounds_toArray, List.set_cons_zero, List.set_cons_succ]
      refine wpAnyH_take (i := 7) (oi := { dst := some 42, op := Op.slice 33 (Operand.tmp 40) none (some (Operand.tmp 41)) none, type := 33, pos := "more.go:18", after := #[{ on := 5, ground := Ground.data }, { on := 6, ground := Ground.data }], guard := none }) (v := ?_) rfl (by kernel_rfl) (by kernel_rfl) (by kernel_rfl) (fun _ _ _ h => h) (Or.inl ⟨by rfl, ?_⟩) (by assumption) ?_
      rotate_left
      · intro wq hSw
        go_simp
        with_reducible rfl
      simp only [Act.put, List.setIfInBounds_toArray, List.set_cons_zero, List.set_cons_succ]
      refine wpAnyH_ready (rs := [0, 13]) (by kernel_rfl) (by simp) ?_
      refine AllReadyH.cons (o := { dst := some 35, op := Op.buildSlice 33 0 #[], type := 33, pos := "more.go:18", after := #[], guard := none }) rfl (fun K hK => ?_) ?_
      · go_simp
        refine hK.out _ _ (trivial) (fun hHeld => ?_)
        clear hK K
        obtain ⟨V1, h3⟩ : ∃ V1, (World.alloc U (.cells #[] 3)).drew = V1 := ⟨_, rfl⟩
        rw [h3]
        have R2 : Below U.heap.size U V1 := by rw [← h3]; exact (show Below U.heap.size U (World.alloc U.drew (.cells #[] 3)) from (R0).alloc (R0).size _)
        have b4 : Below U.drew.heap.size U.drew V1 := by rw [← h3]; exact (show Below U.drew.heap.size U.drew (World.alloc U.drew (.cells #[] 3)) from (Below.refl _ _).alloc (Nat.le_refl _) _)
        have f5 := hide (show OwnK encI 3 1 U.heap.size V1 (some ⟨U.heap.size, 0, none⟩) 0 [] by rw [← h3]; exact (show OwnK encI 3 1 U.heap.size (World.alloc U.drew (.cells #[] 3)) (some ⟨U.heap.size, 0, none⟩) 0 [] from OwnK.made _ _ (R0).size))
        clear h3 b4
        refine wpAnyH_ready (rs := [4, 13]) (by kernel_rfl) (by simp) ?_
        refine AllReadyH.cons (o := { dst := some 39, op := Op.call { callee := Callee.builtin Builtin.append, args := #[Operand.tmp 35, Operand.tmp 38], argTypes := #[33, 33] }, type := 33, pos := "more.go:18", after := #[{ on := 0, ground := Ground.data }, { on := 3, ground := Ground.data }], guard := none }) rfl (fun K hK => ?_) ?_
        · refine step_app rowI (by rfl) (.tmp 35) (.tmp 38) (by rfl) U.heap.size (some ⟨U.heap.size, 0, none⟩) 0 [] none 0 [] 0 0 0 rfl rfl rfl (by rfl) (by rfl) (unhide f5) (unhide HSrc _ R2) (by unfold maxLen; omega) (by omega) (R2).size ?_
          intro q7 c8 w6 o9 b10 _ g11
          have R12 : Below U.heap.size U w6 := (R2).trans b10
          have f13 := hide o9
          clear o9 b10 g11 f5
          refine hK.out _ _ (trivial) (fun hHeld => ?_)
          clear hK K
          refine wpAnyH_ready (rs := [8, 13]) (by kernel_rfl) (by simp) ?_
          refine AllReadyH.cons (o := { dst := some 43, op := Op.call { callee := Callee.builtin Builtin.append, args := #[Operand.tmp 39, Operand.tmp 42], argTypes := #[33, 33] }, type := 33, pos := "more.go:18", after := #[{ on := 4, ground := Ground.data }, { on := 7, ground := Ground.data }, { on := 4, ground := Ground.chain }], guard := none }) rfl (fun K hK => ?_) ?_
          · refine step_app rowI (by rfl) (.tmp 39) (.tmp 42) (by rfl) U.heap.size q7 c8 ([] ++ []) none 0 [] 0 0 0 rfl rfl rfl (by rfl) (by rfl) (unhide f13) (unhide HSrc _ R12) (by unfold maxLen; omega) (by omega) (R12).size ?_
            intro q15 c16 w14 o17 b18 _ g19
            have R20 : Below U.heap.size U w14 := (R12).trans b18
            have f21 := hide o17
            clear o17 b18 g19 f13
            refine hK.out _ _ (trivial) (fun hHeld => ?_)
            clear hK K
            refine wpAnyH_ready (rs := [9, 13]) (by kernel_rfl) (by simp) ?_
            refine AllReadyH.cons (o := { dst := some 44, op := Op.call { callee := Callee.value (Operand.func 19), args := #[Operand.tmp 43], argTypes := #[33] }, type := 27, pos := "more.go:18", after := #[{ on := 8, ground := Ground.data }, { on := 8, ground := Ground.chain }], guard := none }) rfl (fun K hK => ?_) ?_
            · go_simp
              refine (hc q15 c16 _).mono ?_
              rintro e w22 ⟨rfl, b23⟩
              have R24 : Below U.heap.size U w22 := below_sub R20 b23
              clear b23 f21
              refine hK.out _ _ (trivial) (fun hHeld => ?_)
              clear hK K
              refine wpAnyH_take (i := 10) (oi := { dst := some 34, op := Op.move (Operand.tmp 44), type := 27, pos := "more.go:18", after := #[{ on := 9, ground := Ground.data }], guard := none }) (v := ?_) rfl (by kernel_rfl) (by kernel_rfl) (by kernel_rfl) (fun _ _ _ h => h) (Or.inl ⟨by rfl, ?_⟩) (by assumption) ?_
              rotate_left
              · intro wq hSw
                go_simp
                with_reducible rfl
              simp only [Act.put, List.setIfInBounds_toArray, List.set_cons_zero, List.set_cons_succ]
              refine wpAnyH_take (i := 11) (oi := { dst := some 45, op := Op.extract (Operand.tmp 34) 0, type := 23, pos := "more.go:18", after := #[{ on := 10, ground := Ground.data }], guard := none }) (v := ?_) rfl (by kernel_rfl) (by kernel_rfl) (by kernel_rfl) (fun _ _ _ h => h) (Or.inl ⟨by rfl, ?_⟩) (by assumption) ?_
              rotate_left
              · intro wq hSw
                go_simp
                with_reducible rfl
              simp only [Act.put, List.setIfInBounds_toArray, List.set_cons_zero, List.set_cons_succ]
              refine wpAnyH_take (i := 12) (oi := { dst := some 46, op := Op.extract (Operand.tmp 34) 1, type := 4, pos := "more.go:18", after := #[{ on := 10, ground := Ground.data }, { on := 14, ground := Ground.gcOnly Departure.lateStores }], guard := none }) (v := ?_) rfl (by kernel_rfl) (by kernel_rfl) (by kernel_rfl) (fun _ _ _ h => h) (Or.inl ⟨by rfl, ?_⟩) (by assumption) ?_
              rotate_left
              · intro wq hSw
                go_simp
                with_reducible rfl
              simp only [Act.put, List.setIfInBounds_toArray, List.set_cons_zero, List.set_cons_succ]
              refine wpAnyH_ready (rs := [13]) (by kernel_rfl) (by simp) ?_
              refine AllReadyH.cons (o := { dst := some 8, op := Op.alloc 23, type := 0, pos := "more.go:18", after := #[], guard := none }) rfl (fun K hK => ?_) ?_
              · go_simp
                refine hK.out _ _ (trivial) (fun hHeld => ?_)
                clear hK K
                obtain ⟨V25, h27⟩ : ∃ V25, World.alloc w22 (.cells #[.int .i64 0, .int .i64 0] 23) = V25 := ⟨_, rfl⟩
                rw [h27]
                have R26 : Below U.heap.size U V25 := by rw [← h27]; exact (show Below U.heap.size U (World.alloc w22 (.cells #[.int .i64 0, .int .i64 0] 23)) from (R24).alloc (R24).size _)
                have b28 : Below w22.heap.size w22 V25 := by rw [← h27]; exact (show Below w22.heap.size w22 (World.alloc w22 (.cells #[.int .i64 0, .int .i64 0] 23)) from (Below.refl _ _).alloc (Nat.le_refl _) _)
                have f29 := hide (show V25.heap[w22.heap.size]? = some (.cells #[.int .i64 0, .int .i64 0] 23 (0, 0)) by rw [← h27]; exact box_nw _ _)
                clear h27 b28
                refine wpAnyH_ready (rs := [14]) (by kernel_rfl) (by simp) ?_
                refine AllReadyH.cons (o := { dst := none, op := Op.store 23 (Operand.tmp 8) (Operand.tmp 45), type := 0, pos := "more.go:18", after := #[{ on := 13, ground := Ground.data }, { on := 11, ground := Ground.data }, { on := 9, ground := Ground.chain }, { on := 0, ground := Ground.phase }, { on := 1, ground := Ground.phase }, { on := 2, ground := Ground.phase }, { on := 3, ground := Ground.phase }, { on := 4, ground := Ground.phase }, { on := 5, ground := Ground.phase }, { on := 6, ground := Ground.phase }, { on := 7, ground := Ground.phase }, { on := 8, ground := Ground.phase }, { on := 9, ground := Ground.phase }, { on := 10, ground := Ground.phase }, { on := 11, ground := Ground.phase }, { on := 12, ground := Ground.textOnly Departure.lateStores }, { on := 13, ground := Ground.phase }], guard := none }) rfl (fun K hK => ?_) ?_
                · obtain ⟨z30_0, z30_1⟩ := of2 (unhide f29)
                  have z30f : ∀ o, World.frozen? V25 ⟨w22.heap.size, o, none⟩ = false := fun o => frozen_free (unhide f29)
                  have z30l := heap_lt (unhide f29)
                  go_simp
                  refine hK.out _ _ (trivial) (fun hHeld => ?_)
                  clear hK K
                  refine wpAnyH_take (i := 15) (oi := { dst := some 9, op := Op.assign (Operand.tmp 46), type := 4, pos := "more.go:18", after := #[{ on := 12, ground := Ground.data }, { on := 14, ground := Ground.chain }, { on := 0, ground := Ground.phase }, { on := 1, ground := Ground.phase }, { on := 2, ground := Ground.phase }, { on := 3, ground := Ground.phase }, { on := 4, ground := Ground.phase }, { on := 5, ground := Ground.phase }, { on := 6, ground := Ground.phase }, { on := 7, ground := Ground.phase }, { on := 8, ground := Ground.phase }, { on := 9, ground := Ground.phase }, { on := 10, ground := Ground.phase }, { on := 11, ground := Ground.phase }, { on := 12, ground := Ground.phase }, { on := 13, ground := Ground.phase }, { on := 14, ground := Ground.phase }], guard := none }) (v := ?_) rfl (by kernel_rfl) (by kernel_rfl) (by kernel_rfl) (fun _ _ _ h => h) (Or.inl ⟨by rfl, ?_⟩) (by assumption) ?_
                  rotate_left
                  · intro wq hSw
                    go_simp
                    with_reducible rfl
                  simp only [Act.put, List.setIfInBounds_toArray, List.set_cons_zero, List.set_cons_succ]
                  refine wpAnyH_done (by kernel_rfl) ?_ _
                  go_wp2
                  go_meet
                  case rel =>
                    have y31g : U.heap.size ≤ w22.heap.size := (R24).size
                    refine ⟨w22.heap.size, rfl, rfl, One.put (of_blk (unhide f29)) 0 0, ((R26).setCell y31g _).setCell y31g _⟩
                exact AllReadyH.nil
              exact AllReadyH.nil
            refine AllReadyH.cons (o := { dst := some 8, op := Op.alloc 23, type := 0, pos := "more.go:18", after := #[], guard := none }) rfl (fun K hK => ?_) ?_
            · go_simp
              refine hK.out _ _ (trivial) (fun hHeld => ?_)
              clear hK K
              obtain ⟨V32, h34⟩ : ∃ V32, World.alloc w14 (.cells #[.int .i64 0, .int .i64 0] 23) = V32 := ⟨_, rfl⟩
              rw [h34]
              have R33 : Below U.heap.size U V32 := by rw [← h34]; exact (show Below U.heap.size U (World.alloc w14 (.cells #[.int .i64 0, .int .i64 0] 23)) from (R20).alloc (R20).size _)
              have b35 : Below w14.heap.size w14 V32 := by rw [← h34]; exact (show Below w14.heap.size w14 (World.alloc w14 (.cells #[.int .i64 0, .int .i64 0] 23)) from (Below.refl _ _).alloc (Nat.le_refl _) _)
              have f36 := hide ((unhide f21).below b35)
              clear f21
              have f37 := hide (show V32.heap[w14.heap.size]? = some (.cells #[.int .i64 0, .int .i64 0] 23 (0, 0)) by rw [← h34]; exact box_nw _ _)
              clear h34 b35
              refine wpAnyH_ready (rs := [9]) (by kernel_rfl) (by simp) ?_
              refine AllReadyH.cons (o := { dst := some 44, op := Op.call { callee := Callee.value (Operand.func 19), args := #[Operand.tmp 43], argTypes := #[33] }, type := 27, pos := "more.go:18", after := #[{ on := 8, ground := Ground.data }, { on := 8, ground := Ground.chain }], guard := none }) rfl (fun K hK => ?_) ?_
              · go_simp
                refine (hc q15 c16 _).mono ?_
                rintro e w38 ⟨rfl, b39⟩
                have R40 : Below U.heap.size U w38 := below_sub R33 b39
                have f41 := hide (((b39).block _ (heap_lt (unhide f37))).trans (unhide f37))
                clear f37
                clear b39 f36
                refine hK.out _ _ (trivial) (fun hHeld => ?_)
                clear hK K
                refine wpAnyH_take (i := 10) (oi := { dst := some 34, op := Op.move (Operand.tmp 44), type := 27, pos := "more.go:18", after := #[{ on := 9, ground := Ground.data }], guard := none }) (v := ?_) rfl (by kernel_rfl) (by kernel_rfl) (by kernel_rfl) (fun _ _ _ h => h) (Or.inl ⟨by rfl, ?_⟩) (by assumption) ?_
                rotate_left
                · intro wq hSw
                  go_simp
                  with_reducible rfl
                simp only [Act.put, List.setIfInBounds_toArray, List.set_cons_zero, List.set_cons_succ]
                refine wpAnyH_take (i := 11) (oi := { dst := some 45, op := Op.extract (Operand.tmp 34) 0, type := 23, pos := "more.go:18", after := #[{ on := 10, ground := Ground.data }], guard := none }) (v := ?_) rfl (by kernel_rfl) (by kernel_rfl) (by kernel_rfl) (fun _ _ _ h => h) (Or.inl ⟨by rfl, ?_⟩) (by assumption) ?_
                rotate_left
                · intro wq hSw
                  go_simp
                  with_reducible rfl
                simp only [Act.put, List.setIfInBounds_toArray, List.set_cons_zero, List.set_cons_succ]
                refine wpAnyH_take (i := 12) (oi := { dst := some 46, op := Op.extract (Operand.tmp 34) 1, type := 4, pos := "more.go:18", after := #[{ on := 10, ground := Ground.data }, { on := 14, ground := Ground.gcOnly Departure.lateStores }], guard := none }) (v := ?_) rfl (by kernel_rfl) (by kernel_rfl) (by kernel_rfl) (fun _ _ _ h => h) (Or.inl ⟨by rfl, ?_⟩) (by assumption) ?_
                rotate_left
                · intro wq hSw
                  go_simp
                  with_reducible rfl
                simp only [Act.put, List.setIfInBounds_toArray, List.set_cons_zero, List.set_cons_succ]
                refine wpAnyH_ready (rs := [14]) (by kernel_rfl) (by simp) ?_
                refine AllReadyH.cons (o := { dst := none, op := Op.store 23 (Operand.tmp 8) (Operand.tmp 45), type := 0, pos := "more.go:18", after := #[{ on := 13, ground := Ground.data }, { on := 11, ground := Ground.data }, { on := 9, ground := Ground.chain }, { on := 0, ground := Ground.phase }, { on := 1, ground := Ground.phase }, { on := 2, ground := Ground.phase }, { on := 3, ground := Ground.phase }, { on := 4, ground := Ground.phase }, { on := 5, ground := Ground.phase }, { on := 6, ground := Ground.phase }, { on := 7, ground := Ground.phase }, { on := 8, ground := Ground.phase }, { on := 9, ground := Ground.phase }, { on := 10, ground := Ground.phase }, { on := 11, ground := Ground.phase }, { on := 12, ground := Ground.textOnly Departure.lateStores }, { on := 13, ground := Ground.phase }], guard := none }) rfl (fun K hK => ?_) ?_
                · obtain ⟨z42_0, z42_1⟩ := of2 (unhide f41)
                  have z42f : ∀ o, World.frozen? w38 ⟨w14.heap.size, o, none⟩ = false := fun o => frozen_free (unhide f41)
                  have z42l := heap_lt (unhide f41)
                  go_simp
                  refine hK.out _ _ (trivial) (fun hHeld => ?_)
                  clear hK K
                  refine wpAnyH_take (i := 15) (oi := { dst := some 9, op := Op.assign (Operand.tmp 46), type := 4, pos := "more.go:18", after := #[{ on := 12, ground := Ground.data }, { on := 14, ground := Ground.chain }, { on := 0, ground := Ground.phase }, { on := 1, ground := Ground.phase }, { on := 2, ground := Ground.phase }, { on := 3, ground := Ground.phase }, { on := 4, ground := Ground.phase }, { on := 5, ground := Ground.phase }, { on := 6, ground := Ground.phase }, { on := 7, ground := Ground.phase }, { on := 8, ground := Ground.phase }, { on := 9, ground := Ground.phase }, { on := 10, ground := Ground.phase }, { on := 11, ground := Ground.phase }, { on := 12, ground := Ground.phase }, { on := 13, ground := Ground.phase }, { on := 14, ground := Ground.phase }], guard := none }) (v := ?_) rfl (by kernel_rfl) (by kernel_rfl) (by kernel_rfl) (fun _ _ _ h => h) (Or.inl ⟨by rfl, ?_⟩) (by assumption) ?_
                  rotate_left
                  · intro wq hSw
                    go_simp
                    with_reducible rfl
                  simp only [Act.put, List.setIfInBounds_toArray, List.set_cons_zero, List.set_cons_succ]
                  refine wpAnyH_done (by kernel_rfl) ?_ _
                  go_wp2
                  go_meet
                  case rel =>
                    have y43g : U.heap.size ≤ w14.heap.size := (R20).size
                    refine ⟨w14.heap.size, rfl, rfl, One.put (of_blk (unhide f41)) 0 0, ((R40).setCell y43g _).setCell y43g _⟩
                exact AllReadyH.nil
              exact AllReadyH.nil
            exact AllReadyH.nil
          refine AllReadyH.cons (o := { dst := some 8, op := Op.alloc 23, type := 0, pos := "more.go:18", after := #[], guard := none }) rfl (fun K hK => ?_) ?_
          · go_simp
            refine hK.out _ _ (trivial) (fun hHeld => ?_)
            clear hK K
            obtain ⟨V44, h46⟩ : ∃ V44, World.alloc w6 (.cells #[.int .i64 0, .int .i64 0] 23) = V44 := ⟨_, rfl⟩
            rw [h46]
            have R45 : Below U.heap.size U V44 := by rw [← h46]; exact (show Below U.heap.size U (World.alloc w6 (.cells #[.int .i64 0, .int .i64 0] 23)) from (R12).alloc (R12).size _)
            have b47 : Below w6.heap.size w6 V44 := by rw [← h46]; exact (show Below w6.heap.size w6 (World.alloc w6 (.cells #[.int .i64 0, .int .i64 0] 23)) from (Below.refl _ _).alloc (Nat.le_refl _) _)
            have f48 := hide ((unhide f13).below b47)
            clear f13
            have f49 := hide (show V44.heap[w6.heap.size]? = some (.cells #[.int .i64 0, .int .i64 0] 23 (0, 0)) by rw [← h46]; exact box_nw _ _)
            clear h46 b47
            refine wpAnyH_ready (rs := [8]) (by kernel_rfl) (by simp) ?_
            refine AllReadyH.cons (o := { dst := some 43, op := Op.call { callee := Callee.builtin Builtin.append, args := #[Operand.tmp 39, Operand.tmp 42], argTypes := #[33, 33] }, type := 33, pos := "more.go:18", after := #[{ on := 4, ground := Ground.data }, { on := 7, ground := Ground.data }, { on := 4, ground := Ground.chain }], guard := none }) rfl (fun K hK => ?_) ?_
            · refine step_app rowI (by rfl) (.tmp 39) (.tmp 42) (by rfl) U.heap.size q7 c8 ([] ++ []) none 0 [] 0 0 0 rfl rfl rfl (by rfl) (by rfl) (unhide f48) (unhide HSrc _ R45) (by unfold maxLen; omega) (by omega) (R45).size ?_
              intro q51 c52 w50 o53 b54 _ g55
              have R56 : Below U.heap.size U w50 := (R45).trans b54
              have f57 := hide (box_app (unhide f48) (unhide f49) g55)
              clear f49
              have f58 := hide o53
              clear o53 b54 g55 f48
              refine hK.out _ _ (trivial) (fun hHeld => ?_)
              clear hK K
              refine wpAnyH_ready (rs := [9]) (by kernel_rfl) (by simp) ?_
              refine AllReadyH.cons (o := { dst := some 44, op := Op.call { callee := Callee.value (Operand.func 19), args := #[Operand.tmp 43], argTypes := #[33] }, type := 27, pos := "more.go:18", after := #[{ on := 8, ground := Ground.data }, { on := 8, ground := Ground.chain }], guard := none }) rfl (fun K hK => ?_) ?_
              · go_simp
                refine (hc q51 c52 _).mono ?_
                rintro e w59 ⟨rfl, b60⟩
                have R61 : Below U.heap.size U w59 := below_sub R56 b60
                have f62 := hide (((b60).block _ (heap_lt (unhide f57))).trans (unhide f57))
                clear f57
                clear b60 f58
                refine hK.out _ _ (trivial) (fun hHeld => ?_)
                clear hK K
                refine wpAnyH_take (i := 10) (oi := { dst := some 34, op := Op.move (Operand.tmp 44), type := 27, pos := "more.go:18", after := #[{ on := 9, ground := Ground.data }], guard := none }) (v := ?_) rfl (by kernel_rfl) (by kernel_rfl) (by kernel_rfl) (fun _ _ _ h => h) (Or.inl ⟨by rfl, ?_⟩) (by assumption) ?_
                rotate_left
                · intro wq hSw
                  go_simp
                  with_reducible rfl
                simp only [Act.put, List.setIfInBounds_toArray, List.set_cons_zero, List.set_cons_succ]
                refine wpAnyH_take (i := 11) (oi := { dst := some 45, op := Op.extract (Operand.tmp 34) 0, type := 23, pos := "more.go:18", after := #[{ on := 10, ground := Ground.data }], guard := none }) (v := ?_) rfl (by kernel_rfl) (by kernel_rfl) (by kernel_rfl) (fun _ _ _ h => h) (Or.inl ⟨by rfl, ?_⟩) (by assumption) ?_
                rotate_left
                · intro wq hSw
                  go_simp
                  with_reducible rfl
                simp only [Act.put, List.setIfInBounds_toArray, List.set_cons_zero, List.set_cons_succ]
                refine wpAnyH_take (i := 12) (oi := { dst := some 46, op := Op.extract (Operand.tmp 34) 1, type := 4, pos := "more.go:18", after := #[{ on := 10, ground := Ground.data }, { on := 14, ground := Ground.gcOnly Departure.lateStores }], guard := none }) (v := ?_) rfl (by kernel_rfl) (by kernel_rfl) (by kernel_rfl) (fun _ _ _ h => h) (Or.inl ⟨by rfl, ?_⟩) (by assumption) ?_
                rotate_left
                · intro wq hSw
                  go_simp
                  with_reducible rfl
                simp only [Act.put, List.setIfInBounds_toArray, List.set_cons_zero, List.set_cons_succ]
                refine wpAnyH_ready (rs := [14]) (by kernel_rfl) (by simp) ?_
                refine AllReadyH.cons (o := { dst := none, op := Op.store 23 (Operand.tmp 8) (Operand.tmp 45), type := 0, pos := "more.go:18", after := #[{ on := 13, ground := Ground.data }, { on := 11, ground := Ground.data }, { on := 9, ground := Ground.chain }, { on := 0, ground := Ground.phase }, { on := 1, ground := Ground.phase }, { on := 2, ground := Ground.phase }, { on := 3, ground := Ground.phase }, { on := 4, ground := Ground.phase }, { on := 5, ground := Ground.phase }, { on := 6, ground := Ground.phase }, { on := 7, ground := Ground.phase }, { on := 8, ground := Ground.phase }, { on := 9, ground := Ground.phase }, { on := 10, ground := Ground.phase }, { on := 11, ground := Ground.phase }, { on := 12, ground := Ground.textOnly Departure.lateStores }, { on := 13, ground := Ground.phase }], guard := none }) rfl (fun K hK => ?_) ?_
                · obtain ⟨z63_0, z63_1⟩ := of2 (unhide f62)
                  have z63f : ∀ o, World.frozen? w59 ⟨w6.heap.size, o, none⟩ = false := fun o => frozen_free (unhide f62)
                  have z63l := heap_lt (unhide f62)
                  go_simp
                  refine hK.out _ _ (trivial) (fun hHeld => ?_)
                  clear hK K
                  refine wpAnyH_take (i := 15) (oi := { dst := some 9, op := Op.assign (Operand.tmp 46), type := 4, pos := "more.go:18", after := #[{ on := 12, ground := Ground.data }, { on := 14, ground := Ground.chain }, { on := 0, ground := Ground.phase }, { on := 1, ground := Ground.phase }, { on := 2, ground := Ground.phase }, { on := 3, ground := Ground.phase }, { on := 4, ground := Ground.phase }, { on := 5, ground := Ground.phase }, { on := 6, ground := Ground.phase }, { on := 7, ground := Ground.phase }, { on := 8, ground := Ground.phase }, { on := 9, ground := Ground.phase }, { on := 10, ground := Ground.phase }, { on := 11, ground := Ground.phase }, { on := 12, ground := Ground.phase }, { on := 13, ground := Ground.phase }, { on := 14, ground := Ground.phase }], guard := none }) (v := ?_) rfl (by kernel_rfl) (by kernel_rfl) (by kernel_rfl) (fun _ _ _ h => h) (Or.inl ⟨by rfl, ?_⟩) (by assumption) ?_
                  rotate_left
                  · intro wq hSw
                    go_simp
                    with_reducible rfl
                  simp only [Act.put, List.setIfInBounds_toArray, List.set_cons_zero, List.set_cons_succ]
                  refine wpAnyH_done (by kernel_rfl) ?_ _
                  go_wp2
                  go_meet
                  case rel =>
                    have y64g : U.heap.size ≤ w6.heap.size := (R12).size
                    refine ⟨w6.heap.size, rfl, rfl, One.put (of_blk (unhide f62)) 0 0, ((R61).setCell y64g _).setCell y64g _⟩
                exact AllReadyH.nil
              exact AllReadyH.nil
            exact AllReadyH.nil
          exact AllReadyH.nil
        refine AllReadyH.cons (o := { dst := some 8, op := Op.alloc 23, type := 0, pos := "more.go:18", after := #[], guard := none }) rfl (fun K hK => ?_) ?_
        · go_simp
          refine hK.out _ _ (trivial) (fun hHeld => ?_)
          clear hK K
          obtain ⟨V65, h67⟩ : ∃ V65, World.alloc V1 (.cells #[.int .i64 0, .int .i64 0] 23) = V65 := ⟨_, rfl⟩
          rw [h67]
          have R66 : Below U.heap.size U V65 := by rw [← h67]; exact (show Below U.heap.size U (World.alloc V1 (.cells #[.int .i64 0, .int .i64 0] 23)) from (R2).alloc (R2).size _)
          have b68 : Below V1.heap.size V1 V65 := by rw [← h67]; exact (show Below V1.heap.size V1 (World.alloc V1 (.cells #[.int .i64 0, .int .i64 0] 23)) from (Below.refl _ _).alloc (Nat.le_refl _) _)
          have f69 := hide ((unhide f5).below b68)
          clear f5
          have f70 := hide (show V65.heap[V1.heap.size]? = some (.cells #[.int .i64 0, .int .i64 0] 23 (0, 0)) by rw [← h67]; exact box_nw _ _)
          clear h67 b68
          refine wpAnyH_ready (rs := [4]) (by kernel_rfl) (by simp) ?_
          refine AllReadyH.cons (o := { dst := some 39, op := Op.call { callee := Callee.builtin Builtin.append, args := #[Operand.tmp 35, Operand.tmp 38], argTypes := #[33, 33] }, type := 33, pos := "more.go:18", after := #[{ on := 0, ground := Ground.data }, { on := 3, ground := Ground.data }], guard := none }) rfl (fun K hK => ?_) ?_
          · refine step_app rowI (by rfl) (.tmp 35) (.tmp 38) (by rfl) U.heap.size (some ⟨U.heap.size, 0, none⟩) 0 [] none 0 [] 0 0 0 rfl rfl rfl (by rfl) (by rfl) (unhide f69) (unhide HSrc _ R66) (by unfold maxLen; omega) (by omega) (R66).size ?_
            intro q72 c73 w71 o74 b75 _ g76
            have R77 : Below U.heap.size U w71 := (R66).trans b75
            have f78 := hide (box_app (unhide f69) (unhide f70) g76)
            clear f70
            have f79 := hide o74
            clear o74 b75 g76 f69
            refine hK.out _ _ (trivial) (fun hHeld => ?_)
            clear hK K
            refine wpAnyH_ready (rs := [8]) (by kernel_rfl) (by simp) ?_
            refine AllReadyH.cons (o := { dst := some 43, op := Op.call { callee := Callee.builtin Builtin.append, args := #[Operand.tmp 39, Operand.tmp 42], argTypes := #[33, 33] }, type := 33, pos := "more.go:18", after := #[{ on := 4, ground := Ground.data }, { on := 7, ground := Ground.data }, { on := 4, ground := Ground.chain }], guard := none }) rfl (fun K hK => ?_) ?_
            · refine step_app rowI (by rfl) (.tmp 39) (.tmp 42) (by rfl) U.heap.size q72 c73 ([] ++ []) none 0 [] 0 0 0 rfl rfl rfl (by rfl) (by rfl) (unhide f79) (unhide HSrc _ R77) (by unfold maxLen; omega) (by omega) (R77).size ?_
              intro q81 c82 w80 o83 b84 _ g85
              have R86 : Below U.heap.size U w80 := (R77).trans b84
              have f87 := hide (box_app (unhide f79) (unhide f78) g85)
              clear f78
              have f88 := hide o83
              clear o83 b84 g85 f79
              refine hK.out _ _ (trivial) (fun hHeld => ?_)
              clear hK K
              refine wpAnyH_ready (rs := [9]) (by kernel_rfl) (by simp) ?_
              refine AllReadyH.cons (o := { dst := some 44, op := Op.call { callee := Callee.value (Operand.func 19), args := #[Operand.tmp 43], argTypes := #[33] }, type := 27, pos := "more.go:18", after := #[{ on := 8, ground := Ground.data }, { on := 8, ground := Ground.chain }], guard := none }) rfl (fun K hK => ?_) ?_
              · go_simp
                refine (hc q81 c82 _).mono ?_
                rintro e w89 ⟨rfl, b90⟩
                have R91 : Below U.heap.size U w89 := below_sub R86 b90
                have f92 := hide (((b90).block _ (heap_lt (unhide f87))).trans (unhide f87))
                clear f87
                clear b90 f88
                refine hK.out _ _ (trivial) (fun hHeld => ?_)
                clear hK K
                refine wpAnyH_take (i := 10) (oi := { dst := some 34, op := Op.move (Operand.tmp 44), type := 27, pos := "more.go:18", after := #[{ on := 9, ground := Ground.data }], guard := none }) (v := ?_) rfl (by kernel_rfl) (by kernel_rfl) (by kernel_rfl) (fun _ _ _ h => h) (Or.inl ⟨by rfl, ?_⟩) (by assumption) ?_
                rotate_left
                · intro wq hSw
                  go_simp
                  with_reducible rfl
                simp only [Act.put, List.setIfInBounds_toArray, List.set_cons_zero, List.set_cons_succ]
                refine wpAnyH_take (i := 11) (oi := { dst := some 45, op := Op.extract (Operand.tmp 34) 0, type := 23, pos := "more.go:18", after := #[{ on := 10, ground := Ground.data }], guard := none }) (v := ?_) rfl (by kernel_rfl) (by kernel_rfl) (by kernel_rfl) (fun _ _ _ h => h) (Or.inl ⟨by rfl, ?_⟩) (by assumption) ?_
                rotate_left
                · intro wq hSw
                  go_simp
                  with_reducible rfl
                simp only [Act.put, List.setIfInBounds_toArray, List.set_cons_zero, List.set_cons_succ]
                refine wpAnyH_take (i := 12) (oi := { dst := some 46, op := Op.extract (Operand.tmp 34) 1, type := 4, pos := "more.go:18", after := #[{ on := 10, ground := Ground.data }, { on := 14, ground := Ground.gcOnly Departure.lateStores }], guard := none }) (v := ?_) rfl (by kernel_rfl) (by kernel_rfl) (by kernel_rfl) (fun _ _ _ h => h) (Or.inl ⟨by rfl, ?_⟩) (by assumption) ?_
                rotate_left
                · intro wq hSw
                  go_simp
                  with_reducible rfl
                simp only [Act.put, List.setIfInBounds_toArray, List.set_cons_zero, List.set_cons_succ]
                refine wpAnyH_ready (rs := [14]) (by kernel_rfl) (by simp) ?_
                refine AllReadyH.cons (o := { dst := none, op := Op.store 23 (Operand.tmp 8) (Operand.tmp 45), type := 0, pos := "more.go:18", after := #[{ on := 13, ground := Ground.data }, { on := 11, ground := Ground.data }, { on := 9, ground := Ground.chain }, { on := 0, ground := Ground.phase }, { on := 1, ground := Ground.phase }, { on := 2, ground := Ground.phase }, { on := 3, ground := Ground.phase }, { on := 4, ground := Ground.phase }, { on := 5, ground := Ground.phase }, { on := 6, ground := Ground.phase }, { on := 7, ground := Ground.phase }, { on := 8, ground := Ground.phase }, { on := 9, ground := Ground.phase }, { on := 10, ground := Ground.phase }, { on := 11, ground := Ground.phase }, { on := 12, ground := Ground.textOnly Departure.lateStores }, { on := 13, ground := Ground.phase }], guard := none }) rfl (fun K hK => ?_) ?_
                · obtain ⟨z93_0, z93_1⟩ := of2 (unhide f92)
                  have z93f : ∀ o, World.frozen? w89 ⟨V1.heap.size, o, none⟩ = false := fun o => frozen_free (unhide f92)
                  have z93l := heap_lt (unhide f92)
                  go_simp
                  refine hK.out _ _ (trivial) (fun hHeld => ?_)
                  clear hK K
                  refine wpAnyH_take (i := 15) (oi := { dst := some 9, op := Op.assign (Operand.tmp 46), type := 4, pos := "more.go:18", after := #[{ on := 12, ground := Ground.data }, { on := 14, ground := Ground.chain }, { on := 0, ground := Ground.phase }, { on := 1, ground := Ground.phase }, { on := 2, ground := Ground.phase }, { on := 3, ground := Ground.phase }, { on := 4, ground := Ground.phase }, { on := 5, ground := Ground.phase }, { on := 6, ground := Ground.phase }, { on := 7, ground := Ground.phase }, { on := 8, ground := Ground.phase }, { on := 9, ground := Ground.phase }, { on := 10, ground := Ground.phase }, { on := 11, ground := Ground.phase }, { on := 12, ground := Ground.phase }, { on := 13, ground := Ground.phase }, { on := 14, ground := Ground.phase }], guard := none }) (v := ?_) rfl (by kernel_rfl) (by kernel_rfl) (by kernel_rfl) (fun _ _ _ h => h) (Or.inl ⟨by rfl, ?_⟩) (by assumption) ?_
                  rotate_left
                  · intro wq hSw
                    go_simp
                    with_reducible rfl
                  simp only [Act.put, List.setIfInBounds_toArray, List.set_cons_zero, List.set_cons_succ]
                  refine wpAnyH_done (by kernel_rfl) ?_ _
                  go_wp2
                  go_meet
                  case rel =>
                    have y94g : U.heap.size ≤ V1.heap.size := (R2).size
                    refine ⟨V1.heap.size, rfl, rfl, One.put (of_blk (unhide f92)) 0 0, ((R91).setCell y94g _).setCell y94g _⟩
                exact AllReadyH.nil
              exact AllReadyH.nil
            exact AllReadyH.nil
          exact AllReadyH.nil
        exact AllReadyH.nil
      refine AllReadyH.cons (o := { dst := some 8, op := Op.alloc 23, type := 0, pos := "more.go:18", after := #[], guard := none }) rfl (fun K hK => ?_) ?_
      · go_simp
        refine hK.out _ _ (trivial) (fun hHeld => ?_)
        clear hK K
        obtain ⟨V95, h97⟩ : ∃ V95, (World.alloc U (.cells #[.int .i64 0, .int .i64 0] 23)).drew = V95 := ⟨_, rfl⟩
        rw [h97]
        have R96 : Below U.heap.size U V95 := by rw [← h97]; exact (show Below U.heap.size U (World.alloc U.drew (.cells #[.int .i64 0, .int .i64 0] 23)) from (R0).alloc (R0).size _)
        have b98 : Below U.drew.heap.size U.drew V95 := by rw [← h97]; exact (show Below U.drew.heap.size U.drew (World.alloc U.drew (.cells #[.int .i64 0, .int .i64 0] 23)) from (Below.refl _ _).alloc (Nat.le_refl _) _)
        have f99 := hide (show V95.heap[U.heap.size]? = some (.cells #[.int .i64 0, .int .i64 0] 23 (0, 0)) by rw [← h97]; exact box_nw _ _)
        clear h97 b98
        refine wpAnyH_ready (rs := [0]) (by kernel_rfl) (by simp) ?_
        refine AllReadyH.cons (o := { dst := some 35, op := Op.buildSlice 33 0 #[], type := 33, pos := "more.go:18", after := #[], guard := none }) rfl (fun K hK => ?_) ?_
        · go_simp
          refine hK.out _ _ (trivial) (fun hHeld => ?_)
          clear hK K
          obtain ⟨V100, h102⟩ : ∃ V100, World.alloc V95 (.cells #[] 3) = V100 := ⟨_, rfl⟩
          rw [h102]
          have R101 : Below U.heap.size U V100 := by rw [← h102]; exact (show Below U.heap.size U (World.alloc V95 (.cells #[] 3)) from (R96).alloc (R96).size _)
          have b103 : Below V95.heap.size V95 V100 := by rw [← h102]; exact (show Below V95.heap.size V95 (World.alloc V95 (.cells #[] 3)) from (Below.refl _ _).alloc (Nat.le_refl _) _)
          have f104 := hide (((b103).block _ (heap_lt (unhide f99))).trans (unhide f99))
          clear f99
          have f105 := hide (show OwnK encI 3 1 U.heap.size V100 (some ⟨V95.heap.size, 0, none⟩) 0 [] by rw [← h102]; exact (show OwnK encI 3 1 U.heap.size (World.alloc V95 (.cells #[] 3)) (some ⟨V95.heap.size, 0, none⟩) 0 [] from OwnK.made _ _ (R96).size))
          clear h102 b103
          refine wpAnyH_ready (rs := [4]) (by kernel_rfl) (by simp) ?_
          refine AllReadyH.cons (o := { dst := some 39, op := Op.call { callee := Callee.builtin Builtin.append, args := #[Operand.tmp 35, Operand.tmp 38], argTypes := #[33, 33] }, type := 33, pos := "more.go:18", after := #[{ on := 0, ground := Ground.data }, { on := 3, ground := Ground.data }], guard := none }) rfl (fun K hK => ?_) ?_
          · refine step_app rowI (by rfl) (.tmp 35) (.tmp 38) (by rfl) U.heap.size (some ⟨V95.heap.size, 0, none⟩) 0 [] none 0 [] 0 0 0 rfl rfl rfl (by rfl) (by rfl) (unhide f105) (unhide HSrc _ R101) (by unfold maxLen; omega) (by omega) (R101).size ?_
            intro q107 c108 w106 o109 b110 _ g111
            have R112 : Below U.heap.size U w106 := (R101).trans b110
            have f113 := hide (box_app (unhide f105) (unhide f104) g111)
            clear f104
            have f114 := hide o109
            clear o109 b110 g111 f105
            refine hK.out _ _ (trivial) (fun hHeld => ?_)
            clear hK K
            refine wpAnyH_ready (rs := [8]) (by kernel_rfl) (by simp) ?_
            refine AllReadyH.cons (o := { dst := some 43, op := Op.call { callee := Callee.builtin Builtin.append, args := #[Operand.tmp 39, Operand.tmp 42], argTypes := #[33, 33] }, type := 33, pos := "more.go:18", after := #[{ on := 4, ground := Ground.data }, { on := 7, ground := Ground.data }, { on := 4, ground := Ground.chain }], guard := none }) rfl (fun K hK => ?_) ?_
            · refine step_app rowI (by rfl) (.tmp 39) (.tmp 42) (by rfl) U.heap.size q107 c108 ([] ++ []) none 0 [] 0 0 0 rfl rfl rfl (by rfl) (by rfl) (unhide f114) (unhide HSrc _ R112) (by unfold maxLen; omega) (by omega) (R112).size ?_
              intro q116 c117 w115 o118 b119 _ g120
              have R121 : Below U.heap.size U w115 := (R112).trans b119
              have f122 := hide (box_app (unhide f114) (unhide f113) g120)
              clear f113
              have f123 := hide o118
              clear o118 b119 g120 f114
              refine hK.out _ _ (trivial) (fun hHeld => ?_)
              clear hK K
              refine wpAnyH_ready (rs := [9]) (by kernel_rfl) (by simp) ?_
              refine AllReadyH.cons (o := { dst := some 44, op := Op.call { callee := Callee.value (Operand.func 19), args := #[Operand.tmp 43], argTypes := #[33] }, type := 27, pos := "more.go:18", after := #[{ on := 8, ground := Ground.data }, { on := 8, ground := Ground.chain }], guard := none }) rfl (fun K hK => ?_) ?_
              · go_simp
                refine (hc q116 c117 _).mono ?_
                rintro e w124 ⟨rfl, b125⟩
                have R126 : Below U.heap.size U w124 := below_sub R121 b125
                have f127 := hide (((b125).block _ (heap_lt (unhide f122))).trans (unhide f122))
                clear f122
                clear b125 f123
                refine hK.out _ _ (trivial) (fun hHeld => ?_)
                clear hK K
                refine wpAnyH_take (i := 10) (oi := { dst := some 34, op := Op.move (Operand.tmp 44), type := 27, pos := "more.go:18", after := #[{ on := 9, ground := Ground.data }], guard := none }) (v := ?_) rfl (by kernel_rfl) (by kernel_rfl) (by kernel_rfl) (fun _ _ _ h => h) (Or.inl ⟨by rfl, ?_⟩) (by assumption) ?_
                rotate_left
                · intro wq hSw
                  go_simp
                  with_reducible rfl
                simp only [Act.put, List.setIfInBounds_toArray, List.set_cons_zero, List.set_cons_succ]
                refine wpAnyH_take (i := 11) (oi := { dst := some 45, op := Op.extract (Operand.tmp 34) 0, type := 23, pos := "more.go:18", after := #[{ on := 10, ground := Ground.data }], guard := none }) (v := ?_) rfl (by kernel_rfl) (by kernel_rfl) (by kernel_rfl) (fun _ _ _ h => h) (Or.inl ⟨by rfl, ?_⟩) (by assumption) ?_
                rotate_left
                · intro wq hSw
                  go_simp
                  with_reducible rfl
                simp only [Act.put, List.setIfInBounds_toArray, List.set_cons_zero, List.set_cons_succ]
                refine wpAnyH_take (i := 12) (oi := { dst := some 46, op := Op.extract (Operand.tmp 34) 1, type := 4, pos := "more.go:18", after := #[{ on := 10, ground := Ground.data }, { on := 14, ground := Ground.gcOnly Departure.lateStores }], guard := none }) (v := ?_) rfl (by kernel_rfl) (by kernel_rfl) (by kernel_rfl) (fun _ _ _ h => h) (Or.inl ⟨by rfl, ?_⟩) (by assumption) ?_
                rotate_left
                · intro wq hSw
                  go_simp
                  with_reducible rfl
                simp only [Act.put, List.setIfInBounds_toArray, List.set_cons_zero, List.set_cons_succ]
                refine wpAnyH_ready (rs := [14]) (by kernel_rfl) (by simp) ?_
                refine AllReadyH.cons (o := { dst := none, op := Op.store 23 (Operand.tmp 8) (Operand.tmp 45), type := 0, pos := "more.go:18", after := #[{ on := 13, ground := Ground.data }, { on := 11, ground := Ground.data }, { on := 9, ground := Ground.chain }, { on := 0, ground := Ground.phase }, { on := 1, ground := Ground.phase }, { on := 2, ground := Ground.phase }, { on := 3, ground := Ground.phase }, { on := 4, ground := Ground.phase }, { on := 5, ground := Ground.phase }, { on := 6, ground := Ground.phase }, { on := 7, ground := Ground.phase }, { on := 8, ground := Ground.phase }, { on := 9, ground := Ground.phase }, { on := 10, ground := Ground.phase }, { on := 11, ground := Ground.phase }, { on := 12, ground := Ground.textOnly Departure.lateStores }, { on := 13, ground := Ground.phase }], guard := none }) rfl (fun K hK => ?_) ?_
                · obtain ⟨z128_0, z128_1⟩ := of2 (unhide f127)
                  have z128f : ∀ o, World.frozen? w124 ⟨U.heap.size, o, none⟩ = false := fun o => frozen_free (unhide f127)
                  have z128l := heap_lt (unhide f127)
                  go_simp
                  refine hK.out _ _ (trivial) (fun hHeld => ?_)
                  clear hK K
                  refine wpAnyH_take (i := 15) (oi := { dst := some 9, op := Op.assign (Operand.tmp 46), type := 4, pos := "more.go:18", after := #[{ on := 12, ground := Ground.data }, { on := 14, ground := Ground.chain }, { on := 0, ground := Ground.phase }, { on := 1, ground := Ground.phase }, { on := 2, ground := Ground.phase }, { on := 3, ground := Ground.phase }, { on := 4, ground := Ground.phase }, { on := 5, ground := Ground.phase }, { on := 6, ground := Ground.phase }, { on := 7, ground := Ground.phase }, { on := 8, ground := Ground.phase }, { on := 9, ground := Ground.phase }, { on := 10, ground := Ground.phase }, { on := 11, ground := Ground.phase }, { on := 12, ground := Ground.phase }, { on := 13, ground := Ground.phase }, { on := 14, ground := Ground.phase }], guard := none }) (v := ?_) rfl (by kernel_rfl) (by kernel_rfl) (by kernel_rfl) (fun _ _ _ h => h) (Or.inl ⟨by rfl, ?_⟩) (by assumption) ?_
                  rotate_left
                  · intro wq hSw
                    go_simp
                    with_reducible rfl
                  simp only [Act.put, List.setIfInBounds_toArray, List.set_cons_zero, List.set_cons_succ]
                  refine wpAnyH_done (by kernel_rfl) ?_ _
                  go_wp2
                  go_meet
                  case rel =>
                    have y129g : U.heap.size ≤ U.heap.size := (R0).size
                    refine ⟨U.heap.size, rfl, rfl, One.put (of_blk (unhide f127)) 0 0, ((R126).setCell y129g _).setCell y129g _⟩
                exact AllReadyH.nil
              exact AllReadyH.nil
            exact AllReadyH.nil
          exact AllReadyH.nil
        exact AllReadyH.nil
      exact AllReadyH.nil
    case rest =>
      obtain ⟨N8, rfl, rfl, h8, hUV⟩ := hcut
      obtain ⟨a0, a1, _, a3⟩ := (unhide OS).below hUV
      obtain ⟨d0, d1, _, d3⟩ := h8
      have HUV := hide hUV
      clear hUV
      go_wp2
      go_loopw [10, 60] (fun gd i wr => gd = .bool false ∧ i = .int .i64 0 ∧ wr = wc) (fun _ _ _ => 0)
      case atStart => exact ⟨rfl, rfl, rfl⟩
      case round =>
        obtain ⟨rfl, rfl, rfl⟩ := hrel
        go_wp2
        go_ret
        exact ⟨rfl, below_sub (unhide BU) (unhide HUV)⟩
  | some ad =>
    clear hq
    go_enter Tryd.func8, Tryd.ntmps8
    go_wp2_with (first
      | (go_at_call 9; refine (hfix _ (unhide HG)).mono ?_; rintro e w1 ⟨rfl, b1⟩; have B1 := hide b1; clear b1)
      | (go_at_call 19; refine (hc _ _ _).mono ?_; rintro e w2 ⟨rfl, b2⟩; have B2 := hide (below_sub (unhide B1) b2); clear b2))
    obtain ⟨U, HU⟩ : ∃ U, w2.alloc (.cells #[.int .i64 0, .int .i64 0] 23) = U := ⟨_, rfl⟩
    have OS := hide (show One U w2.heap.size 0 0 by rw [← HU]; exact One.new _ _ _)
    have BU := hide (show Below w.heap.size w U by rw [← HU]; exact (unhide B2).alloc (unhide B2).size _)
    rw [HU]
    obtain ⟨Ns, hNs⟩ : ∃ Ns, w2.heap.size = Ns := ⟨_, rfl⟩
    rw [hNs] at OS
    rw [hNs]
    clear hNs HU B1 B2 hfix HG
    have HSrc := hide (fun (V : World) (_ : Below U.heap.size U V) => (show SrcK encI 1 V (some ad) cap [] from LsOf.src (fun h => by first | exact ⟨rfl, rfl⟩ | cases h) (LsOf.nil _ _)))
    go_cut [8, 9] from 34 (fun s8 s9 V => ∃ N8 : Nat, s8 = .pointer (some ⟨N8, 0, none⟩) ∧ s9 = .bool false ∧ One V N8 0 0 ∧ Below U.heap.size U V)
    case first =>
      have R0 : Below U.heap.size U U.drew := (Below.refl _ _).drew
      refine wp_region_held_drew (S := fun w' => True) (by kernel_rfl) (trivial) (fun hHeld => ?_)
      refine wpAnyH_take (i := 1) (oi := { dst := some 36, op := Op.move (Operand.tmp 0), type := 33, pos := "more.go:18", after := #[], guard := none }) (v := ?_) rfl (by kernel_rfl) (by kernel_rfl) (by kernel_rfl) (fun _ _ _ h => h) (Or.inl ⟨by rfl, ?_⟩) (by assumption) ?_
      rotate_left
      · intro wq hSw
        go_simp
        with_reducible rfl
      simp only [Act.put, List.setIfInBounds_toArray, List.set_cons_zero, List.set_cons_succ]
      refine wpAnyH_take (i := 2) (oi := { dst := some 37, op := Op.move (Operand.tmp 7), type := 3, pos := "more.go:18", after := #[], guard := none }) (v := ?_) rfl (by kernel_rfl) (by kernel_rfl) (by kernel_rfl) (fun _ _ _ h => h) (Or.inl ⟨by rfl, ?_⟩) (by assumption) ?_
      rotate_left
      · intro wq hSw
        go_simp
        with_reducible rfl
      simp only [Act.put, List.setIfInBounds_toArray, List.set_cons_zero, List.set_cons_succ]
      refine wpAnyH_take (i := 3) (oi := { dst := some 38, op := Op.slice 33 (Operand.tmp 36) (some (Operand.tmp 37)) none none, type := 33, pos := "more.go:18", after := #[{ on := 1, ground := Ground.data }, { on := 2, ground := Ground.data }], guard := none }) (v := ?_) rfl (by kernel_rfl) (by kernel_rfl) (by kernel_rfl) (fun _ _ _ h => h) (Or.inl ⟨by rfl, ?_⟩) (by assumption) ?_
      rotate_left
      · intro wq hSw
        go_simp
        with_reducible rfl
      simp only [Act.put, List.setIfInBounds_toArray, List.set_cons_zero, List.set_cons_succ]
      refine wpAnyH_take (i := 5) (oi := { dst := some 40, op := Op.move (Operand.tmp 0), type := 33, pos := "more.go:18", after := #[], guard := none }) (v := ?_) rfl (by kernel_rfl) (by kernel_rfl) (by kernel_rfl) (fun _ _ _ h => h) (Or.inl ⟨by rfl, ?_⟩) (by assumption) ?_
      rotate_left
      · intro wq hSw
        go_simp
        with_reducible rfl
      simp only [Act.put, List.setIfInBounds_toArray, List.set_cons_zero, List.set_cons_succ]
      refine wpAnyH_take (i := 6) (oi := { dst := some 41, op := Op.move (Operand.tmp 7), type := 3, pos := "more.go:18", after := #[], guard := none }) (v := ?_) rfl (by kernel_rfl) (by kernel_rfl) (by kernel_rfl) (fun _ _ _ h => h) (Or.inl ⟨by rfl, ?_⟩) (by assumption) ?_
      rotate_left
      · intro wq hSw
        go_simp
        with_reducible rfl
      simp only [Act.put, List.setIfInBounds_toArray, List.set_cons_zero, List.set_cons_succ]
      refine wpAnyH_take (i := 7) (oi := { dst := some 42, op := Op.slice 33 (Operand.tmp 40) none (some (Operand.tmp 41)) none, type := 33, pos := "more.go:18", after := #[{ on := 5, ground := Ground.data }, { on := 6, ground := Ground.data }], guard := none }) (v := ?_) rfl (by kernel_rfl) (by kernel_rfl) (by kernel_rfl) (fun _ _ _ h => h) (Or.inl ⟨by rfl, ?_⟩) (by assumption) ?_
      rotate_left
      · intro wq hSw
        go_simp
        with_reducible rfl
      simp only [Act.put, List.setIfInBounds_toArray, List.set_cons_zero, List.set_cons_succ]
      refine wpAnyH_ready (rs := [0, 13]) (by kernel_rfl) (by simp) ?_
      refine AllReadyH.cons (o := { dst := some 35, op := Op.buildSlice 33 0 #[], type := 33, pos := "more.go:18", after := #[], guard := none }) rfl (fun K hK => ?_) ?_
      · go_simp
        refine hK.out _ _ (trivial) (fun hHeld => ?_)
        clear hK K
        obtain ⟨V130, h132⟩ : ∃ V130, (World.alloc U (.cells #[] 3)).drew = V130 := ⟨_, rfl⟩
        rw [h132]
        have R131 : Below U.heap.size U V130 := by rw [← h132]; exact (show Below U.heap.size U (World.alloc U.drew (.cells #[] 3)) from (R0).alloc (R0).size _)
        have b133 : Below U.drew.heap.size U.drew V130 := by rw [← h132]; exact (show Below U.drew.heap.size U.drew (World.alloc U.drew (.cells #[] 3)) from (Below.refl _ _).alloc (Nat.le_refl _) _)
        have f134 := hide (show OwnK encI 3 1 U.heap.size V130 (some ⟨U.heap.size, 0, none⟩) 0 [] by rw [← h132]; exact (show OwnK encI 3 1 U.heap.size (World.alloc U.drew (.cells #[] 3)) (some ⟨U.heap.size, 0, none⟩) 0 [] from OwnK.made _ _ (R0).size))
        clear h132 b133
        refine wpAnyH_ready (rs := [4, 13]) (by kernel_rfl) (by simp) ?_
        refine AllReadyH.cons (o := { dst := some 39, op := Op.call { callee := Callee.builtin Builtin.append, args := #[Operand.tmp 35, Operand.tmp 38], argTypes := #[33, 33] }, type := 33, pos := "more.go:18", after := #[{ on := 0, ground := Ground.data }, { on := 3, ground := Ground.data }], guard := none }) rfl (fun K hK => ?_) ?_
        · refine step_app rowI (by rfl) (.tmp 35) (.tmp 38) (by rfl) U.heap.size (some ⟨U.heap.size, 0, none⟩) 0 [] (some ad) cap [] 0 0 0 rfl rfl rfl (by rfl) (by rfl) (unhide f134) (unhide HSrc _ R131) (by unfold maxLen; omega) (by omega) (R131).size ?_
          intro q136 c137 w135 o138 b139 _ g140
          have R141 : Below U.heap.size U w135 := (R131).trans b139
          have f142 := hide o138
          clear o138 b139 g140 f134
          refine hK.out _ _ (trivial) (fun hHeld => ?_)
          clear hK K
          refine wpAnyH_ready (rs := [8, 13]) (by kernel_rfl) (by simp) ?_
          refine AllReadyH.cons (o := { dst := some 43, op := Op.call { callee := Callee.builtin Builtin.append, args := #[Operand.tmp 39, Operand.tmp 42], argTypes := #[33, 33] }, type := 33, pos := "more.go:18", after := #[{ on := 4, ground := Ground.data }, { on := 7, ground := Ground.data }, { on := 4, ground := Ground.chain }], guard := none }) rfl (fun K hK => ?_) ?_
          · refine step_app rowI (by rfl) (.tmp 39) (.tmp 42) (by rfl) U.heap.size q136 c137 ([] ++ []) (some ad) cap [] 0 0 0 rfl rfl rfl (by rfl) (by rfl) (unhide f142) (unhide HSrc _ R141) (by unfold maxLen; omega) (by omega) (R141).size ?_
            intro q144 c145 w143 o146 b147 _ g148
            have R149 : Below U.heap.size U w143 := (R141).trans b147
            have f150 := hide o146
            clear o146 b147 g148 f142
            refine hK.out _ _ (trivial) (fun hHeld => ?_)
            clear hK K
            refine wpAnyH_ready (rs := [9, 13]) (by kernel_rfl) (by simp) ?_
            refine AllReadyH.cons (o := { dst := some 44, op := Op.call { callee := Callee.value (Operand.func 19), args := #[Operand.tmp 43], argTypes := #[33] }, type := 27, pos := "more.go:18", after := #[{ on := 8, ground := Ground.data }, { on := 8, ground := Ground.chain }], guard := none }) rfl (fun K hK => ?_) ?_
            · go_simp
              refine (hc q144 c145 _).mono ?_
              rintro e w151 ⟨rfl, b152⟩
              have R153 : Below U.heap.size U w151 := below_sub R149 b152
              clear b152 f150
              refine hK.out _ _ (trivial) (fun hHeld => ?_)
              clear hK K
              refine wpAnyH_take (i := 10) (oi := { dst := some 34, op := Op.move (Operand.tmp 44), type := 27, pos := "more.go:18", after := #[{ on := 9, ground := Ground.data }], guard := none }) (v := ?_) rfl (by kernel_rfl) (by kernel_rfl) (by kernel_rfl) (fun _ _ _ h => h) (Or.inl ⟨by rfl, ?_⟩) (by assumption) ?_
              rotate_left
              · intro wq hSw
                go_simp
                with_reducible rfl
              simp only [Act.put, List.setIfInBounds_toArray, List.set_cons_zero, List.set_cons_succ]
              refine wpAnyH_take (i := 11) (oi := { dst := some 45, op := Op.extract (Operand.tmp 34) 0, type := 23, pos := "more.go:18", after := #[{ on := 10, ground := Ground.data }], guard := none }) (v := ?_) rfl (by kernel_rfl) (by kernel_rfl) (by kernel_rfl) (fun _ _ _ h => h) (Or.inl ⟨by rfl, ?_⟩) (by assumption) ?_
              rotate_left
              · intro wq hSw
                go_simp
                with_reducible rfl
              simp only [Act.put, List.setIfInBounds_toArray, List.set_cons_zero, List.set_cons_succ]
              refine wpAnyH_take (i := 12) (oi := { dst := some 46, op := Op.extract (Operand.tmp 34) 1, type := 4, pos := "more.go:18", after := #[{ on := 10, ground := Ground.data }, { on := 14, ground := Ground.gcOnly Departure.lateStores }], guard := none }) (v := ?_) rfl (by kernel_rfl) (by kernel_rfl) (by kernel_rfl) (fun _ _ _ h => h) (Or.inl ⟨by rfl, ?_⟩) (by assumption) ?_
              rotate_left
              · intro wq hSw
                go_simp
                with_reducible rfl
              simp only [Act.put, List.setIfInBounds_toArray, List.set_cons_zero, List.set_cons_succ]
              refine wpAnyH_ready (rs := [13]) (by kernel_rfl) (by simp) ?_
              refine AllReadyH.cons (o := { dst := some 8, op := Op.alloc 23, type := 0, pos := "more.go:18", after := #[], guard := none }) rfl (fun K hK => ?_) ?_
              · go_simp
                refine hK.out _ _ (trivial) (fun hHeld => ?_)
                clear hK K
                obtain ⟨V154, h156⟩ : ∃ V154, World.alloc w151 (.cells #[.int .i64 0, .int .i64 0] 23) = V154 := ⟨_, rfl⟩
                rw [h156]
                have R155 : Below U.heap.size U V154 := by rw [← h156]; exact (show Below U.heap.size U (World.alloc w151 (.cells #[.int .i64 0, .int .i64 0] 23)) from (R153).alloc (R153).size _)
                have b157 : Below w151.heap.size w151 V154 := by rw [← h156]; exact (show Below w151.heap.size w151 (World.alloc w151 (.cells #[.int .i64 0, .int .i64 0] 23)) from (Below.refl _ _).alloc (Nat.le_refl _) _)
                have f158 := hide (show V154.heap[w151.heap.size]? = some (.cells #[.int .i64 0, .int .i64 0] 23 (0, 0)) by rw [← h156]; exact box_nw _ _)
                clear h156 b157
                refine wpAnyH_ready (rs := [14]) (by kernel_rfl) (by simp) ?_
                refine AllReadyH.cons (o := { dst := none, op := Op.store 23 (Operand.tmp 8) (Operand.tmp 45), type := 0, pos := "more.go:18", after := #[{ on := 13, ground := Ground.data }, { on := 11, ground := Ground.data }, { on := 9, ground := Ground.chain }, { on := 0, ground := Ground.phase }, { on := 1, ground := Ground.phase }, { on := 2, ground := Ground.phase }, { on := 3, ground := Ground.phase }, { on := 4, ground := Ground.phase }, { on := 5, ground := Ground.phase }, { on := 6, ground := Ground.phase }, { on := 7, ground := Ground.phase }, { on := 8, ground := Ground.phase }, { on := 9, ground := Ground.phase }, { on := 10, ground := Ground.phase }, { on := 11, ground := Ground.phase }, { on := 12, ground := Ground.textOnly Departure.lateStores }, { on := 13, ground := Ground.phase }], guard := none }) rfl (fun K hK => ?_) ?_
                · obtain ⟨z159_0, z159_1⟩ := of2 (unhide f158)
                  have z159f : ∀ o, World.frozen? V154 ⟨w151.heap.size, o, none⟩ = false := fun o => frozen_free (unhide f158)
                  have z159l := heap_lt (unhide f158)
                  go_simp
                  refine hK.out _ _ (trivial) (fun hHeld => ?_)
                  clear hK K
                  refine wpAnyH_take (i := 15) (oi := { dst := some 9, op := Op.assign (Operand.tmp 46), type := 4, pos := "more.go:18", after := #[{ on := 12, ground := Ground.data }, { on := 14, ground := Ground.chain }, { on := 0, ground := Ground.phase }, { on := 1, ground := Ground.phase }, { on := 2, ground := Ground.phase }, { on := 3, ground := Ground.phase }, { on := 4, ground := Ground.phase }, { on := 5, ground := Ground.phase }, { on := 6, ground := Ground.phase }, { on := 7, ground := Ground.phase }, { on := 8, ground := Ground.phase }, { on := 9, ground := Ground.phase }, { on := 10, ground := Ground.phase }, { on := 11, ground := Ground.phase }, { on := 12, ground := Ground.phase }, { on := 13, ground := Ground.phase }, { on := 14, ground := Ground.phase }], guard := none }) (v := ?_) rfl (by kernel_rfl) (by kernel_rfl) (by kernel_rfl) (fun _ _ _ h => h) (Or.inl ⟨by rfl, ?_⟩) (by assumption) ?_
                  rotate_left
                  · intro wq hSw
                    go_simp
                    with_reducible rfl
                  simp only [Act.put, List.setIfInBounds_toArray, List.set_cons_zero, List.set_cons_succ]
                  refine wpAnyH_done (by kernel_rfl) ?_ _
                  go_wp2
                  go_meet
                  case rel =>
                    have y160g : U.heap.size ≤ w151.heap.size := (R153).size
                    refine ⟨w151.heap.size, rfl, rfl, One.put (of_blk (unhide f158)) 0 0, ((R155).setCell y160g _).setCell y160g _⟩
                exact AllReadyH.nil
              exact AllReadyH.nil
            refine AllReadyH.cons (o := { dst := some 8, op := Op.alloc 23, type := 0, pos := "more.go:18", after := #[], guard := none }) rfl (fun K hK => ?_) ?_
            · go_simp
              refine hK.out _ _ (trivial) (fun hHeld => ?_)
              clear hK K
              obtain ⟨V161, h163⟩ : ∃ V161, World.alloc w143 (.cells #[.int .i64 0, .int .i64 0] 23) = V161 := ⟨_, rfl⟩
              rw [h163]
              have R162 : Below U.heap.size U V161 := by rw [← h163]; exact (show Below U.heap.size U (World.alloc w143 (.cells #[.int .i64 0, .int .i64 0] 23)) from (R149).alloc (R149).size _)
              have b164 : Below w143.heap.size w143 V161 := by rw [← h163]; exact (show Below w143.heap.size w143 (World.alloc w143 (.cells #[.int .i64 0, .int .i64 0] 23)) from (Below.refl _ _).alloc (Nat.le_refl _) _)
              have f165 := hide ((unhide f150).below b164)
              clear f150
              have f166 := hide (show V161.heap[w143.heap.size]? = some (.cells #[.int .i64 0, .int .i64 0] 23 (0, 0)) by rw [← h163]; exact box_nw _ _)
              clear h163 b164
              refine wpAnyH_ready (rs := [9]) (by kernel_rfl) (by simp) ?_
              refine AllReadyH.cons (o := { dst := some 44, op := Op.call { callee := Callee.value (Operand.func 19), args := #[Operand.tmp 43], argTypes := #[33] }, type := 27, pos := "more.go:18", after := #[{ on := 8, ground := Ground.data }, { on := 8, ground := Ground.chain }], guard := none }) rfl (fun K hK => ?_) ?_
              · go_simp
                refine (hc q144 c145 _).mono ?_
                rintro e w167 ⟨rfl, b168⟩
                have R169 : Below U.heap.size U w167 := below_sub R162 b168
                have f170 := hide (((b168).block _ (heap_lt (unhide f166))).trans (unhide f166))
                clear f166
                clear b168 f165
                refine hK.out _ _ (trivial) (fun hHeld => ?_)
                clear hK K
                refine wpAnyH_take (i := 10) (oi := { dst := some 34, op := Op.move (Operand.tmp 44), type := 27, pos := "more.go:18", after := #[{ on := 9, ground := Ground.data }], guard := none }) (v := ?_) rfl (by kernel_rfl) (by kernel_rfl) (by kernel_rfl) (fun _ _ _ h => h) (Or.inl ⟨by rfl, ?_⟩) (by assumption) ?_
                rotate_left
                · intro wq hSw
                  go_simp
                  with_reducible rfl
                simp only [Act.put, List.setIfInBounds_toArray, List.set_cons_zero, List.set_cons_succ]
                refine wpAnyH_take (i := 11) (oi := { dst := some 45, op := Op.extract (Operand.tmp 34) 0, type := 23, pos := "more.go:18", after := #[{ on := 10, ground := Ground.data }], guard := none }) (v := ?_) rfl (by kernel_rfl) (by kernel_rfl) (by kernel_rfl) (fun _ _ _ h => h) (Or.inl ⟨by rfl, ?_⟩) (by assumption) ?_
                rotate_left
                · intro wq hSw
                  go_simp
                  with_reducible rfl
                simp only [Act.put, List.setIfInBounds_toArray, List.set_cons_zero, List.set_cons_succ]
                refine wpAnyH_take (i := 12) (oi := { dst := some 46, op := Op.extract (Operand.tmp 34) 1, type := 4, pos := "more.go:18", after := #[{ on := 10, ground := Ground.data }, { on := 14, ground := Ground.gcOnly Departure.lateStores }], guard := none }) (v := ?_) rfl (by kernel_rfl) (by kernel_rfl) (by kernel_rfl) (fun _ _ _ h => h) (Or.inl ⟨by rfl, ?_⟩) (by assumption) ?_
                rotate_left
                · intro wq hSw
                  go_simp
                  with_reducible rfl
                simp only [Act.put, List.setIfInBounds_toArray, List.set_cons_zero, List.set_cons_succ]
                refine wpAnyH_ready (rs := [14]) (by kernel_rfl) (by simp) ?_
                refine AllReadyH.cons (o := { dst := none, op := Op.store 23 (Operand.tmp 8) (Operand.tmp 45), type := 0, pos := "more.go:18", after := #[{ on := 13, ground := Ground.data }, { on := 11, ground := Ground.data }, { on := 9, ground := Ground.chain }, { on := 0, ground := Ground.phase }, { on := 1, ground := Ground.phase }, { on := 2, ground := Ground.phase }, { on := 3, ground := Ground.phase }, { on := 4, ground := Ground.phase }, { on := 5, ground := Ground.phase }, { on := 6, ground := Ground.phase }, { on := 7, ground := Ground.phase }, { on := 8, ground := Ground.phase }, { on := 9, ground := Ground.phase }, { on := 10, ground := Ground.phase }, { on := 11, ground := Ground.phase }, { on := 12, ground := Ground.textOnly Departure.lateStores }, { on := 13, ground := Ground.phase }], guard := none }) rfl (fun K hK => ?_) ?_
                · obtain ⟨z171_0, z171_1⟩ := of2 (unhide f170)
                  have z171f : ∀ o, World.frozen? w167 ⟨w143.heap.size, o, none⟩ = false := fun o => frozen_free (unhide f170)
                  have z171l := heap_lt (unhide f170)
                  go_simp
                  refine hK.out _ _ (trivial) (fun hHeld => ?_)
                  clear hK K
                  refine wpAnyH_take (i := 15) (oi := { dst := some 9, op := Op.assign (Operand.tmp 46), type := 4, pos := "more.go:18", after := #[{ on := 12, ground := Ground.data }, { on := 14, ground := Ground.chain }, { on := 0, ground := Ground.phase }, { on := 1, ground := Ground.phase }, { on := 2, ground := Ground.phase }, { on := 3, ground := Ground.phase }, { on := 4, ground := Ground.phase }, { on := 5, ground := Ground.phase }, { on := 6, ground := Ground.phase }, { on := 7, ground := Ground.phase }, { on := 8, ground := Ground.phase }, { on := 9, ground := Ground.phase }, { on := 10, ground := Ground.phase }, { on := 11, ground := Ground.phase }, { on := 12, ground := Ground.phase }, { on := 13, ground := Ground.phase }, { on := 14, ground := Ground.phase }], guard := none }) (v := ?_) rfl (by kernel_rfl) (by kernel_rfl) (by kernel_rfl) (fun _ _ _ h => h) (Or.inl ⟨by rfl, ?_⟩) (by assumption) ?_
                  rotate_left
                  · intro wq hSw
                    go_simp
                    with_reducible rfl
                  simp only [Act.put, List.setIfInBounds_toArray, List.set_cons_zero, List.set_cons_succ]
                  refine wpAnyH_done (by kernel_rfl) ?_ _
                  go_wp2
                  go_meet
                  case rel =>
                    have y172g : U.heap.size ≤ w143.heap.size := (R149).size
                    refine ⟨w143.heap.size, rfl, rfl, One.put (of_blk (unhide f170)) 0 0, ((R169).setCell y172g _).setCell y172g _⟩
                exact AllReadyH.nil
              exact AllReadyH.nil
            exact AllReadyH.nil
          refine AllReadyH.cons (o := { dst := some 8, op := Op.alloc 23, type := 0, pos := "more.go:18", after := #[], guard := none }) rfl (fun K hK => ?_) ?_
          · go_simp
            refine hK.out _ _ (trivial) (fun hHeld => ?_)
            clear hK K
            obtain ⟨V173, h175⟩ : ∃ V173, World.alloc w135 (.cells #[.int .i64 0, .int .i64 0] 23) = V173 := ⟨_, rfl⟩
            rw [h175]
            have R174 : Below U.heap.size U V173 := by rw [← h175]; exact (show Below U.heap.size U (World.alloc w135 (.cells #[.int .i64 0, .int .i64 0] 23)) from (R141).alloc (R141).size _)
            have b176 : Below w135.heap.size w135 V173 := by rw [← h175]; exact (show Below w135.heap.size w135 (World.alloc w135 (.cells #[.int .i64 0, .int .i64 0] 23)) from (Below.refl _ _).alloc (Nat.le_refl _) _)
            have f177 := hide ((unhide f142).below b176)
            clear f142
            have f178 := hide (show V173.heap[w135.heap.size]? = some (.cells #[.int .i64 0, .int .i64 0] 23 (0, 0)) by rw [← h175]; exact box_nw _ _)
            clear h175 b176
            refine wpAnyH_ready (rs := [8]) (by kernel_rfl) (by simp) ?_
            refine AllReadyH.cons (o := { dst := some 43, op := Op.call { callee := Callee.builtin Builtin.append, args := #[Operand.tmp 39, Operand.tmp 42], argTypes := #[33, 33] }, type := 33, pos := "more.go:18", after := #[{ on := 4, ground := Ground.data }, { on := 7, ground := Ground.data }, { on := 4, ground := Ground.chain }], guard := none }) rfl (fun K hK => ?_) ?_
            · refine step_app rowI (by rfl) (.tmp 39) (.tmp 42) (by rfl) U.heap.size q136 c137 ([] ++ []) (some ad) cap [] 0 0 0 rfl rfl rfl (by rfl) (by rfl) (unhide f177) (unhide HSrc _ R174) (by unfold maxLen; omega) (by omega) (R174).size ?_
              intro q180 c181 w179 o182 b183 _ g184
              have R185 : Below U.heap.size U w179 := (R174).trans b183
              have f186 := hide (box_app (unhide f177) (unhide f178) g184)
              clear f178
              have f187 := hide o182
              clear o182 b183 g184 f177
              refine hK.out _ _ (trivial) (fun hHeld => ?_)
              clear hK K
              refine wpAnyH_ready (rs := [9]) (by kernel_rfl) (by simp) ?_
              refine AllReadyH.cons (o := { dst := some 44, op := Op.call { callee := Callee.value (Operand.func 19), args := #[Operand.tmp 43], argTypes := #[33] }, type := 27, pos := "more.go:18", after := #[{ on := 8, ground := Ground.data }, { on := 8, ground := Ground.chain }], guard := none }) rfl (fun K hK => ?_) ?_
              · go_simp
                refine (hc q180 c181 _).mono ?_
                rintro e w188 ⟨rfl, b189⟩
                have R190 : Below U.heap.size U w188 := below_sub R185 b189
                have f191 := hide (((b189).block _ (heap_lt (unhide f186))).trans (unhide f186))
                clear f186
                clear b189 f187
                refine hK.out _ _ (trivial) (fun hHeld => ?_)
                clear hK K
                refine wpAnyH_take (i := 10) (oi := { dst := some 34, op := Op.move (Operand.tmp 44), type := 27, pos := "more.go:18", after := #[{ on := 9, ground := Ground.data }], guard := none }) (v := ?_) rfl (by kernel_rfl) (by kernel_rfl) (by kernel_rfl) (fun _ _ _ h => h) (Or.inl ⟨by rfl, ?_⟩) (by assumption) ?_
                rotate_left
                · intro wq hSw
                  go_simp
                  with_reducible rfl
                simp only [Act.put, List.setIfInBounds_toArray, List.set_cons_zero, List.set_cons_succ]
                refine wpAnyH_take (i := 11) (oi := { dst := some 45, op := Op.extract (Operand.tmp 34) 0, type := 23, pos := "more.go:18", after := #[{ on := 10, ground := Ground.data }], guard := none }) (v := ?_) rfl (by kernel_rfl) (by kernel_rfl) (by kernel_rfl) (fun _ _ _ h => h) (Or.inl ⟨by rfl, ?_⟩) (by assumption) ?_
                rotate_left
                · intro wq hSw
                  go_simp
                  with_reducible rfl
                simp only [Act.put, List.setIfInBounds_toArray, List.set_cons_zero, List.set_cons_succ]
                refine wpAnyH_take (i := 12) (oi := { dst := some 46, op := Op.extract (Operand.tmp 34) 1, type := 4, pos := "more.go:18", after := #[{ on := 10, ground := Ground.data }, { on := 14, ground := Ground.gcOnly Departure.lateStores }], guard := none }) (v := ?_) rfl (by kernel_rfl) (by kernel_rfl) (by kernel_rfl) (fun _ _ _ h => h) (Or.inl ⟨by rfl, ?_⟩) (by assumption) ?_
                rotate_left
                · intro wq hSw
                  go_simp
                  with_reducible rfl
                simp only [Act.put, List.setIfInBounds_toArray, List.set_cons_zero, List.set_cons_succ]
                refine wpAnyH_ready (rs := [14]) (by kernel_rfl) (by simp) ?_
                refine AllReadyH.cons (o := { dst := none, op := Op.store 23 (Operand.tmp 8) (Operand.tmp 45), type := 0, pos := "more.go:18", after := #[{ on := 13, ground := Ground.data }, { on := 11, ground := Ground.data }, { on := 9, ground := Ground.chain }, { on := 0, ground := Ground.phase }, { on := 1, ground := Ground.phase }, { on := 2, ground := Ground.phase }, { on := 3, ground := Ground.phase }, { on := 4, ground := Ground.phase }, { on := 5, ground := Ground.phase }, { on := 6, ground := Ground.phase }, { on := 7, ground := Ground.phase }, { on := 8, ground := Ground.phase }, { on := 9, ground := Ground.phase }, { on := 10, ground := Ground.phase }, { on := 11, ground := Ground.phase }, { on := 12, ground := Ground.textOnly Departure.lateStores }, { on := 13, ground := Ground.phase }], guard := none }) rfl (fun K hK => ?_) ?_
                · obtain ⟨z192_0, z192_1⟩ := of2 (unhide f191)
                  have z192f : ∀ o, World.frozen? w188 ⟨w135.heap.size, o, none⟩ = false := fun o => frozen_free (unhide f191)
                  have z192l := heap_lt (unhide f191)
                  go_simp
                  refine hK.out _ _ (trivial) (fun hHeld => ?_)
                  clear hK K
                  refine wpAnyH_take (i := 15) (oi := { dst := some 9, op := Op.assign (Operand.tmp 46), type := 4, pos := "more.go:18", after := #[{ on := 12, ground := Ground.data }, { on := 14, ground := Ground.chain }, { on := 0, ground := Ground.phase }, { on := 1, ground := Ground.phase }, { on := 2, ground := Ground.phase }, { on := 3, ground := Ground.phase }, { on := 4, ground := Ground.phase }, { on := 5, ground := Ground.phase }, { on := 6, ground := Ground.phase }, { on := 7, ground := Ground.phase }, { on := 8, ground := Ground.phase }, { on := 9, ground := Ground.phase }, { on := 10, ground := Ground.phase }, { on := 11, ground := Ground.phase }, { on := 12, ground := Ground.phase }, { on := 13, ground := Ground.phase }, { on := 14, ground := Ground.phase }], guard := none }) (v := ?_) rfl (by kernel_rfl) (by kernel_rfl) (by kernel_rfl) (fun _ _ _ h => h) (Or.inl ⟨by rfl, ?_⟩) (by assumption) ?_
                  rotate_left
                  · intro wq hSw
                    go_simp
                    with_reducible rfl
                  simp only [Act.put, List.setIfInBounds_toArray, List.set_cons_zero, List.set_cons_succ]
                  refine wpAnyH_done (by kernel_rfl) ?_ _
                  go_wp2
                  go_meet
                  case rel =>
                    have y193g : U.heap.size ≤ w135.heap.size := (R141).size
                    refine ⟨w135.heap.size, rfl, rfl, One.put (of_blk (unhide f191)) 0 0, ((R190).setCell y193g _).setCell y193g _⟩
                exact AllReadyH.nil
              exact AllReadyH.nil
            exact AllReadyH.nil
          exact AllReadyH.nil
        refine AllReadyH.cons (o := { dst := some 8, op := Op.alloc 23, type := 0, pos := "more.go:18", after := #[], guard := none }) rfl (fun K hK => ?_) ?_
        · go_simp
          refine hK.out _ _ (trivial) (fun hHeld => ?_)
          clear hK K
          obtain ⟨V194, h196⟩ : ∃ V194, World.alloc V130 (.cells #[.int .i64 0, .int .i64 0] 23) = V194 := ⟨_, rfl⟩
          rw [h196]
          have R195 : Below U.heap.size U V194 := by rw [← h196]; exact (show Below U.heap.size U (World.alloc V130 (.cells #[.int .i64 0, .int .i64 0] 23)) from (R131).alloc (R131).size _)
          have b197 : Below V130.heap.size V130 V194 := by rw [← h196]; exact (show Below V130.heap.size V130 (World.alloc V130 (.cells #[.int .i64 0, .int .i64 0] 23)) from (Below.refl _ _).alloc (Nat.le_refl _) _)
          have f198 := hide ((unhide f134).below b197)
          clear f134
          have f199 := hide (show V194.heap[V130.heap.size]? = some (.cells #[.int .i64 0, .int .i64 0] 23 (0, 0)) by rw [← h196]; exact box_nw _ _)
          clear h196 b197
          refine wpAnyH_ready (rs := [4]) (by kernel_rfl) (by simp) ?_
          refine AllReadyH.cons (o := { dst := some 39, op := Op.call { callee := Callee.builtin Builtin.append, args := #[Operand.tmp 35, Operand.tmp 38], argTypes := #[33, 33] }, type := 33, pos := "more.go:18", after := #[{ on := 0, ground := Ground.data }, { on := 3, ground := Ground.data }], guard := none }) rfl (fun K hK => ?_) ?_
          · refine step_app rowI (by rfl) (.tmp 35) (.tmp 38) (by rfl) U.heap.size (some ⟨U.heap.size, 0, none⟩) 0 [] (some ad) cap [] 0 0 0 rfl rfl rfl (by rfl) (by rfl) (unhide f198) (unhide HSrc _ R195) (by unfold maxLen; omega) (by omega) (R195).size ?_
            intro q201 c202 w200 o203 b204 _ g205
            have R206 : Below U.heap.size U w200 := (R195).trans b204
            have f207 := hide (box_app (unhide f198) (unhide f199) g205)
            clear f199
            have f208 := hide o203
            clear o203 b204 g205 f198
            refine hK.out _ _ (trivial) (fun hHeld => ?_)
            clear hK K
            refine wpAnyH_ready (rs := [8]) (by kernel_rfl) (by simp) ?_
            refine AllReadyH.cons (o := { dst := some 43, op := Op.call { callee := Callee.builtin Builtin.append, args := #[Operand.tmp 39, Operand.tmp 42], argTypes := #[33, 33] }, type := 33, pos := "more.go:18", after := #[{ on := 4, ground := Ground.data }, { on := 7, ground := Ground.data }, { on := 4, ground := Ground.chain }], guard := none }) rfl (fun K hK => ?_) ?_
            · refine step_app rowI (by rfl) (.tmp 39) (.tmp 42) (by rfl) U.heap.size q201 c202 ([] ++ []) (some ad) cap [] 0 0 0 rfl rfl rfl (by rfl) (by rfl) (unhide f208) (unhide HSrc _ R206) (by unfold maxLen; omega) (by omega) (R206).size ?_
              intro q210 c211 w209 o212 b213 _ g214
              have R215 : Below U.heap.size U w209 := (R206).trans b213
              have f216 := hide (box_app (unhide f208) (unhide f207) g214)
              clear f207
              have f217 := hide o212
              clear o212 b213 g214 f208
              refine hK.out _ _ (trivial) (fun hHeld => ?_)
              clear hK K
              refine wpAnyH_ready (rs := [9]) (by kernel_rfl) (by simp) ?_
              refine AllReadyH.cons (o := { dst := some 44, op := Op.call { callee := Callee.value (Operand.func 19), args := #[Operand.tmp 43], argTypes := #[33] }, type := 27, pos := "more.go:18", after := #[{ on := 8, ground := Ground.data }, { on := 8, ground := Ground.chain }], guard := none }) rfl (fun K hK => ?_) ?_
              · go_simp
                refine (hc q210 c211 _).mono ?_
                rintro e w218 ⟨rfl, b219⟩
                have R220 : Below U.heap.size U w218 := below_sub R215 b219
                have f221 := hide (((b219).block _ (heap_lt (unhide f216))).trans (unhide f216))
                clear f216
                clear b219 f217
                refine hK.out _ _ (trivial) (fun hHeld => ?_)
                clear hK K
                refine wpAnyH_take (i := 10) (oi := { dst := some 34, op := Op.move (Operand.tmp 44), type := 27, pos := "more.go:18", after := #[{ on := 9, ground := Ground.data }], guard := none }) (v := ?_) rfl (by kernel_rfl) (by kernel_rfl) (by kernel_rfl) (fun _ _ _ h => h) (Or.inl ⟨by rfl, ?_⟩) (by assumption) ?_
                rotate_left
                · intro wq hSw
                  go_simp
                  with_reducible rfl
                simp only [Act.put, List.setIfInBounds_toArray, List.set_cons_zero, List.set_cons_succ]
                refine wpAnyH_take (i := 11) (oi := { dst := some 45, op := Op.extract (Operand.tmp 34) 0, type := 23, pos := "more.go:18", after := #[{ on := 10, ground := Ground.data }], guard := none }) (v := ?_) rfl (by kernel_rfl) (by kernel_rfl) (by kernel_rfl) (fun _ _ _ h => h) (Or.inl ⟨by rfl, ?_⟩) (by assumption) ?_
                rotate_left
                · intro wq hSw
                  go_simp
                  with_reducible rfl
                simp only [Act.put, List.setIfInBounds_toArray, List.set_cons_zero, List.set_cons_succ]
                refine wpAnyH_take (i := 12) (oi := { dst := some 46, op := Op.extract (Operand.tmp 34) 1, type := 4, pos := "more.go:18", after := #[{ on := 10, ground := Ground.data }, { on := 14, ground := Ground.gcOnly Departure.lateStores }], guard := none }) (v := ?_) rfl (by kernel_rfl) (by kernel_rfl) (by kernel_rfl) (fun _ _ _ h => h) (Or.inl ⟨by rfl, ?_⟩) (by assumption) ?_
                rotate_left
                · intro wq hSw
                  go_simp
                  with_reducible rfl
                simp only [Act.put, List.setIfInBounds_toArray, List.set_cons_zero, List.set_cons_succ]
                refine wpAnyH_ready (rs := [14]) (by kernel_rfl) (by simp) ?_
                refine AllReadyH.cons (o := { dst := none, op := Op.store 23 (Operand.tmp 8) (Operand.tmp 45), type := 0, pos := "more.go:18", after := #[{ on := 13, ground := Ground.data }, { on := 11, ground := Ground.data }, { on := 9, ground := Ground.chain }, { on := 0, ground := Ground.phase }, { on := 1, ground := Ground.phase }, { on := 2, ground := Ground.phase }, { on := 3, ground := Ground.phase }, { on := 4, ground := Ground.phase }, { on := 5, ground := Ground.phase }, { on := 6, ground := Ground.phase }, { on := 7, ground := Ground.phase }, { on := 8, ground := Ground.phase }, { on := 9, ground := Ground.phase }, { on := 10, ground := Ground.phase }, { on := 11, ground := Ground.phase }, { on := 12, ground := Ground.textOnly Departure.lateStores }, { on := 13, ground := Ground.phase }], guard := none }) rfl (fun K hK => ?_) ?_
                · obtain ⟨z222_0, z222_1⟩ := of2 (unhide f221)
                  have z222f : ∀ o, World.frozen? w218 ⟨V130.heap.size, o, none⟩ = false := fun o => frozen_free (unhide f221)
                  have z222l := heap_lt (unhide f221)
                  go_simp
                  refine hK.out _ _ (trivial) (fun hHeld => ?_)
                  clear hK K
                  refine wpAnyH_take (i := 15) (oi := { dst := some 9, op := Op.assign (Operand.tmp 46), type := 4, pos := "more.go:18", after := #[{ on := 12, ground := Ground.data }, { on := 14, ground := Ground.chain }, { on := 0, ground := Ground.phase }, { on := 1, ground := Ground.phase }, { on := 2, ground := Ground.phase }, { on := 3, ground := Ground.phase }, { on := 4, ground := Ground.phase }, { on := 5, ground := Ground.phase }, { on := 6, ground := Ground.phase }, { on := 7, ground := Ground.phase }, { on := 8, ground := Ground.phase }, { on := 9, ground := Ground.phase }, { on := 10, ground := Ground.phase }, { on := 11, ground := Ground.phase }, { on := 12, ground := Ground.phase }, { on := 13, ground := Ground.phase }, { on := 14, ground := Ground.phase }], guard := none }) (v := ?_) rfl (by kernel_rfl) (by kernel_rfl) (by kernel_rfl) (fun _ _ _ h => h) (Or.inl ⟨by rfl, ?_⟩) (by assumption) ?_
                  rotate_left
                  · intro wq hSw
                    go_simp
                    with_reducible rfl
                  simp only [Act.put, List.setIfInBounds_toArray, List.set_cons_zero, List.set_cons_succ]
                  refine wpAnyH_done (by kernel_rfl) ?_ _
                  go_wp2
                  go_meet
                  case rel =>
                    have y223g : U.heap.size ≤ V130.heap.size := (R131).size
                    refine ⟨V130.heap.size, rfl, rfl, One.put (of_blk (unhide f221)) 0 0, ((R220).setCell y223g _).setCell y223g _⟩
                exact AllReadyH.nil
              exact AllReadyH.nil
            exact AllReadyH.nil
          exact AllReadyH.nil
        exact AllReadyH.nil
      refine AllReadyH.cons (o := { dst := some 8, op := Op.alloc 23, type := 0, pos := "more.go:18", after := #[], guard := none }) rfl (fun K hK => ?_) ?_
      · go_simp
        refine hK.out _ _ (trivial) (fun hHeld => ?_)
        clear hK K
        obtain ⟨V224, h226⟩ : ∃ V224, (World.alloc U (.cells #[.int .i64 0, .int .i64 0] 23)).drew = V224 := ⟨_, rfl⟩
        rw [h226]
        have R225 : Below U.heap.size U V224 := by rw [← h226]; exact (show Below U.heap.size U (World.alloc U.drew (.cells #[.int .i64 0, .int .i64 0] 23)) from (R0).alloc (R0).size _)
        have b227 : Below U.drew.heap.size U.drew V224 := by rw [← h226]; exact (show Below U.drew.heap.size U.drew (World.alloc U.drew (.cells #[.int .i64 0, .int .i64 0] 23)) from (Below.refl _ _).alloc (Nat.le_refl _) _)
        have f228 := hide (show V224.heap[U.heap.size]? = some (.cells #[.int .i64 0, .int .i64 0] 23 (0, 0)) by rw [← h226]; exact box_nw _ _)
        clear h226 b227
        refine wpAnyH_ready (rs := [0]) (by kernel_rfl) (by simp) ?_
        refine AllReadyH.cons (o := { dst := some 35, op := Op.buildSlice 33 0 #[], type := 33, pos := "more.go:18", after := #[], guard := none }) rfl (fun K hK => ?_) ?_
        · go_simp
          refine hK.out _ _ (trivial) (fun hHeld => ?_)
          clear hK K
          obtain ⟨V229, h231⟩ : ∃ V229, World.alloc V224 (.cells #[] 3) = V229 := ⟨_, rfl⟩
          rw [h231]
          have R230 : Below U.heap.size U V229 := by rw [← h231]; exact (show Below U.heap.size U (World.alloc V224 (.cells #[] 3)) from (R225).alloc (R225).size _)
          have b232 : Below V224.heap.size V224 V229 := by rw [← h231]; exact (show Below V224.heap.size V224 (World.alloc V224 (.cells #[] 3)) from (Below.refl _ _).alloc (Nat.le_refl _) _)
          have f233 := hide (((b232).block _ (heap_lt (unhide f228))).trans (unhide f228))
          clear f228
          have f234 := hide (show OwnK encI 3 1 U.heap.size V229 (some ⟨V224.heap.size, 0, none⟩) 0 [] by rw [← h231]; exact (show OwnK encI 3 1 U.heap.size (World.alloc V224 (.cells #[] 3)) (some ⟨V224.heap.size, 0, none⟩) 0 [] from OwnK.made _ _ (R225).size))
          clear h231 b232
          refine wpAnyH_ready (rs := [4]) (by kernel_rfl) (by simp) ?_
          refine AllReadyH.cons (o := { dst := some 39, op := Op.call { callee := Callee.builtin Builtin.append, args := #[Operand.tmp 35, Operand.tmp 38], argTypes := #[33, 33] }, type := 33, pos := "more.go:18", after := #[{ on := 0, ground := Ground.data }, { on := 3, ground := Ground.data }], guard := none }) rfl (fun K hK => ?_) ?_
          · refine step_app rowI (by rfl) (.tmp 35) (.tmp 38) (by rfl) U.heap.size (some ⟨V224.heap.size, 0, none⟩) 0 [] (some ad) cap [] 0 0 0 rfl rfl rfl (by rfl) (by rfl) (unhide f234) (unhide HSrc _ R230) (by unfold maxLen; omega) (by omega) (R230).size ?_
            intro q236 c237 w235 o238 b239 _ g240
            have R241 : Below U.heap.size U w235 := (R230).trans b239
            have f242 := hide (box_app (unhide f234) (unhide f233) g240)
            clear f233
            have f243 := hide o238
            clear o238 b239 g240 f234
            refine hK.out _ _ (trivial) (fun hHeld => ?_)
            clear hK K
            refine wpAnyH_ready (rs := [8]) (by kernel_rfl) (by simp) ?_
            refine AllReadyH.cons (o := { dst := some 43, op := Op.call { callee := Callee.builtin Builtin.append, args := #[Operand.tmp 39, Operand.tmp 42], argTypes := #[33, 33] }, type := 33, pos := "more.go:18", after := #[{ on := 4, ground := Ground.data }, { on := 7, ground := Ground.data }, { on := 4, ground := Ground.chain }], guard := none }) rfl (fun K hK => ?_) ?_
            · refine step_app rowI (by rfl) (.tmp 39) (.tmp 42) (by rfl) U.heap.size q236 c237 ([] ++ []) (some ad) cap [] 0 0 0 rfl rfl rfl (by rfl) (by rfl) (unhide f243) (unhide HSrc _ R241) (by unfold maxLen; omega) (by omega) (R241).size ?_
              intro q245 c246 w244 o247 b248 _ g249
              have R250 : Below U.heap.size U w244 := (R241).trans b248
              have f251 := hide (box_app (unhide f243) (unhide f242) g249)
              clear f242
              have f252 := hide o247
              clear o247 b248 g249 f243
              refine hK.out _ _ (trivial) (fun hHeld => ?_)
              clear hK K
              refine wpAnyH_ready (rs := [9]) (by kernel_rfl) (by simp) ?_
              refine AllReadyH.cons (o := { dst := some 44, op := Op.call { callee := Callee.value (Operand.func 19), args := #[Operand.tmp 43], argTypes := #[33] }, type := 27, pos := "more.go:18", after := #[{ on := 8, ground := Ground.data }, { on := 8, ground := Ground.chain }], guard := none }) rfl (fun K hK => ?_) ?_
              · go_simp
                refine (hc q245 c246 _).mono ?_
                rintro e w253 ⟨rfl, b254⟩
                have R255 : Below U.heap.size U w253 := below_sub R250 b254
                have f256 := hide (((b254).block _ (heap_lt (unhide f251))).trans (unhide f251))
                clear f251
                clear b254 f252
                refine hK.out _ _ (trivial) (fun hHeld => ?_)
                clear hK K
                refine wpAnyH_take (i := 10) (oi := { dst := some 34, op := Op.move (Operand.tmp 44), type := 27, pos := "more.go:18", after := #[{ on := 9, ground := Ground.data }], guard := none }) (v := ?_) rfl (by kernel_rfl) (by kernel_rfl) (by kernel_rfl) (fun _ _ _ h => h) (Or.inl ⟨by rfl, ?_⟩) (by assumption) ?_
                rotate_left
                · intro wq hSw
                  go_simp
                  with_reducible rfl
                simp only [Act.put, List.setIfInBounds_toArray, List.set_cons_zero, List.set_cons_succ]
                refine wpAnyH_take (i := 11) (oi := { dst := some 45, op := Op.extract (Operand.tmp 34) 0, type := 23, pos := "more.go:18", after := #[{ on := 10, ground := Ground.data }], guard := none }) (v := ?_) rfl (by kernel_rfl) (by kernel_rfl) (by kernel_rfl) (fun _ _ _ h => h) (Or.inl ⟨by rfl, ?_⟩) (by assumption) ?_
                rotate_left
                · intro wq hSw
                  go_simp
                  with_reducible rfl
                simp only [Act.put, List.setIfInBounds_toArray, List.set_cons_zero, List.set_cons_succ]
                refine wpAnyH_take (i := 12) (oi := { dst := some 46, op := Op.extract (Operand.tmp 34) 1, type := 4, pos := "more.go:18", after := #[{ on := 10, ground := Ground.data }, { on := 14, ground := Ground.gcOnly Departure.lateStores }], guard := none }) (v := ?_) rfl (by kernel_rfl) (by kernel_rfl) (by kernel_rfl) (fun _ _ _ h => h) (Or.inl ⟨by rfl, ?_⟩) (by assumption) ?_
                rotate_left
                · intro wq hSw
                  go_simp
                  with_reducible rfl
                simp only [Act.put, List.setIfInBounds_toArray, List.set_cons_zero, List.set_cons_succ]
                refine wpAnyH_ready (rs := [14]) (by kernel_rfl) (by simp) ?_
                refine AllReadyH.cons (o := { dst := none, op := Op.store 23 (Operand.tmp 8) (Operand.tmp 45), type := 0, pos := "more.go:18", after := #[{ on := 13, ground := Ground.data }, { on := 11, ground := Ground.data }, { on := 9, ground := Ground.chain }, { on := 0, ground := Ground.phase }, { on := 1, ground := Ground.phase }, { on := 2, ground := Ground.phase }, { on := 3, ground := Ground.phase }, { on := 4, ground := Ground.phase }, { on := 5, ground := Ground.phase }, { on := 6, ground := Ground.phase }, { on := 7, ground := Ground.phase }, { on := 8, ground := Ground.phase }, { on := 9, ground := Ground.phase }, { on := 10, ground := Ground.phase }, { on := 11, ground := Ground.phase }, { on := 12, ground := Ground.textOnly Departure.lateStores }, { on := 13, ground := Ground.phase }], guard := none }) rfl (fun K hK => ?_) ?_
                · obtain ⟨z257_0, z257_1⟩ := of2 (unhide f256)
                  have z257f : ∀ o, World.frozen? w253 ⟨U.heap.size, o, none⟩ = false := fun o => frozen_free (unhide f256)
                  have z257l := heap_lt (unhide f256)
                  go_simp
                  refine hK.out _ _ (trivial) (fun hHeld => ?_)
                  clear hK K
                  refine wpAnyH_take (i := 15) (oi := { dst := some 9, op := Op.assign (Operand.tmp 46), type := 4, pos := "more.go:18", after := #[{ on := 12, ground := Ground.data }, { on := 14, ground := Ground.chain }, { on := 0, ground := Ground.phase }, { on := 1, ground := Ground.phase }, { on := 2, ground := Ground.phase }, { on := 3, ground := Ground.phase }, { on := 4, ground := Ground.phase }, { on := 5, ground := Ground.phase }, { on := 6, ground := Ground.phase }, { on := 7, ground := Ground.phase }, { on := 8, ground := Ground.phase }, { on := 9, ground := Ground.phase }, { on := 10, ground := Ground.phase }, { on := 11, ground := Ground.phase }, { on := 12, ground := Ground.phase }, { on := 13, ground := Ground.phase }, { on := 14, ground := Ground.phase }], guard := none }) (v := ?_) rfl (by kernel_rfl) (by kernel_rfl) (by kernel_rfl) (fun _ _ _ h => h) (Or.inl ⟨by rfl, ?_⟩) (by assumption) ?_
                  rotate_left
                  · intro wq hSw
                    go_simp
                    with_reducible rfl
                  simp only [Act.put, List.setIfInBounds_toArray, List.set_cons_zero, List.set_cons_succ]
                  refine wpAnyH_done (by kernel_rfl) ?_ _
                  go_wp2
                  go_meet
                  case rel =>
                    have y258g : U.heap.size ≤ U.heap.size := (R0).size
                    refine ⟨U.heap.size, rfl, rfl, One.put (of_blk (unhide f256)) 0 0, ((R255).setCell y258g _).setCell y258g _⟩
                exact AllReadyH.nil
              exact AllReadyH.nil
            exact AllReadyH.nil
          exact AllReadyH.nil
        exact AllReadyH.nil
      exact AllReadyH.nil
    case rest =>
      obtain ⟨N8, rfl, rfl, h8, hUV⟩ := hcut
      obtain ⟨a0, a1, _, a3⟩ := (unhide OS).below hUV
      obtain ⟨d0, d1, _, d3⟩ := h8
      have HUV := hide hUV
      clear hUV
      go_wp2
      go_loopw [10, 60] (fun gd i wr => gd = .bool false ∧ i = .int .i64 0 ∧ wr = wc) (fun _ _ _ => 0)
      case atStart => exact ⟨rfl, rfl, rfl⟩
      case round =>
        obtain ⟨rfl, rfl, rfl⟩ := hrel
        go_wp2
        go_ret
        exact ⟨rfl, below_sub (unhide BU) (unhide HUV)⟩
theorem spanCommons_any (q : Option Addr) (cap : Nat) (xs : List Int) (turn : Int) (w : World) (hG : G w) (hS : SlOf encI 1 w q cap xs) (hm : xs.length * 8 + 64 ≤ 140737488355328) :
    Calls Tryd.prog 8 #[.slice q xs.length cap, .int .i64 turn] w fun e w' => e = .returned (.bool true) ∧ Below w.heap.size w w' := by
  rcases Nat.eq_zero_or_pos xs.length with h0 | h0
  · obtain rfl : xs = [] := List.length_eq_zero_iff.1 h0
    exact commons_nil q cap turn w hG (fun h => (hS.1 h).2)
  · obtain ⟨b, off, rfl, _, _⟩ := hS.2.2.2 h0
    exact commons_pos b off cap xs turn w hG hS.2.1 h0 hm hS.2.2.2
end Go.Proofs.YtjclojeihjgnkaaDoor
