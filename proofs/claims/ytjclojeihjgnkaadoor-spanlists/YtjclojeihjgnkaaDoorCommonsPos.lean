/- The law SpanCommons: the common span has all, none below it does, and it does not see their order. -/
import Derived.Test.YtjclojeihjgnkaaDoorComPlain
import Derived.Test.YtjclojeihjgnkaaDoorMeetsLaw
import Derived.Test.YtjclojeihjgnkaaDoorStabsLaw
import Derived.Deep.Cut
namespace Go.Proofs.YtjclojeihjgnkaaDoor
open Go.RowKit

theorem neqS (a b c d : Int) (w : World) : (binOp .neq 23 (.agg #[.int .i64 a, .int .i64 b]) (.agg #[.int .i64 c, .int .i64 d])).run Tryd.prog w = .ok (.bool (!decide (a = c ∧ b = d))) w := by
  have u3 := Tryd.underlying3
  have a3 := Tryd.isAgg3
  have z3 := Tryd.sizeOf3
  have hS : Tryd.prog.underlying 23 = some (.struct (Tryd.prog.fieldsOf 23)) := by kernel_rfl
  have hp : Tryd.prog.stoodInHeld 23 = false := by kernel_rfl
  rw [run_neq_struct, show (10000 : Nat) = 9999 + 1 from rfl, run_equalIn_agg w 9999 23 _ _ hS hp]
  simp only [Program.fieldsOf, Tryd.underlying23]
  go_simp
  by_cases h1 : a = c <;> by_cases h2 : b = d <;> simp [h1, h2]
theorem heap_lt {W : World} {b : Nat} {o : Obj} (h : W.heap[b]? = some o) : b < W.heap.size := (Array.getElem?_eq_some_iff.1 h).1
theorem box_nw (w : World) (o : Obj) : (w.alloc o).heap[w.heap.size]? = some o := by simp [World.alloc, -World.alloc_eq]
theorem of2 {W : World} {b : Nat} {a0 a1 : Value} {T : TypeId} (h : W.heap[b]? = some (.cells #[a0, a1] T (0, 0))) : W.cell? ⟨b, 0, none⟩ = some a0 ∧ W.cell? ⟨b, 1, none⟩ = some a1 := by
  unfold World.cell?; simp [h]
theorem of_blk {W : World} {b : Nat} {x y : Int} (h : W.heap[b]? = some (.cells #[.int .i64 x, .int .i64 y] 23 (0, 0))) : One W b x y :=
  ⟨(of2 h).1, (of2 h).2, fun _ => frozen_free h, heap_lt h⟩
theorem box_app {w w' : World} {B blk m : Nat} {q : Option Addr} {cap : Nat} {l : List Int} {c : Array Value} (hown : OwnK encI 3 1 B w q cap l) (hbox : w.heap[blk]? = some (.cells c 23 (0, 0))) (hg : w.grownBy w' (Value.slice q m cap).ownBlock) : w'.heap[blk]? = some (.cells c 23 (0, 0)) := by
  obtain ⟨_, _, _, _, h5⟩ := hg
  rw [h5 blk (heap_lt hbox) ?_]
  · exact hbox
  · intro he
    rcases hown.2 with ⟨h0, _⟩ | ⟨g, cp, cur, hv, _, hblk, _⟩
    · injection h0 with h1
      rw [h1] at he
      simp [Value.ownBlock] at he
    · injection hv with h1
      rw [h1] at he
      simp [Value.ownBlock] at he
      rw [← he, hbox] at hblk
      injection hblk with hblk
      injection hblk with _ h3
      exact absurd h3 (by decide)
theorem com_none {xs : List Int} (h : comZ xs = none) (h0 : 0 < xs.length) : xs.all isNum = false := by
  cases xs with
  | nil => simp at h0
  | cons x r =>
    cases hall : (x :: r).all isNum with
    | false => rfl
    | true => rw [comZ_good rfl hall] at h; cases h
theorem has_mem {l i : Nat} (_h : okN l i) {x : Int} (hx : isNum x = true) : (decide (loS l i ≤ x) && decide (x ≤ hiS l i)) = decide (plc x / 2 ^ l = i) := by
  obtain ⟨h1, h2⟩ := plc_lt hx
  rw [Bool.eq_iff_iff, decide_eq_true_eq, mem_span (T := 2 ^ l) (p := i * 2 ^ l) rfl rfl, Bool.and_eq_true, decide_eq_true_eq, decide_eq_true_eq]
  unfold loS hiS
  generalize i * 2 ^ l = Q
  generalize 2 ^ l = T
  omega
theorem okN_half {m J : Nat} (h : okN (m + 1) J) : okN m (2 * J) := by
  obtain ⟨k, hk, hi⟩ := h
  exact ⟨k + 1, by omega, by rw [Nat.pow_succ]; omega⟩
/-- Does the number lie in the left half? -/
def lefts (L J : Nat) (x : Int) : Bool := decide (0 < L) && decide (plc x / 2 ^ (L - 1) = 2 * J)
theorem count_take {p : Int → Bool} {xs : List Int} {j : Nat} {x : Int} (h : xs[j]? = some x) : (xs.take (j + 1)).countP p = (xs.take j).countP p + (if p x then 1 else 0) := by
  rw [List.take_add_one, h]
  simp [List.countP_append, List.countP_cons]
set_option maxRecDepth 100000 in
set_option maxHeartbeats 4000000 in
theorem commons_pos (b off cap : Nat) (xs : List Int) (turn : Int) (w : World) (hG : G w) (hcap : xs.length ≤ cap) (h0 : 0 < xs.length) (hm : xs.length * 8 + 64 ≤ 140737488355328) (hA : LsOf encI 1 w (some ⟨b, off, none⟩) xs) :
    Calls Tryd.prog 8 #[.slice (some ⟨b, off, none⟩) xs.length cap, .int .i64 turn] w fun e w' => e = .returned (.bool true) ∧ Below w.heap.size w w' := by
  have mixed : Tryd.prog.follows .mixedOrders = true := by kernel_rfl
  have hfix := fixed_any
  have HG := hide hG
  have HA := hide hA
  have hc1 : ∀ V, Below w.heap.size w V → Calls Tryd.prog 19 #[.slice (some ⟨b, off, none⟩) xs.length cap] V fun e w' => e = .returned (comV (comZ xs)) ∧ Below V.heap.size V w' := fun V hv => com_all xs _ cap V (by omega) (hA.below hv)
  obtain ⟨k, hk, ek⟩ := turn_k turn xs.length h0 (by omega)
  have hc2 := com_all ([] ++ xs.drop k ++ xs.take k)
  have tp : ([] ++ xs.drop k ++ xs.take k).Perm xs := by rw [List.nil_append]; exact turn_perm xs k
  rw [com_perm tp, tp.length_eq] at hc2
  clear tp
  obtain ⟨n, hn⟩ : ∃ n, xs.length = n := ⟨_, rfl⟩
  rw [hn] at h0 hm hcap hc1 hc2 hk ek ⊢
  have HN := hide hn
  have n0 : (0 : Int) < (n : Int) := by omega
  have k0 : (0 : Int) ≤ (k : Int) := by omega
  have k1 : (k : Int) ≤ (n : Int) := by omega
  have c1 : (n : Int) ≤ (cap : Int) := by omega
  have k2 : (k : Int) ≤ (cap : Int) := by omega
  have kne : ¬ cap = k := by omega
  obtain ⟨o, ho⟩ : ∃ o, comZ xs = o := ⟨_, rfl⟩
  rw [ho] at hc1 hc2
  have HO := hide ho
  clear hG hA hn ho
  obtain ⟨sa, sb, sk, hval⟩ : ∃ (sa sb : Int) (sk : Bool), comV o = .tuple #[.agg #[.int .i64 sa, .int .i64 sb], .bool sk] := by
    cases o with
    | none => exact ⟨0, 0, false, rfl⟩
    | some x => exact ⟨x.1, x.2, true, rfl⟩
  rw [hval] at hc1 hc2
  have HV := hide hval
  clear hval
  go_enter Tryd.func8, Tryd.ntmps8
  go_wp2_with (first
    | (go_at_call 9; refine (hfix _ (unhide HG)).mono ?_; rintro e w1 ⟨rfl, b1⟩; have B1 := hide b1; clear b1)
    | (go_at_call 19; refine (hc1 _ (unhide B1)).mono ?_; rintro e w2 ⟨rfl, b2⟩; have B2 := hide (below_sub (unhide B1) b2); clear b2))
  rw [ek]
  obtain ⟨U, HU⟩ : ∃ U, w2.alloc (.cells #[.int .i64 sa, .int .i64 sb] 23) = U := ⟨_, rfl⟩
  have OS := hide (show One U w2.heap.size sa sb by rw [← HU]; exact One.new _ _ _)
  have BU := hide (show Below w.heap.size w U by rw [← HU]; exact (unhide B2).alloc (unhide B2).size _)
  rw [HU]
  obtain ⟨Ns, hNs⟩ : ∃ Ns, w2.heap.size = Ns := ⟨_, rfl⟩
  rw [hNs] at OS
  rw [hNs]
  have HSd := hide (fun (V : World) (hv : Below U.heap.size U V) => (show SrcK encI 1 V (some ⟨b, off + k, none⟩) (cap - k) (xs.drop k) from by
    have h := ((unhide HA).below (below_sub (unhide BU) hv)).drop (by decide) k
    rw [Nat.mul_one] at h
    exact LsOf.src (fun h => by cases h) h))
  have HSt := hide (fun (V : World) (hv : Below U.heap.size U V) => (show SrcK encI 1 V (some ⟨b, off, none⟩) cap (xs.take k) from
    LsOf.src (fun h => by cases h) (((unhide HA).below (below_sub (unhide BU) hv)).take (by decide) k)))
  clear hNs HU ek B1 B2 hc1 hfix HG
  go_cut [8, 9] from 34 (fun s8 s9 V => ∃ N8 : Nat, s8 = .pointer (some ⟨N8, 0, none⟩) ∧ s9 = .bool sk ∧ One V N8 sa sb ∧ Below U.heap.size U V)
  case first =>
    have R0 : Below U.heap.size U U.drew := (Below.refl _ _).drew
    refine wp_region_held_drew (S := fun w' => True) (by kernel_rfl) (trivial) (fun hHeld => ?_)
    refine wpAnyH_take (i := 1) (oi := { dst := some 36, op := Op.move (Operand.tmp 0), type := 33, pos := "more.go:18", after := #[], guard := none }) (v := ?_) rfl (by kernel_rfl) (by kernel_rfl) (by kernel_rfl) (fun _ _ _ h => h) (Or.inl ⟨by rfl, ?_⟩) (by assumption) ?_
    rotate_left
    · intro wq hSw
      go_simp
      with_reducible rfl
    simp only [Act.put, List.setIfInBounds_toArray, List.set_cons_zero, List.set_cons_succ]
    refine wpAnyH_take (i := 2) (oi := { dst := some 37, op := Op.move (Operand.tmp 7), type := 3, pos := "more.go:18", after := #[], guard := none }) (v := ?_) rfl (by kernel_rfl) (by kernel_rfl) (by kernel_rfl) (fun _ _ _ h => h) (Or.inl ⟨by rfl, ?_⟩) (by assumption) ?_
    rotate_left
    · intro wq hSw
      go_simp
      with_reducible rfl
    simp only [Act.put, List.setIfInBounds_toArray, List.set_cons_zero, List.set_cons_succ]
    refine wpAnyH_take (i := 3) (oi := { dst := some 38, op := Op.slice 33 (Operand.tmp 36) (some (Operand.tmp 37)) none none, type := 33, pos := "more.go:18", after := #[{ on := 1, ground := Ground.data }, { on := 2, ground := Ground.data }], guard := none }) (v := ?_) rfl (by kernel_rfl) (by kernel_rfl) (by kernel_rfl) (fun _ _ _ h => h) (Or.inl ⟨by rfl, ?_⟩) (by assumption) ?_
    rotate_left
    · intro wq hSw
      go_simp
      with_reducible rfl
    simp only [Act.put, List.setIfInBounds_toArray, List.set_cons_zero, List.set_cons_succ]
    refine wpAnyH_take (i := 5) (oi := { dst := some 40, op := Op.move (Operand.tmp 0), type := 33, pos := "more.go:18", after := #[], guard := none }) (v := ?_) rfl (by kernel_rfl) (by kernel_rfl) (by kernel_rfl) (fun _ _ _ h => h) (Or.inl ⟨by rfl, ?_⟩) (by assumption) ?_
    rotate_left
    · intro wq hSw
      go_simp
      with_reducible rfl
    simp only [Act.put, List.setIfInBounds_toArray, List.set_cons_zero, List.set_cons_succ]
    refine wpAnyH_take (i := 6) (oi := { dst := some 41, op := Op.move (Operand.tmp 7), type := 3, pos := "more.go:18", after := #[], guard := none }) (v := ?_) rfl (by kernel_rfl) (by kernel_rfl) (by kernel_rfl) (fun _ _ _ h => h) (Or.inl ⟨by rfl, ?_⟩) (by assumption) ?_
    rotate_left
    · intro wq hSw
      go_simp
      with_reducible rfl
    simp only [Act.put, List.setIfInBounds_toArray, List.set_cons_zero, List.set_cons_succ]
    refine wpAnyH_take (i := 7) (oi := { dst := some 42, op := Op.slice 33 (Operand.tmp 40) none (some (Operand.tmp 41)) none, type := 33, pos := "more.go:18", after := #[{ on := 5, ground := Ground.data }, { on := 6, ground := Ground.data }], guard := none }) (v := ?_) rfl (by kernel_rfl) (by kernel_rfl) (by kernel_rfl) (fun _ _ _ h => h) (Or.inl ⟨by rfl, ?_⟩) (by assumption) ?_
    rotate_left
    · intro wq hSw
      go_simp
      with_reducible rfl
    simp only [Act.put, List.setIfInBounds_toArray, List.set_cons_zero, List.set_cons_succ]
    refine wpAnyH_ready (rs := [0, 13]) (by kernel_rfl) (by simp) ?_
    refine AllReadyH.cons (o := { dst := some 35, op := Op.buildSlice 33 0 #[], type := 33, pos := "more.go:18", after := #[], guard := none }) rfl (fun K hK => ?_) ?_
    · go_simp
      refine hK.out _ _ (trivial) (fun hHeld => ?_)
      clear hK K
      obtain ⟨V1, h3⟩ : ∃ V1, (World.alloc U (.cells #[] 3)).drew = V1 := ⟨_, rfl⟩
      rw [h3]
      have R2 : Below U.heap.size U V1 := by rw [← h3]; exact (show Below U.heap.size U (World.alloc U.drew (.cells #[] 3)) from (R0).alloc (R0).size _)
      have b4 : Below U.drew.heap.size U.drew V1 := by rw [← h3]; exact (show Below U.drew.heap.size U.drew (World.alloc U.drew (.cells #[] 3)) from (Below.refl _ _).alloc (Nat.le_refl _) _)
      have f5 := hide (show OwnK encI 3 1 U.heap.size V1 (some ⟨U.heap.size, 0, none⟩) 0 [] by rw [← h3]; exact (show OwnK encI 3 1 U.heap.size (World.alloc U.drew (.cells #[] 3)) (some ⟨U.heap.size, 0, none⟩) 0 [] from OwnK.made _ _ (R0).size))
      clear h3 b4
      refine wpAnyH_ready (rs := [4, 13]) (by kernel_rfl) (by simp) ?_
      refine AllReadyH.cons (o := { dst := some 39, op := Op.call { callee := Callee.builtin Builtin.append, args := #[Operand.tmp 35, Operand.tmp 38], argTypes := #[33, 33] }, type := 33, pos := "more.go:18", after := #[{ on := 0, ground := Ground.data }, { on := 3, ground := Ground.data }], guard := none }) rfl (fun K hK => ?_) ?_
      · refine step_app rowI (by rfl) (.tmp 35) (.tmp 38) (by rfl) U.heap.size (some ⟨U.heap.size, 0, none⟩) 0 [] (some ⟨b, off + k, none⟩) (cap - k) (xs.drop k) 0 (n - k) (n - k) rfl (by rw [List.length_drop, unhide HN]) (by omega) (by rfl) (by rfl) (unhide f5) (unhide HSd _ R2) (by unfold maxLen; omega) (by omega) (R2).size ?_
        intro q7 c8 w6 o9 b10 _ g11
        have R12 : Below U.heap.size U w6 := (R2).trans b10
        have f13 := hide o9
        clear o9 b10 g11 f5
        refine hK.out _ _ (trivial) (fun hHeld => ?_)
        clear hK K
        refine wpAnyH_ready (rs := [8, 13]) (by kernel_rfl) (by simp) ?_
        refine AllReadyH.cons (o := { dst := some 43, op := Op.call { callee := Callee.builtin Builtin.append, args := #[Operand.tmp 39, Operand.tmp 42], argTypes := #[33, 33] }, type := 33, pos := "more.go:18", after := #[{ on := 4, ground := Ground.data }, { on := 7, ground := Ground.data }, { on := 4, ground := Ground.chain }], guard := none }) rfl (fun K hK => ?_) ?_
        · refine step_app rowI (by rfl) (.tmp 39) (.tmp 42) (by rfl) U.heap.size q7 c8 ([] ++ xs.drop k) (some ⟨b, off, none⟩) cap (xs.take k) (n - k) k n (by rw [List.nil_append, List.length_drop, unhide HN]) (by rw [List.length_take, unhide HN]; omega) (by omega) (by rfl) (by rfl) (unhide f13) (unhide HSt _ R12) (by unfold maxLen; omega) (by omega) (R12).size ?_
          intro q15 c16 w14 o17 b18 _ g19
          have R20 : Below U.heap.size U w14 := (R12).trans b18
          have f21 := hide o17
          clear o17 b18 g19 f13
          refine hK.out _ _ (trivial) (fun hHeld => ?_)
          clear hK K
          refine wpAnyH_ready (rs := [9, 13]) (by kernel_rfl) (by simp) ?_
          refine AllReadyH.cons (o := { dst := some 44, op := Op.call { callee := Callee.value (Operand.func 19), args := #[Operand.tmp 43], argTypes := #[33] }, type := 27, pos := "more.go:18", after := #[{ on := 8, ground := Ground.data }, { on := 8, ground := Ground.chain }], guard := none }) rfl (fun K hK => ?_) ?_
          · go_simp
            refine (hc2 q15 c16 _ (by omega) (unhide f21).ls.2.2.2).mono ?_
            rintro e w22 ⟨rfl, b23⟩
            have R24 : Below U.heap.size U w22 := below_sub R20 b23
            clear b23 f21
            refine hK.out _ _ (trivial) (fun hHeld => ?_)
            clear hK K
            refine wpAnyH_take (i := 10) (oi := { dst := some 34, op := Op.move (Operand.tmp 44), type := 27, pos := "more.go:18", after := #[{ on := 9, ground := Ground.data }], guard := none }) (v := ?_) rfl (by kernel_rfl) (by kernel_rfl) (by kernel_rfl) (fun _ _ _ h => h) (Or.inl ⟨by rfl, ?_⟩) (by assumption) ?_
            rotate_left
            · intro wq hSw
              go_simp
              with_reducible rfl
            simp only [Act.put, List.setIfInBounds_toArray, List.set_cons_zero, List.set_cons_succ]
            refine wpAnyH_take (i := 11) (oi := { dst := some 45, op := Op.extract (Operand.tmp 34) 0, type := 23, pos := "more.go:18", after := #[{ on := 10, ground := Ground.data }], guard := none }) (v := ?_) rfl (by kernel_rfl) (by kernel_rfl) (by kernel_rfl) (fun _ _ _ h => h) (Or.inl ⟨by rfl, ?_⟩) (by assumption) ?_
            rotate_left
            · intro wq hSw
              go_simp
              with_reducible rfl
            simp only [Act.put, List.setIfInBounds_toArray, List.set_cons_zero, List.set_cons_succ]
            refine wpAnyH_take (i := 12) (oi := { dst := some 46, op := Op.extract (Operand.tmp 34) 1, type := 4, pos := "more.go:18", after := #[{ on := 10, ground := Ground.data }, { on := 14, ground := Ground.gcOnly Departure.lateStores }], guard := none }) (v := ?_) rfl (by kernel_rfl) (by kernel_rfl) (by kernel_rfl) (fun _ _ _ h => h) (Or.inl ⟨by rfl, ?_⟩) (by assumption) ?_
            rotate_left
            · intro wq hSw
              go_simp
              with_reducible rfl
            simp only [Act.put, List.setIfInBounds_toArray, List.set_cons_zero, List.set_cons_succ]
            refine wpAnyH_ready (rs := [13]) (by kernel_rfl) (by simp) ?_
            refine AllReadyH.cons (o := { dst := some 8, op := Op.alloc 23, type := 0, pos := "more.go:18", after := #[], guard := none }) rfl (fun K hK => ?_) ?_
            · go_simp
              refine hK.out _ _ (trivial) (fun hHeld => ?_)
              clear hK K
              obtain ⟨V25, h27⟩ : ∃ V25, World.alloc w22 (.cells #[.int .i64 0, .int .i64 0] 23) = V25 := ⟨_, rfl⟩
              rw [h27]
              have R26 : Below U.heap.size U V25 := by rw [← h27]; exact (show Below U.heap.size U (World.alloc w22 (.cells #[.int .i64 0, .int .i64 0] 23)) from (R24).alloc (R24).size _)
              have b28 : Below w22.heap.size w22 V25 := by rw [← h27]; exact (show Below w22.heap.size w22 (World.alloc w22 (.cells #[.int .i64 0, .int .i64 0] 23)) from (Below.refl _ _).alloc (Nat.le_refl _) _)
              have f29 := hide (show V25.heap[w22.heap.size]? = some (.cells #[.int .i64 0, .int .i64 0] 23 (0, 0)) by rw [← h27]; exact box_nw _ _)
              clear h27 b28
              refine wpAnyH_ready (rs := [14]) (by kernel_rfl) (by simp) ?_
              refine AllReadyH.cons (o := { dst := none, op := Op.store 23 (Operand.tmp 8) (Operand.tmp 45), type := 0, pos := "more.go:18", after := #[{ on := 13, ground := Ground.data }, { on := 11, ground := Ground.data }, { on := 9, ground := Ground.chain }, { on := 0, ground := Ground.phase }, { on := 1, ground := Ground.phase }, { on := 2, ground := Ground.phase }, { on := 3, ground := Ground.phase }, { on := 4, ground := Ground.phase }, { on := 5, ground := Ground.phase }, { on := 6, ground := Ground.phase }, { on := 7, ground := Ground.phase }, { on := 8, ground := Ground.phase }, { on := 9, ground := Ground.phase }, { on := 10, ground := Ground.phase }, { on := 11, ground := Ground.phase }, { on := 12, ground := Ground.textOnly Departure.lateStores }, { on := 13, ground := Ground.phase }], guard := none }) rfl (fun K hK => ?_) ?_
              · obtain ⟨z30_0, z30_1⟩ := of2 (unhide f29)
                have z30f : ∀ o, World.frozen? V25 ⟨w22.heap.size, o, none⟩ = false := fun o => frozen_free (unhide f29)
                have z30l := heap_lt (unhide f29)
                go_simp
                refine hK.out _ _ (trivial) (fun hHeld => ?_)
                clear hK K
                refine wpAnyH_take (i := 15) (oi := { dst := some 9, op := Op.assign (Operand.tmp 46), type := 4, pos := "more.go:18", after := #[{ on := 12, ground := Ground.data }, { on := 14, ground := Ground.chain }, { on := 0, ground := Ground.phase }, { on := 1, ground := Ground.phase }, { on := 2, ground := Ground.phase }, { on := 3, ground := Ground.phase }, { on := 4, ground := Ground.phase }, { on := 5, ground := Ground.phase }, { on := 6, ground := Ground.phase }, { on := 7, ground := Ground.phase }, { on := 8, ground := Ground.phase }, { on := 9, ground := Ground.phase }, { on := 10, ground := Ground.phase }, { on := 11, ground := Ground.phase }, { on := 12, ground := Ground.phase }, { on := 13, ground := Ground.phase }, { on := 14, ground := Ground.phase }], guard := none }) (v := ?_) rfl (by kernel_rfl) (by kernel_rfl) (by kernel_rfl) (fun _ _ _ h => h) (Or.inl ⟨by rfl, ?_⟩) (by assumption) ?_
                rotate_left
                · intro wq hSw
                  go_simp
                  with_reducible rfl
                simp only [Act.put, List.setIfInBounds_toArray, List.set_cons_zero, List.set_cons_succ]
                refine wpAnyH_done (by kernel_rfl) ?_ _
                go_wp2
                go_meet
                case rel =>
                  have y31g : U.heap.size ≤ w22.heap.size := (R24).size
                  refine ⟨w22.heap.size, rfl, rfl, One.put (of_blk (unhide f29)) sa sb, ((R26).setCell y31g _).setCell y31g _⟩
              exact AllReadyH.nil
            exact AllReadyH.nil
          refine AllReadyH.cons (o := { dst := some 8, op := Op.alloc 23, type := 0, pos := "more.go:18", after := #[], guard := none }) rfl (fun K hK => ?_) ?_
          · go_simp
            refine hK.out _ _ (trivial) (fun hHeld => ?_)
            clear hK K
            obtain ⟨V32, h34⟩ : ∃ V32, World.alloc w14 (.cells #[.int .i64 0, .int .i64 0] 23) = V32 := ⟨_, rfl⟩
            rw [h34]
            have R33 : Below U.heap.size U V32 := by rw [← h34]; exact (show Below U.heap.size U (World.alloc w14 (.cells #[.int .i64 0, .int .i64 0] 23)) from (R20).alloc (R20).size _)
            have b35 : Below w14.heap.size w14 V32 := by rw [← h34]; exact (show Below w14.heap.size w14 (World.alloc w14 (.cells #[.int .i64 0, .int .i64 0] 23)) from (Below.refl _ _).alloc (Nat.le_refl _) _)
            have f36 := hide ((unhide f21).below b35)
            clear f21
            have f37 := hide (show V32.heap[w14.heap.size]? = some (.cells #[.int .i64 0, .int .i64 0] 23 (0, 0)) by rw [← h34]; exact box_nw _ _)
            clear h34 b35
            refine wpAnyH_ready (rs := [9]) (by kernel_rfl) (by simp) ?_
            refine AllReadyH.cons (o := { dst := some 44, op := Op.call { callee := Callee.value (Operand.func 19), args := #[Operand.tmp 43], argTypes := #[33] }, type := 27, pos := "more.go:18", after := #[{ on := 8, ground := Ground.data }, { on := 8, ground := Ground.chain }], guard := none }) rfl (fun K hK => ?_) ?_
            · go_simp
              refine (hc2 q15 c16 _ (by omega) (unhide f36).ls.2.2.2).mono ?_
              rintro e w38 ⟨rfl, b39⟩
              have R40 : Below U.heap.size U w38 := below_sub R33 b39
              have f41 := hide (((b39).block _ (heap_lt (unhide f37))).trans (unhide f37))
              clear f37
              clear b39 f36
              refine hK.out _ _ (trivial) (fun hHeld => ?_)
              clear hK K
              refine wpAnyH_take (i := 10) (oi := { dst := some 34, op := Op.move (Operand.tmp 44), type := 27, pos := "more.go:18", after := #[{ on := 9, ground := Ground.data }], guard := none }) (v := ?_) rfl (by kernel_rfl) (by kernel_rfl) (by kernel_rfl) (fun _ _ _ h => h) (Or.inl ⟨by rfl, ?_⟩) (by assumption) ?_
              rotate_left
              · intro wq hSw
                go_simp
                with_reducible rfl
              simp only [Act.put, List.setIfInBounds_toArray, List.set_cons_zero, List.set_cons_succ]
              refine wpAnyH_take (i := 11) (oi := { dst := some 45, op := Op.extract (Operand.tmp 34) 0, type := 23, pos := "more.go:18", after := #[{ on := 10, ground := Ground.data }], guard := none }) (v := ?_) rfl (by kernel_rfl) (by kernel_rfl) (by kernel_rfl) (fun _ _ _ h => h) (Or.inl ⟨by rfl, ?_⟩) (by assumption) ?_
              rotate_left
              · intro wq hSw
                go_simp
                with_reducible rfl
              simp only [Act.put, List.setIfInBounds_toArray, List.set_cons_zero, List.set_cons_succ]
              refine wpAnyH_take (i := 12) (oi := { dst := some 46, op := Op.extract (Operand.tmp 34) 1, type := 4, pos := "more.go:18", after := #[{ on := 10, ground := Ground.data }, { on := 14, ground := Ground.gcOnly Departure.lateStores }], guard := none }) (v := ?_) rfl (by kernel_rfl) (by kernel_rfl) (by kernel_rfl) (fun _ _ _ h => h) (Or.inl ⟨by rfl, ?_⟩) (by assumption) ?_
              rotate_left
              · intro wq hSw
                go_simp
                with_reducible rfl
              simp only [Act.put, List.setIfInBounds_toArray, List.set_cons_zero, List.set_cons_succ]
              refine wpAnyH_ready (rs := [14]) (by kernel_rfl) (by simp) ?_
              refine AllReadyH.cons (o := { dst := none, op := Op.store 23 (Operand.tmp 8) (Operand.tmp 45), type := 0, pos := "more.go:18", after := #[{ on := 13, ground := Ground.data }, { on := 11, ground := Ground.data }, { on := 9, ground := Ground.chain }, { on := 0, ground := Ground.phase }, { on := 1, ground := Ground.phase }, { on := 2, ground := Ground.phase }, { on := 3, ground := Ground.phase }, { on := 4, ground := Ground.phase }, { on := 5, ground := Ground.phase }, { on := 6, ground := Ground.phase }, { on := 7, ground := Ground.phase }, { on := 8, ground := Ground.phase }, { on := 9, ground := Ground.phase }, { on := 10, ground := Ground.phase }, { on := 11, ground := Ground.phase }, { on := 12, ground := Ground.textOnly Departure.lateStores }, { on := 13, ground := Ground.phase }], guard := none }) rfl (fun K hK => ?_) ?_
              · obtain ⟨z42_0, z42_1⟩ := of2 (unhide f41)
                have z42f : ∀ o, World.frozen? w38 ⟨w14.heap.size, o, none⟩ = false := fun o => frozen_free (unhide f41)
                have z42l := heap_lt (unhide f41)
                go_simp
                refine hK.out _ _ (trivial) (fun hHeld => ?_)
                clear hK K
                refine wpAnyH_take (i := 15) (oi := { dst := some 9, op := Op.assign (Operand.tmp 46), type := 4, pos := "more.go:18", after := #[{ on := 12, ground := Ground.data }, { on := 14, ground := Ground.chain }, { on := 0, ground := Ground.phase }, { on := 1, ground := Ground.phase }, { on := 2, ground := Ground.phase }, { on := 3, ground := Ground.phase }, { on := 4, ground := Ground.phase }, { on := 5, ground := Ground.phase }, { on := 6, ground := Ground.phase }, { on := 7, ground := Ground.phase }, { on := 8, ground := Ground.phase }, { on := 9, ground := Ground.phase }, { on := 10, ground := Ground.phase }, { on := 11, ground := Ground.phase }, { on := 12, ground := Ground.phase }, { on := 13, ground := Ground.phase }, { on := 14, ground := Ground.phase }], guard := none }) (v := ?_) rfl (by kernel_rfl) (by kernel_rfl) (by kernel_rfl) (fun _ _ _ h => h) (Or.inl ⟨by rfl, ?_⟩) (by assumption) ?_
                rotate_left
                · intro wq hSw
                  go_simp
                  with_reducible rfl
                simp only [Act.put, List.setIfInBounds_toArray, List.set_cons_zero, List.set_cons_succ]
                refine wpAnyH_done (by kernel_rfl) ?_ _
                go_wp2
                go_meet
                case rel =>
                  have y43g : U.heap.size ≤ w14.heap.size := (R20).size
                  refine ⟨w14.heap.size, rfl, rfl, One.put (of_blk (unhide f41)) sa sb, ((R40).setCell y43g _).setCell y43g _⟩
              exact AllReadyH.nil
            exact AllReadyH.nil
          exact AllReadyH.nil
        refine AllReadyH.cons (o := { dst := some 8, op := Op.alloc 23, type := 0, pos := "more.go:18", after := #[], guard := none }) rfl (fun K hK => ?_) ?_
        · go_simp
          refine hK.out _ _ (trivial) (fun hHeld => ?_)
          clear hK K
          obtain ⟨V44, h46⟩ : ∃ V44, World.alloc w6 (.cells #[.int .i64 0, .int .i64 0] 23) = V44 := ⟨_, rfl⟩
          rw [h46]
          have R45 : Below U.heap.size U V44 := by rw [← h46]; exact (show Below U.heap.size U (World.alloc w6 (.cells #[.int .i64 0, .int .i64 0] 23)) from (R12).alloc (R12).size _)
          have b47 : Below w6.heap.size w6 V44 := by rw [← h46]; exact (show Below w6.heap.size w6 (World.alloc w6 (.cells #[.int .i64 0, .int .i64 0] 23)) from (Below.refl _ _).alloc (Nat.le_refl _) _)
          have f48 := hide ((unhide f13).below b47)
          clear f13
          have f49 := hide (show V44.heap[w6.heap.size]? = some (.cells #[.int .i64 0, .int .i64 0] 23 (0, 0)) by rw [← h46]; exact box_nw _ _)
          clear h46 b47
          refine wpAnyH_ready (rs := [8]) (by kernel_rfl) (by simp) ?_
          refine AllReadyH.cons (o := { dst := some 43, op := Op.call { callee := Callee.builtin Builtin.append, args := #[Operand.tmp 39, Operand.tmp 42], argTypes := #[33, 33] }, type := 33, pos := "more.go:18", after := #[{ on := 4, ground := Ground.data }, { on := 7, ground := Ground.data }, { on := 4, ground := Ground.chain }], guard := none }) rfl (fun K hK => ?_) ?_
          · refine step_app rowI (by rfl) (.tmp 39) (.tmp 42) (by rfl) U.heap.size q7 c8 ([] ++ xs.drop k) (some ⟨b, off, none⟩) cap (xs.take k) (n - k) k n (by rw [List.nil_append, List.length_drop, unhide HN]) (by rw [List.length_take, unhide HN]; omega) (by omega) (by rfl) (by rfl) (unhide f48) (unhide HSt _ R45) (by unfold maxLen; omega) (by omega) (R45).size ?_
            intro q51 c52 w50 o53 b54 _ g55
            have R56 : Below U.heap.size U w50 := (R45).trans b54
            have f57 := hide (box_app (unhide f48) (unhide f49) g55)
            clear f49
            have f58 := hide o53
            clear o53 b54 g55 f48
            refine hK.out _ _ (trivial) (fun hHeld => ?_)
            clear hK K
            refine wpAnyH_ready (rs := [9]) (by kernel_rfl) (by simp) ?_
            refine AllReadyH.cons (o := { dst := some 44, op := Op.call { callee := Callee.value (Operand.func 19), args := #[Operand.tmp 43], argTypes := #[33] }, type := 27, pos := "more.go:18", after := #[{ on := 8, ground := Ground.data }, { on := 8, ground := Ground.chain }], guard := none }) rfl (fun K hK => ?_) ?_
            · go_simp
              refine (hc2 q51 c52 _ (by omega) (unhide f58).ls.2.2.2).mono ?_
              rintro e w59 ⟨rfl, b60⟩
              have R61 : Below U.heap.size U w59 := below_sub R56 b60
              have f62 := hide (((b60).block _ (heap_lt (unhide f57))).trans (unhide f57))
              clear f57
              clear b60 f58
              refine hK.out _ _ (trivial) (fun hHeld => ?_)
              clear hK K
              refine wpAnyH_take (i := 10) (oi := { dst := some 34, op := Op.move (Operand.tmp 44), type := 27, pos := "more.go:18", after := #[{ on := 9, ground := Ground.data }], guard := none }) (v := ?_) rfl (by kernel_rfl) (by kernel_rfl) (by kernel_rfl) (fun _ _ _ h => h) (Or.inl ⟨by rfl, ?_⟩) (by assumption) ?_
              rotate_left
              · intro wq hSw
                go_simp
                with_reducible rfl
              simp only [Act.put, List.setIfInBounds_toArray, List.set_cons_zero, List.set_cons_succ]
              refine wpAnyH_take (i := 11) (oi := { dst := some 45, op := Op.extract (Operand.tmp 34) 0, type := 23, pos := "more.go:18", after := #[{ on := 10, ground := Ground.data }], guard := none }) (v := ?_) rfl (by kernel_rfl) (by kernel_rfl) (by kernel_rfl) (fun _ _ _ h => h) (Or.inl ⟨by rfl, ?_⟩) (by assumption) ?_
              rotate_left
              · intro wq hSw
                go_simp
                with_reducible rfl
              simp only [Act.put, List.setIfInBounds_toArray, List.set_cons_zero, List.set_cons_succ]
              refine wpAnyH_take (i := 12) (oi := { dst := some 46, op := Op.extract (Operand.tmp 34) 1, type := 4, pos := "more.go:18", after := #[{ on := 10, ground := Ground.data }, { on := 14, ground := Ground.gcOnly Departure.lateStores }], guard := none }) (v := ?_) rfl (by kernel_rfl) (by kernel_rfl) (by kernel_rfl) (fun _ _ _ h => h) (Or.inl ⟨by rfl, ?_⟩) (by assumption) ?_
              rotate_left
              · intro wq hSw
                go_simp
                with_reducible rfl
              simp only [Act.put, List.setIfInBounds_toArray, List.set_cons_zero, List.set_cons_succ]
              refine wpAnyH_ready (rs := [14]) (by kernel_rfl) (by simp) ?_
              refine AllReadyH.cons (o := { dst := none, op := Op.store 23 (Operand.tmp 8) (Operand.tmp 45), type := 0, pos := "more.go:18", after := #[{ on := 13, ground := Ground.data }, { on := 11, ground := Ground.data }, { on := 9, ground := Ground.chain }, { on := 0, ground := Ground.phase }, { on := 1, ground := Ground.phase }, { on := 2, ground := Ground.phase }, { on := 3, ground := Ground.phase }, { on := 4, ground := Ground.phase }, { on := 5, ground := Ground.phase }, { on := 6, ground := Ground.phase }, { on := 7, ground := Ground.phase }, { on := 8, ground := Ground.phase }, { on := 9, ground := Ground.phase }, { on := 10, ground := Ground.phase }, { on := 11, ground := Ground.phase }, { on := 12, ground := Ground.textOnly Departure.lateStores }, { on := 13, ground := Ground.phase }], guard := none }) rfl (fun K hK => ?_) ?_
              · obtain ⟨z63_0, z63_1⟩ := of2 (unhide f62)
                have z63f : ∀ o, World.frozen? w59 ⟨w6.heap.size, o, none⟩ = false := fun o => frozen_free (unhide f62)
                have z63l := heap_lt (unhide f62)
                go_simp
                refine hK.out _ _ (trivial) (fun hHeld => ?_)
                clear hK K
                refine wpAnyH_take (i := 15) (oi := { dst := some 9, op := Op.assign (Operand.tmp 46), type := 4, pos := "more.go:18", after := #[{ on := 12, ground := Ground.data }, { on := 14, ground := Ground.chain }, { on := 0, ground := Ground.phase }, { on := 1, ground := Ground.phase }, { on := 2, ground := Ground.phase }, { on := 3, ground := Ground.phase }, { on := 4, ground := Ground.phase }, { on := 5, ground := Ground.phase }, { on := 6, ground := Ground.phase }, { on := 7, ground := Ground.phase }, { on := 8, ground := Ground.phase }, { on := 9, ground := Ground.phase }, { on := 10, ground := Ground.phase }, { on := 11, ground := Ground.phase }, { on := 12, ground := Ground.phase }, { on := 13, ground := Ground.phase }, { on := 14, ground := Ground.phase }], guard := none }) (v := ?_) rfl (by kernel_rfl) (by kernel_rfl) (by kernel_rfl) (fun _ _ _ h => h) (Or.inl ⟨by rfl, ?_⟩) (by assumption) ?_
                rotate_left
                · intro wq hSw
                  go_simp
                  with_reducible rfl
                simp only [Act.put, List.setIfInBounds_toArray, List.set_cons_zero, List.set_cons_succ]
                refine wpAnyH_done (by kernel_rfl) ?_ _
                go_wp2
                go_meet
                case rel =>
                  have y64g : U.heap.size ≤ w6.heap.size := (R12).size
                  refine ⟨w6.heap.size, rfl, rfl, One.put (of_blk (unhide f62)) sa sb, ((R61).setCell y64g _).setCell y64g _⟩
              exact AllReadyH.nil
            exact AllReadyH.nil
          exact AllReadyH.nil
        exact AllReadyH.nil
      refine AllReadyH.cons (o := { dst := some 8, op := Op.alloc 23, type := 0, pos := "more.go:18", after := #[], guard := none }) rfl (fun K hK => ?_) ?_
      · go_simp
        refine hK.out _ _ (trivial) (fun hHeld => ?_)
        clear hK K
        obtain ⟨V65, h67⟩ : ∃ V65, World.alloc V1 (.cells #[.int .i64 0, .int .i64 0] 23) = V65 := ⟨_, rfl⟩
        rw [h67]
        have R66 : Below U.heap.size U V65 := by rw [← h67]; exact (show Below U.heap.size U (World.alloc V1 (.cells #[.int .i64 0, .int .i64 0] 23)) from (R2).alloc (R2).size _)
        have b68 : Below V1.heap.size V1 V65 := by rw [← h67]; exact (show Below V1.heap.size V1 (World.alloc V1 (.cells #[.int .i64 0, .int .i64 0] 23)) from (Below.refl _ _).alloc (Nat.le_refl _) _)
        have f69 := hide ((unhide f5).below b68)
        clear f5
        have f70 := hide (show V65.heap[V1.heap.size]? = some (.cells #[.int .i64 0, .int .i64 0] 23 (0, 0)) by rw [← h67]; exact box_nw _ _)
        clear h67 b68
        refine wpAnyH_ready (rs := [4]) (by kernel_rfl) (by simp) ?_
        refine AllReadyH.cons (o := { dst := some 39, op := Op.call { callee := Callee.builtin Builtin.append, args := #[Operand.tmp 35, Operand.tmp 38], argTypes := #[33, 33] }, type := 33, pos := "more.go:18", after := #[{ on := 0, ground := Ground.data }, { on := 3, ground := Ground.data }], guard := none }) rfl (fun K hK => ?_) ?_
        · refine step_app rowI (by rfl) (.tmp 35) (.tmp 38) (by rfl) U.heap.size (some ⟨U.heap.size, 0, none⟩) 0 [] (some ⟨b, off + k, none⟩) (cap - k) (xs.drop k) 0 (n - k) (n - k) rfl (by rw [List.length_drop, unhide HN]) (by omega) (by rfl) (by rfl) (unhide f69) (unhide HSd _ R66) (by unfold maxLen; omega) (by omega) (R66).size ?_
          intro q72 c73 w71 o74 b75 _ g76
          have R77 : Below U.heap.size U w71 := (R66).trans b75
          have f78 := hide (box_app (unhide f69) (unhide f70) g76)
          clear f70
          have f79 := hide o74
          clear o74 b75 g76 f69
          refine hK.out _ _ (trivial) (fun hHeld => ?_)
          clear hK K
          refine wpAnyH_ready (rs := [8]) (by kernel_rfl) (by simp) ?_
          refine AllReadyH.cons (o := { dst := some 43, op := Op.call { callee := Callee.builtin Builtin.append, args := #[Operand.tmp 39, Operand.tmp 42], argTypes := #[33, 33] }, type := 33, pos := "more.go:18", after := #[{ on := 4, ground := Ground.data }, { on := 7, ground := Ground.data }, { on := 4, ground := Ground.chain }], guard := none }) rfl (fun K hK => ?_) ?_
          · refine step_app rowI (by rfl) (.tmp 39) (.tmp 42) (by rfl) U.heap.size q72 c73 ([] ++ xs.drop k) (some ⟨b, off, none⟩) cap (xs.take k) (n - k) k n (by rw [List.nil_append, List.length_drop, unhide HN]) (by rw [List.length_take, unhide HN]; omega) (by omega) (by rfl) (by rfl) (unhide f79) (unhide HSt _ R77) (by unfold maxLen; omega) (by omega) (R77).size ?_
            intro q81 c82 w80 o83 b84 _ g85
            have R86 : Below U.heap.size U w80 := (R77).trans b84
            have f87 := hide (box_app (unhide f79) (unhide f78) g85)
            clear f78
            have f88 := hide o83
            clear o83 b84 g85 f79
            refine hK.out _ _ (trivial) (fun hHeld => ?_)
            clear hK K
            refine wpAnyH_ready (rs := [9]) (by kernel_rfl) (by simp) ?_
            refine AllReadyH.cons (o := { dst := some 44, op := Op.call { callee := Callee.value (Operand.func 19), args := #[Operand.tmp 43], argTypes := #[33] }, type := 27, pos := "more.go:18", after := #[{ on := 8, ground := Ground.data }, { on := 8, ground := Ground.chain }], guard := none }) rfl (fun K hK => ?_) ?_
            · go_simp
              refine (hc2 q81 c82 _ (by omega) (unhide f88).ls.2.2.2).mono ?_
              rintro e w89 ⟨rfl, b90⟩
              have R91 : Below U.heap.size U w89 := below_sub R86 b90
              have f92 := hide (((b90).block _ (heap_lt (unhide f87))).trans (unhide f87))
              clear f87
              clear b90 f88
              refine hK.out _ _ (trivial) (fun hHeld => ?_)
              clear hK K
              refine wpAnyH_take (i := 10) (oi := { dst := some 34, op := Op.move (Operand.tmp 44), type := 27, pos := "more.go:18", after := #[{ on := 9, ground := Ground.data }], guard := none }) (v := ?_) rfl (by kernel_rfl) (by kernel_rfl) (by kernel_rfl) (fun _ _ _ h => h) (Or.inl ⟨by rfl, ?_⟩) (by assumption) ?_
              rotate_left
              · intro wq hSw
                go_simp
                with_reducible rfl
              simp only [Act.put, List.setIfInBounds_toArray, List.set_cons_zero, List.set_cons_succ]
              refine wpAnyH_take (i := 11) (oi := { dst := some 45, op := Op.extract (Operand.tmp 34) 0, type := 23, pos := "more.go:18", after := #[{ on := 10, ground := Ground.data }], guard := none }) (v := ?_) rfl (by kernel_rfl) (by kernel_rfl) (by kernel_rfl) (fun _ _ _ h => h) (Or.inl ⟨by rfl, ?_⟩) (by assumption) ?_
              rotate_left
              · intro wq hSw
                go_simp
                with_reducible rfl
              simp only [Act.put, List.setIfInBounds_toArray, List.set_cons_zero, List.set_cons_succ]
              refine wpAnyH_take (i := 12) (oi := { dst := some 46, op := Op.extract (Operand.tmp 34) 1, type := 4, pos := "more.go:18", after := #[{ on := 10, ground := Ground.data }, { on := 14, ground := Ground.gcOnly Departure.lateStores }], guard := none }) (v := ?_) rfl (by kernel_rfl) (by kernel_rfl) (by kernel_rfl) (fun _ _ _ h => h) (Or.inl ⟨by rfl, ?_⟩) (by assumption) ?_
              rotate_left
              · intro wq hSw
                go_simp
                with_reducible rfl
              simp only [Act.put, List.setIfInBounds_toArray, List.set_cons_zero, List.set_cons_succ]
              refine wpAnyH_ready (rs := [14]) (by kernel_rfl) (by simp) ?_
              refine AllReadyH.cons (o := { dst := none, op := Op.store 23 (Operand.tmp 8) (Operand.tmp 45), type := 0, pos := "more.go:18", after := #[{ on := 13, ground := Ground.data }, { on := 11, ground := Ground.data }, { on := 9, ground := Ground.chain }, { on := 0, ground := Ground.phase }, { on := 1, ground := Ground.phase }, { on := 2, ground := Ground.phase }, { on := 3, ground := Ground.phase }, { on := 4, ground := Ground.phase }, { on := 5, ground := Ground.phase }, { on := 6, ground := Ground.phase }, { on := 7, ground := Ground.phase }, { on := 8, ground := Ground.phase }, { on := 9, ground := Ground.phase }, { on := 10, ground := Ground.phase }, { on := 11, ground := Ground.phase }, { on := 12, ground := Ground.textOnly Departure.lateStores }, { on := 13, ground := Ground.phase }], guard := none }) rfl (fun K hK => ?_) ?_
              · obtain ⟨z93_0, z93_1⟩ := of2 (unhide f92)
                have z93f : ∀ o, World.frozen? w89 ⟨V1.heap.size, o, none⟩ = false := fun o => frozen_free (unhide f92)
                have z93l := heap_lt (unhide f92)
                go_simp
                refine hK.out _ _ (trivial) (fun hHeld => ?_)
                clear hK K
                refine wpAnyH_take (i := 15) (oi := { dst := some 9, op := Op.assign (Operand.tmp 46), type := 4, pos := "more.go:18", after := #[{ on := 12, ground := Ground.data }, { on := 14, ground := Ground.chain }, { on := 0, ground := Ground.phase }, { on := 1, ground := Ground.phase }, { on := 2, ground := Ground.phase }, { on := 3, ground := Ground.phase }, { on := 4, ground := Ground.phase }, { on := 5, ground := Ground.phase }, { on := 6, ground := Ground.phase }, { on := 7, ground := Ground.phase }, { on := 8, ground := Ground.phase }, { on := 9, ground := Ground.phase }, { on := 10, ground := Ground.phase }, { on := 11, ground := Ground.phase }, { on := 12, ground := Ground.phase }, { on := 13, ground := Ground.phase }, { on := 14, ground := Ground.phase }], guard := none }) (v := ?_) rfl (by kernel_rfl) (by kernel_rfl) (by kernel_rfl) (fun _ _ _ h => h) (Or.inl ⟨by rfl, ?_⟩) (by assumption) ?_
                rotate_left
                · intro wq hSw
                  go_simp
                  with_reducible rfl
                simp only [Act.put, List.setIfInBounds_toArray, List.set_cons_zero, List.set_cons_succ]
                refine wpAnyH_done (by kernel_rfl) ?_ _
                go_wp2
                go_meet
                case rel =>
                  have y94g : U.heap.size ≤ V1.heap.size := (R2).size
                  refine ⟨V1.heap.size, rfl, rfl, One.put (of_blk (unhide f92)) sa sb, ((R91).setCell y94g _).setCell y94g _⟩
              exact AllReadyH.nil
            exact AllReadyH.nil
          exact AllReadyH.nil
        exact AllReadyH.nil
      exact AllReadyH.nil
    refine AllReadyH.cons (o := { dst := some 8, op := Op.alloc 23, type := 0, pos := "more.go:18", after := #[], guard := none }) rfl (fun K hK => ?_) ?_
    · go_simp
      refine hK.out _ _ (trivial) (fun hHeld => ?_)
      clear hK K
      obtain ⟨V95, h97⟩ : ∃ V95, (World.alloc U (.cells #[.int .i64 0, .int .i64 0] 23)).drew = V95 := ⟨_, rfl⟩
      rw [h97]
      have R96 : Below U.heap.size U V95 := by rw [← h97]; exact (show Below U.heap.size U (World.alloc U.drew (.cells #[.int .i64 0, .int .i64 0] 23)) from (R0).alloc (R0).size _)
      have b98 : Below U.drew.heap.size U.drew V95 := by rw [← h97]; exact (show Below U.drew.heap.size U.drew (World.alloc U.drew (.cells #[.int .i64 0, .int .i64 0] 23)) from (Below.refl _ _).alloc (Nat.le_refl _) _)
      have f99 := hide (show V95.heap[U.heap.size]? = some (.cells #[.int .i64 0, .int .i64 0] 23 (0, 0)) by rw [← h97]; exact box_nw _ _)
      clear h97 b98
      refine wpAnyH_ready (rs := [0]) (by kernel_rfl) (by simp) ?_
      refine AllReadyH.cons (o := { dst := some 35, op := Op.buildSlice 33 0 #[], type := 33, pos := "more.go:18", after := #[], guard := none }) rfl (fun K hK => ?_) ?_
      · go_simp
        refine hK.out _ _ (trivial) (fun hHeld => ?_)
        clear hK K
        obtain ⟨V100, h102⟩ : ∃ V100, World.alloc V95 (.cells #[] 3) = V100 := ⟨_, rfl⟩
        rw [h102]
        have R101 : Below U.heap.size U V100 := by rw [← h102]; exact (show Below U.heap.size U (World.alloc V95 (.cells #[] 3)) from (R96).alloc (R96).size _)
        have b103 : Below V95.heap.size V95 V100 := by rw [← h102]; exact (show Below V95.heap.size V95 (World.alloc V95 (.cells #[] 3)) from (Below.refl _ _).alloc (Nat.le_refl _) _)
        have f104 := hide (((b103).block _ (heap_lt (unhide f99))).trans (unhide f99))
        clear f99
        have f105 := hide (show OwnK encI 3 1 U.heap.size V100 (some ⟨V95.heap.size, 0, none⟩) 0 [] by rw [← h102]; exact (show OwnK encI 3 1 U.heap.size (World.alloc V95 (.cells #[] 3)) (some ⟨V95.heap.size, 0, none⟩) 0 [] from OwnK.made _ _ (R96).size))
        clear h102 b103
        refine wpAnyH_ready (rs := [4]) (by kernel_rfl) (by simp) ?_
        refine AllReadyH.cons (o := { dst := some 39, op := Op.call { callee := Callee.builtin Builtin.append, args := #[Operand.tmp 35, Operand.tmp 38], argTypes := #[33, 33] }, type := 33, pos := "more.go:18", after := #[{ on := 0, ground := Ground.data }, { on := 3, ground := Ground.data }], guard := none }) rfl (fun K hK => ?_) ?_
        · refine step_app rowI (by rfl) (.tmp 35) (.tmp 38) (by rfl) U.heap.size (some ⟨V95.heap.size, 0, none⟩) 0 [] (some ⟨b, off + k, none⟩) (cap - k) (xs.drop k) 0 (n - k) (n - k) rfl (by rw [List.length_drop, unhide HN]) (by omega) (by rfl) (by rfl) (unhide f105) (unhide HSd _ R101) (by unfold maxLen; omega) (by omega) (R101).size ?_
          intro q107 c108 w106 o109 b110 _ g111
          have R112 : Below U.heap.size U w106 := (R101).trans b110
          have f113 := hide (box_app (unhide f105) (unhide f104) g111)
          clear f104
          have f114 := hide o109
          clear o109 b110 g111 f105
          refine hK.out _ _ (trivial) (fun hHeld => ?_)
          clear hK K
          refine wpAnyH_ready (rs := [8]) (by kernel_rfl) (by simp) ?_
          refine AllReadyH.cons (o := { dst := some 43, op := Op.call { callee := Callee.builtin Builtin.append, args := #[Operand.tmp 39, Operand.tmp 42], argTypes := #[33, 33] }, type := 33, pos := "more.go:18", after := #[{ on := 4, ground := Ground.data }, { on := 7, ground := Ground.data }, { on := 4, ground := Ground.chain }], guard := none }) rfl (fun K hK => ?_) ?_
          · refine step_app rowI (by rfl) (.tmp 39) (.tmp 42) (by rfl) U.heap.size q107 c108 ([] ++ xs.drop k) (some ⟨b, off, none⟩) cap (xs.take k) (n - k) k n (by rw [List.nil_append, List.length_drop, unhide HN]) (by rw [List.length_take, unhide HN]; omega) (by omega) (by rfl) (by rfl) (unhide f114) (unhide HSt _ R112) (by unfold maxLen; omega) (by omega) (R112).size ?_
            intro q116 c117 w115 o118 b119 _ g120
            have R121 : Below U.heap.size U w115 := (R112).trans b119
            have f122 := hide (box_app (unhide f114) (unhide f113) g120)
            clear f113
            have f123 := hide o118
            clear o118 b119 g120 f114
            refine hK.out _ _ (trivial) (fun hHeld => ?_)
            clear hK K
            refine wpAnyH_ready (rs := [9]) (by kernel_rfl) (by simp) ?_
            refine AllReadyH.cons (o := { dst := some 44, op := Op.call { callee := Callee.value (Operand.func 19), args := #[Operand.tmp 43], argTypes := #[33] }, type := 27, pos := "more.go:18", after := #[{ on := 8, ground := Ground.data }, { on := 8, ground := Ground.chain }], guard := none }) rfl (fun K hK => ?_) ?_
            · go_simp
              refine (hc2 q116 c117 _ (by omega) (unhide f123).ls.2.2.2).mono ?_
              rintro e w124 ⟨rfl, b125⟩
              have R126 : Below U.heap.size U w124 := below_sub R121 b125
              have f127 := hide (((b125).block _ (heap_lt (unhide f122))).trans (unhide f122))
              clear f122
              clear b125 f123
              refine hK.out _ _ (trivial) (fun hHeld => ?_)
              clear hK K
              refine wpAnyH_take (i := 10) (oi := { dst := some 34, op := Op.move (Operand.tmp 44), type := 27, pos := "more.go:18", after := #[{ on := 9, ground := Ground.data }], guard := none }) (v := ?_) rfl (by kernel_rfl) (by kernel_rfl) (by kernel_rfl) (fun _ _ _ h => h) (Or.inl ⟨by rfl, ?_⟩) (by assumption) ?_
              rotate_left
              · intro wq hSw
                go_simp
                with_reducible rfl
              simp only [Act.put, List.setIfInBounds_toArray, List.set_cons_zero, List.set_cons_succ]
              refine wpAnyH_take (i := 11) (oi := { dst := some 45, op := Op.extract (Operand.tmp 34) 0, type := 23, pos := "more.go:18", after := #[{ on := 10, ground := Ground.data }], guard := none }) (v := ?_) rfl (by kernel_rfl) (by kernel_rfl) (by kernel_rfl) (fun _ _ _ h => h) (Or.inl ⟨by rfl, ?_⟩) (by assumption) ?_
              rotate_left
              · intro wq hSw
                go_simp
                with_reducible rfl
              simp only [Act.put, List.setIfInBounds_toArray, List.set_cons_zero, List.set_cons_succ]
              refine wpAnyH_take (i := 12) (oi := { dst := some 46, op := Op.extract (Operand.tmp 34) 1, type := 4, pos := "more.go:18", after := #[{ on := 10, ground := Ground.data }, { on := 14, ground := Ground.gcOnly Departure.lateStores }], guard := none }) (v := ?_) rfl (by kernel_rfl) (by kernel_rfl) (by kernel_rfl) (fun _ _ _ h => h) (Or.inl ⟨by rfl, ?_⟩) (by assumption) ?_
              rotate_left
              · intro wq hSw
                go_simp
                with_reducible rfl
              simp only [Act.put, List.setIfInBounds_toArray, List.set_cons_zero, List.set_cons_succ]
              refine wpAnyH_ready (rs := [14]) (by kernel_rfl) (by simp) ?_
              refine AllReadyH.cons (o := { dst := none, op := Op.store 23 (Operand.tmp 8) (Operand.tmp 45), type := 0, pos := "more.go:18", after := #[{ on := 13, ground := Ground.data }, { on := 11, ground := Ground.data }, { on := 9, ground := Ground.chain }, { on := 0, ground := Ground.phase }, { on := 1, ground := Ground.phase }, { on := 2, ground := Ground.phase }, { on := 3, ground := Ground.phase }, { on := 4, ground := Ground.phase }, { on := 5, ground := Ground.phase }, { on := 6, ground := Ground.phase }, { on := 7, ground := Ground.phase }, { on := 8, ground := Ground.phase }, { on := 9, ground := Ground.phase }, { on := 10, ground := Ground.phase }, { on := 11, ground := Ground.phase }, { on := 12, ground := Ground.textOnly Departure.lateStores }, { on := 13, ground := Ground.phase }], guard := none }) rfl (fun K hK => ?_) ?_
              · obtain ⟨z128_0, z128_1⟩ := of2 (unhide f127)
                have z128f : ∀ o, World.frozen? w124 ⟨U.heap.size, o, none⟩ = false := fun o => frozen_free (unhide f127)
                have z128l := heap_lt (unhide f127)
                go_simp
                refine hK.out _ _ (trivial) (fun hHeld => ?_)
                clear hK K
                refine wpAnyH_take (i := 15) (oi := { dst := some 9, op := Op.assign (Operand.tmp 46), type := 4, pos := "more.go:18", after := #[{ on := 12, ground := Ground.data }, { on := 14, ground := Ground.chain }, { on := 0, ground := Ground.phase }, { on := 1, ground := Ground.phase }, { on := 2, ground := Ground.phase }, { on := 3, ground := Ground.phase }, { on := 4, ground := Ground.phase }, { on := 5, ground := Ground.phase }, { on := 6, ground := Ground.phase }, { on := 7, ground := Ground.phase }, { on := 8, ground := Ground.phase }, { on := 9, ground := Ground.phase }, { on := 10, ground := Ground.phase }, { on := 11, ground := Ground.phase }, { on := 12, ground := Ground.phase }, { on := 13, ground := Ground.phase }, { on := 14, ground := Ground.phase }], guard := none }) (v := ?_) rfl (by kernel_rfl) (by kernel_rfl) (by kernel_rfl) (fun _ _ _ h => h) (Or.inl ⟨by rfl, ?_⟩) (by assumption) ?_
                rotate_left
                · intro wq hSw
                  go_simp
                  with_reducible rfl
                simp only [Act.put, List.setIfInBounds_toArray, List.set_cons_zero, List.set_cons_succ]
                refine wpAnyH_done (by kernel_rfl) ?_ _
                go_wp2
                go_meet
                case rel =>
                  have y129g : U.heap.size ≤ U.heap.size := (R0).size
                  refine ⟨U.heap.size, rfl, rfl, One.put (of_blk (unhide f127)) sa sb, ((R126).setCell y129g _).setCell y129g _⟩
              exact AllReadyH.nil
            exact AllReadyH.nil
          exact AllReadyH.nil
        exact AllReadyH.nil
      exact AllReadyH.nil
    exact AllReadyH.nil
  case rest =>
    obtain ⟨N8, rfl, rfl, h8, hUV⟩ := hcut
    have OSc := hide ((unhide OS).below hUV)
    have H8 := hide h8
    have hel : ∀ V, Below wc.heap.size wc V → ∀ (j : Nat) (x : Int), xs[j]? = some x → V.cell? ⟨b, off + j, none⟩ = some (.int .i64 x) := fun V hv j x hj => by
      obtain ⟨b', off', hq, _, hc⟩ := LsOf.at ((unhide HA).below (below_sub (unhide BU) (below_sub hUV hv))) hj
      injection hq with hq
      injection hq with e1 e2
      subst e1 e2
      have := hc 0 (by omega)
      simpa [encI] using this
    have HEL := hide hel
    have HUV := hide hUV
    obtain ⟨a0, a1, _, a3⟩ := (unhide OSc)
    obtain ⟨d0, d1, _, d3⟩ := h8
    have qn := neqS sa sb sa sb
    rw [show (!decide (sa = sa ∧ sb = sb)) = false by simp] at qn
    have sks : (sk != sk) = false := by simp
    clear hel hUV
    go_wp2
    go_loopw [10, 60] (fun gd i wr => ∃ j : Nat, j ≤ n ∧ i = .int .i64 j ∧ gd = .bool ((xs.take j).all isNum) ∧ wr = wc) (fun _ i _ => n - (intOf i).toNat)
    case atStart => exact ⟨0, by omega, rfl, rfl, rfl⟩
    case round =>
      obtain ⟨j, hj, rfl, rfl, rfl⟩ := hrel
      by_cases hlt : j < n
      · obtain ⟨x, hx, -⟩ := get_at (l := xs) (k := j) (by rw [unhide HN]; exact hlt)
        have gx := unhide HEL _ (Below.refl _ _) j x hx
        have ji0 : (0 : Int) ≤ (j : Int) := by omega
        have ji1 : (j : Int) < (n : Int) := by omega
        have hnx : (xs.take (j + 1)).all isNum = ((xs.take j).all isNum && isNum x) := by
          rw [List.take_add_one, hx]
          simp
        have HX := hide hnx
        clear hx hnx
        cases hg : (xs.take j).all isNum with
        | false =>
          rw [hg] at HX
          clear hg
          go_wp2
          exact ⟨⟨j + 1, by omega, by simp, by rw [unhide HX, Bool.false_and], trivial⟩, by simp [intOf]; omega⟩
        | true =>
          rw [hg] at HX
          clear hg
          by_cases c1 : -2147483648 ≤ x
          · by_cases c2 : x ≤ 2147483647
            · go_wp2
              exact ⟨⟨j + 1, by omega, by simp, by rw [unhide HX]; simp [isNum, c1, c2], trivial⟩, by simp [intOf]; omega⟩
            · go_wp2
              exact ⟨⟨j + 1, by omega, by simp, by rw [unhide HX]; simp [isNum, c1]; omega, trivial⟩, by simp [intOf]; omega⟩
          · go_wp2
            exact ⟨⟨j + 1, by omega, by simp, by rw [unhide HX]; simp [isNum]; omega, trivial⟩, by simp [intOf]; omega⟩
      · obtain rfl : j = n := by omega
        have htk : xs.take j = xs := by rw [← unhide HN, List.take_length]
        rw [htk]
        clear htk
        cases o with
        | none =>
          have hgd := com_none (unhide HO) (by rw [unhide HN]; exact h0)
          rw [hgd]
          have hv := unhide HV
          simp only [comV, Value.tuple.injEq, Array.mk.injEq, List.cons.injEq, Value.agg.injEq, Value.int.injEq, Value.bool.injEq, true_and, and_true] at hv
          obtain ⟨⟨rfl, rfl⟩, rfl⟩ := hv
          have qe := eqlS 0 0 0 0
          rw [show decide ((0 : Int) = 0 ∧ (0 : Int) = 0) = true by decide] at qe
          have ji1 : ¬ (j : Int) < (j : Int) := by omega
          go_wp2
          go_ret
          exact ⟨rfl, below_sub (unhide BU) (unhide HUV)⟩
        | some s =>
          obtain ⟨L, J⟩ := s
          have hci := com_is (unhide HO)
          obtain ⟨hgd, hL32, hok, hallJ, hhalf⟩ := hci
          rw [hgd]
          have hv := unhide HV
          simp only [comV, Value.tuple.injEq, Array.mk.injEq, List.cons.injEq, Value.agg.injEq, Value.int.injEq, Value.bool.injEq, true_and, and_true] at hv
          obtain ⟨⟨rfl, rfl⟩, rfl⟩ := hv
          have ji1 : ¬ (j : Int) < (j : Int) := by omega
          have HCI := hide (And.intro hgd (And.intro hok (And.intro hallJ hhalf)))
          obtain ⟨W, hW⟩ : ∃ W, W = wr := ⟨_, rfl⟩
          subst hW
          clear hgd hok hallJ hhalf
          go_wp2
          go_loopw [13, 14, 85] (fun lf rt i wq => ∃ t : Nat, t ≤ j ∧ i = .int .i64 t ∧ lf = .int .i64 ((xs.take t).countP (lefts L J) : Nat) ∧ rt = .int .i64 ((t - (xs.take t).countP (lefts L J) : Nat) : Int) ∧ Below W.heap.size W wq) (fun _ _ i _ => j - (intOf i).toNat)
          case atStart => exact ⟨0, by omega, rfl, rfl, rfl, Below.refl _ _⟩
          case round =>
            obtain ⟨t, ht, rfl, rfl, rfl, hbq⟩ := hrel
            have e0 := (hbq.cell (p := ⟨Ns, 0, none⟩) (by exact a3)).trans a0
            have e1 := (hbq.cell (p := ⟨Ns, 1, none⟩) (by exact a3)).trans a1
            have HBQ := hide hbq
            have sz5 : Ns < wr.heap.size := Nat.lt_of_lt_of_le a3 hbq.size
            by_cases htl : t < j
            · obtain ⟨x, hx, -⟩ := get_at (l := xs) (k := t) (by rw [unhide HN]; exact htl)
              have gx := unhide HEL _ hbq t x hx
              have hxm := List.mem_of_getElem? hx
              obtain ⟨hgd, hok, hallJ, hhalf⟩ := unhide HCI
              have hxn := List.all_eq_true.1 hgd x hxm
              have h16 := has_good L J hok x
              rw [has_mem hok hxn, hallJ x hxm, decide_eq_true rfl] at h16
              have hct := count_take (p := lefts L J) hx
              have hcl : (xs.take t).countP (lefts L J) ≤ t := Nat.le_trans List.countP_le_length (by simp; omega)
              obtain ⟨M, hM⟩ : ∃ M, (xs.take t).countP (lefts L J) = M := ⟨_, rfl⟩
              rw [hM] at hct hcl
              rw [hM]
              obtain ⟨Rr, hRr⟩ : ∃ Rr, t - M = Rr := ⟨_, rfl⟩
              rw [hRr]
              have ti0 : (0 : Int) ≤ (t : Int) := by omega
              have ti1 : (t : Int) < (j : Int) := by omega
              have bR : Rr ≤ 140737488355328 := by omega
              have bM : M ≤ 140737488355328 := by omega
              have HC := hide (And.intro hct (And.intro hcl hRr))
              rcases Nat.eq_zero_or_pos L with hL0 | hL0
              · have hlx : lefts L J x = false := by simp [lefts, hL0]
                have HLX := hide hlx
                have dL : (L : Int) = 0 := by omega
                have nL : ¬ (0 : Int) < (L : Int) := by omega
                clear hx hxm hgd hok hallJ hhalf hxn hct hcl hM hRr hlx hbq dL hL0
                go_wp2_with (go_at_call 16; refine (h16 _).mono ?_; rintro e w5 ⟨rfl, b5⟩; have f0 := (b5.cell (p := ⟨Ns, 0, none⟩) (by exact sz5)).trans e0; have f1 := (b5.cell (p := ⟨Ns, 1, none⟩) (by exact sz5)).trans e1; have B5 := hide b5; clear b5)
                obtain ⟨hct, hcl, hRr⟩ := unhide HC
                have hct' : (xs.take (t + 1)).countP (lefts L J) = M := by simpa [unhide HLX] using hct
                exact ⟨⟨t + 1, by omega, by simp, by rw [hct'], congrArg (Value.int IntKind.i64) (by rw [hct']; omega), below_sub (unhide HBQ) (unhide B5)⟩, by simp [intOf]; omega⟩
              · obtain ⟨m, hLm⟩ : ∃ m, L = m + 1 := ⟨L - 1, by omega⟩
                have hokm : okN m (2 * J) := okN_half (by rw [← hLm]; exact hok)
                have h16' := has_good m (2 * J) hokm x
                rw [has_mem hokm hxn] at h16'
                have hlx : lefts L J x = decide (plc x / 2 ^ m = 2 * J) := by
                  unfold lefts
                  rw [show L - 1 = m by omega, decide_eq_true hL0, Bool.true_and]
                rw [← hlx] at h16'
                have hJb := (okN_bound hokm).1
                have hJ4 : 2 * J ≤ 4294967296 := by
                  have hle : 2 * J * 1 ≤ 2 * J * 2 ^ m := Nat.mul_le_mul_left _ (Nat.two_pow_pos m)
                  rw [Nat.mul_one] at hle
                  exact Nat.le_trans hle (Nat.le_trans (Nat.le_add_right _ _) hJb)
                obtain ⟨J2, hJ2⟩ : ∃ J2, 2 * J = J2 := ⟨_, rfl⟩
                rw [hJ2] at h16'
                have eJ : IntKind.i64.wrap (2 * (J : Int)) = (J2 : Int) := by rw [IntKind.wrap_i64]; omega
                have eL : IntKind.i64.wrap ((L : Int) - 1) = (m : Int) := by rw [IntKind.wrap_i64]; omega
                have pL : (0 : Int) < (L : Int) := by omega
                have bL : (L : Int) ≤ 32 := by omega
                have HML := hide hLm
                cases hlv : lefts L J x with
                | false =>
                  rw [hlv] at h16'
                  have HLX := hide hlv
                  clear hx hxm hgd hok hallJ hhalf hxn hct hcl hM hRr hlx hbq hLm hokm hJb hJ2 hlv hL0
                  go_wp2_with (first
                    | (go_at_call 16; (with_reducible refine (h16 _).mono ?_); rintro e w5 ⟨rfl, b5⟩; have f0 := (b5.cell (p := ⟨Ns, 0, none⟩) (by exact sz5)).trans e0; have f1 := (b5.cell (p := ⟨Ns, 1, none⟩) (by exact sz5)).trans e1; have B5 := hide b5; clear b5)
                    | (go_at_call 16; (with_reducible refine (h16' _).mono ?_); rintro e w6 ⟨rfl, b6⟩; have B6 := hide b6; clear b6))
                  obtain ⟨hct, hcl, hRr⟩ := unhide HC
                  have hct' : (xs.take (t + 1)).countP (lefts L J) = M := by simpa [unhide HLX] using hct
                  exact ⟨⟨t + 1, by omega, by simp, by rw [hct'], congrArg (Value.int IntKind.i64) (by rw [hct']; omega), below_sub (unhide HBQ) (below_sub (unhide B5) (unhide B6))⟩, by simp [intOf]; omega⟩
                | true =>
                  rw [hlv] at h16'
                  have HLX := hide hlv
                  clear hx hxm hgd hok hallJ hhalf hxn hct hcl hM hRr hlx hbq hLm hokm hJb hJ2 hlv hL0
                  go_wp2_with (first
                    | (go_at_call 16; (with_reducible refine (h16 _).mono ?_); rintro e w5 ⟨rfl, b5⟩; have f0 := (b5.cell (p := ⟨Ns, 0, none⟩) (by exact sz5)).trans e0; have f1 := (b5.cell (p := ⟨Ns, 1, none⟩) (by exact sz5)).trans e1; have B5 := hide b5; clear b5)
                    | (go_at_call 16; (with_reducible refine (h16' _).mono ?_); rintro e w6 ⟨rfl, b6⟩; have B6 := hide b6; clear b6))
                  obtain ⟨hct, hcl, hRr⟩ := unhide HC
                  have hct' : (xs.take (t + 1)).countP (lefts L J) = M + 1 := by simpa [unhide HLX] using hct
                  exact ⟨⟨t + 1, by omega, by simp, congrArg (Value.int IntKind.i64) (by rw [hct']; omega), congrArg (Value.int IntKind.i64) (by rw [hct']; omega), below_sub (unhide HBQ) (below_sub (unhide B5) (unhide B6))⟩, by simp [intOf]; omega⟩
            · obtain rfl : t = j := by omega
              have htk : xs.take t = xs := by rw [← unhide HN, List.take_length]
              rw [htk]
              obtain ⟨hgd, hok, hallJ, hhalf⟩ := unhide HCI
              rcases Nat.eq_zero_or_pos L with hL0 | hL0
              · have dL : ((L : Int) == 0) = true := by simp [hL0]
                have dL2 : (L : Int) = 0 := by omega
                clear hgd hok hallJ hhalf htk hbq hL0
                go_wp2
                all_goals (go_ret; exact ⟨by simp_all, below_sub (unhide BU) (below_sub (unhide HUV) (unhide HBQ))⟩)
              · obtain ⟨m, hLm⟩ : ∃ m, L = m + 1 := ⟨L - 1, by omega⟩
                obtain ⟨⟨y, hy, hyl⟩, z, hz, hzl⟩ := hhalf m hLm
                have lx : ∀ x, lefts L J x = decide (plc x / 2 ^ m = 2 * J) := fun x => by
                  unfold lefts
                  rw [show L - 1 = m by omega, decide_eq_true hL0, Bool.true_and]
                have p1 : 0 < xs.countP (lefts L J) := List.countP_pos_iff.2 ⟨y, hy, by rw [lx]; exact decide_eq_true hyl⟩
                have p2 : xs.countP (lefts L J) < t := by
                  rw [← unhide HN]
                  refine Nat.lt_of_le_of_ne List.countP_le_length fun he => ?_
                  have := List.countP_eq_length.1 he z hz
                  rw [lx] at this
                  exact hzl (of_decide_eq_true this)
                obtain ⟨M, hM⟩ : ∃ M, xs.countP (lefts L J) = M := ⟨_, rfl⟩
                rw [hM] at p1 p2
                rw [hM]
                obtain ⟨Rr, hRr⟩ : ∃ Rr, t - M = Rr := ⟨_, rfl⟩
                rw [hRr]
                have p3 : (0 : Int) < (M : Int) := by omega
                have p4 : (0 : Int) < (Rr : Int) := by omega
                have dL : ((L : Int) == 0) = false := by simp; omega
                have dL2 : ¬ (L : Int) = 0 := by omega
                clear hgd hok hallJ hhalf htk hbq hL0 hLm hyl hzl hy hz lx p1 p2 hM hRr
                go_wp2
                all_goals (go_ret; exact ⟨by simp_all, below_sub (unhide BU) (below_sub (unhide HUV) (unhide HBQ))⟩)

end Go.Proofs.YtjclojeihjgnkaaDoor
