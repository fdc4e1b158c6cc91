/- The law TreeSame returns true, whatever two trees of bounded weight it is given. -/
import Derived.Test.YtmdkdkcjgjknoaaDoorFixed
import Derived.Test.YtmdkdkcjgjknoaaDoorSameText
import Derived.Test.YtmdkdkcjgjknoaaDoorMemNodeAt
import Derived.Test.YtmdkdkcjgjknoaaDoorSameNode
namespace Go.Proofs.YtmdkdkcjgjknoaaDoor
open Go.RowKit

theorem same_text {a b : Nd} (ha : chkN a = true) (hb : chkN b = true) : textB4 a = textB4 b ↔ a = b := by
  unfold textB4
  rw [ha, hb]
  simp only [if_true]
  constructor
  · intro h
    have h2 : (textN a).toArray = (textN b).toArray := congrArg ByteArray.data h
    exact text_inj ha hb (by simpa using h2)
  · intro h; rw [h]
theorem sameT_symm (a b : Nd) : sameT b a = sameT a b := by
  rw [Bool.eq_iff_iff, sameT_iff, sameT_iff]; exact eq_comm
set_option maxRecDepth 100000 in
set_option maxHeartbeats 8000000 in
theorem treeSame_any (ta tb : Nd) (va vb : Nv) (w : World) (hG : G w) (ha : NdIn w va ta) (hb : NdIn w vb tb) (wa : wtN ta ≤ 1000000000) (wb : wtN tb ≤ 1000000000) :
    Calls Tryd.prog 4 #[va.val, vb.val] w fun e w' => e = .returned (.bool true) ∧ Below w.heap.size w w' := by
  obtain ⟨X, HX⟩ : ∃ X, (w.alloc (.cells #[.int .i64 va.kind, .string va.attr, .slice va.qi va.ni va.ci, .slice va.qw va.nw va.cw, .int .i64 va.lo, .int .i64 va.hi, .int .i64 va.op, .slice va.qk va.nk va.ck] 28)).alloc (.cells #[.int .i64 vb.kind, .string vb.attr, .slice vb.qi vb.ni vb.ci, .slice vb.qw vb.nw vb.cw, .int .i64 vb.lo, .int .i64 vb.hi, .int .i64 vb.op, .slice vb.qk vb.nk vb.ck] 28) = X := ⟨_, rfl⟩
  obtain ⟨xa, xb, hwX, hXs⟩ := two HX
  have cells : ∀ W, Below X.heap.size X W → (W.cell? ⟨w.heap.size, 0, none⟩ = some (.int .i64 va.kind) ∧ W.cell? ⟨w.heap.size, 1, none⟩ = some (.string va.attr) ∧ W.cell? ⟨w.heap.size, 2, none⟩ = some (.slice va.qi va.ni va.ci) ∧ W.cell? ⟨w.heap.size, 3, none⟩ = some (.slice va.qw va.nw va.cw) ∧ W.cell? ⟨w.heap.size, 4, none⟩ = some (.int .i64 va.lo) ∧ W.cell? ⟨w.heap.size, 5, none⟩ = some (.int .i64 va.hi) ∧ W.cell? ⟨w.heap.size, 6, none⟩ = some (.int .i64 va.op) ∧ W.cell? ⟨w.heap.size, 7, none⟩ = some (.slice va.qk va.nk va.ck)) ∧ (W.cell? ⟨w.heap.size + 1, 0, none⟩ = some (.int .i64 vb.kind) ∧ W.cell? ⟨w.heap.size + 1, 1, none⟩ = some (.string vb.attr) ∧ W.cell? ⟨w.heap.size + 1, 2, none⟩ = some (.slice vb.qi vb.ni vb.ci) ∧ W.cell? ⟨w.heap.size + 1, 3, none⟩ = some (.slice vb.qw vb.nw vb.cw) ∧ W.cell? ⟨w.heap.size + 1, 4, none⟩ = some (.int .i64 vb.lo) ∧ W.cell? ⟨w.heap.size + 1, 5, none⟩ = some (.int .i64 vb.hi) ∧ W.cell? ⟨w.heap.size + 1, 6, none⟩ = some (.int .i64 vb.op) ∧ W.cell? ⟨w.heap.size + 1, 7, none⟩ = some (.slice vb.qk vb.nk vb.ck)) := fun W hW => ⟨of8 ((hW.block _ (by omega)).trans xa), of8 ((hW.block _ (by omega)).trans xb)⟩
  have sab : ∀ W, Below X.heap.size X W → W.heap[w.heap.size]? = some (.cells #[.int .i64 va.kind, .string va.attr, .slice va.qi va.ni va.ci, .slice va.qw va.nw va.cw, .int .i64 va.lo, .int .i64 va.hi, .int .i64 va.op, .slice va.qk va.nk va.ck] 28 (0, 0)) ∧ W.heap[w.heap.size + 1]? = some (.cells #[.int .i64 vb.kind, .string vb.attr, .slice vb.qi vb.ni vb.ci, .slice vb.qw vb.nw vb.cw, .int .i64 vb.lo, .int .i64 vb.hi, .int .i64 vb.op, .slice vb.qk vb.nk vb.ck] 28 (0, 0)) := fun W hW => ⟨(hW.block _ (by omega)).trans xa, (hW.block _ (by omega)).trans xb⟩
  obtain ⟨⟨a0, a1, a2, a3, a4, a5, a6, a7⟩, b0, b1, b2, b3, b4, b5, b6, b7⟩ := cells X (Below.refl _ _)
  have lt0 : w.heap.size < X.heap.size := by omega
  have hfx := fixed_any X (G_below hG hwX)
  have h21 := fun W (hW : Below X.heap.size X W) => sameM_all ta tb va vb W (ha.keep (below_sub hwX hW)) (hb.keep (below_sub hwX hW)) (OkN.of_wt ta wa)
  have h22a := fun W (hW : Below X.heap.size X W) => same_all ta tb va vb W (ha.keep (below_sub hwX hW)) (hb.keep (below_sub hwX hW)) wa
  have h22b := fun W (hW : Below X.heap.size X W) => same_all tb ta vb va W (hb.keep (below_sub hwX hW)) (ha.keep (below_sub hwX hW)) wb
  have h10 := fun W (hW : Below X.heap.size X W) => node_any ta va W (ha.keep (below_sub hwX hW)) wa
  have h22c := fun W (hW : Below X.heap.size X W) v' (h : NdIn W v' ta) => same_all ta ta va v' W (ha.keep (below_sub hwX hW)) h wa
  have hta := text_len ta
  have htb := text_len tb
  have h11a := fun W (hW : Below X.heap.size X W) => textT_any ta va W (G_below hG (below_sub hwX hW)) (ha.keep (below_sub hwX hW)) wa (by omega)
  have h11b := fun W (hW : Below X.heap.size X W) => textT_any tb vb W (G_below hG (below_sub hwX hW)) (hb.keep (below_sub hwX hW)) wb (by omega)
  have tell := fun h1 h2 => same_text (a := ta) (b := tb) h1 h2
  rw [← sameT_iff] at tell
  rw [sameT_symm ta tb] at h22b
  rw [sameT_yes rfl] at h22c
  simp only [Nv.val] at h21 h22a h22b h22c h10 h11a h11b ⊢
  have HWX := hide hwX
  generalize textB4 ta = s at h11a tell
  generalize textB4 tb = t at h11b tell
  generalize sameT ta tb = sm at h21 h22a h22b tell
  generalize chkN ta = ca at h11a tell
  generalize chkN tb = cb at h11b tell
  clear hta htb wa wb ha hb hG hwX xa xb
  have q : (s = t ∧ (ca = true → cb = true → sm = true)) ∨ ((s.toList == t.toList) = false ∧ (ca = true → cb = true → sm = false)) := by
    by_cases h : s = t
    · exact Or.inl ⟨h, fun h1 h2 => (tell h1 h2).1 h⟩
    · exact Or.inr ⟨toList_ne h, fun h1 h2 => by
        cases e : sm
        · rfl
        · exact absurd ((tell h1 h2).2 e) h⟩
  clear tell
  have CELLS := hide cells
  have SAB := hide sab
  clear cells sab
  cases sm
  all_goals
    go_enter Tryd.func4, Tryd.ntmps4
    go_wp2_with (first
      | (go_at_call 9; refine hfx.mono ?_; rintro e w1 ⟨rfl, g1⟩; have B1 := hide g1; clear a0 a1 a2 a3 a4 a5 a6 a7 b0 b1 b2 b3 b4 b5 b6 b7 g1; obtain ⟨⟨a0, a1, a2, a3, a4, a5, a6, a7⟩, b0, b1, b2, b3, b4, b5, b6, b7⟩ := unhide CELLS w1 (unhide B1))
      | (go_at_call 21; refine (h21 _ (unhide B1)).mono ?_; rintro e w2 ⟨rfl, g2⟩; have B2 := hide (below_sub (unhide B1) g2); clear a0 a1 a2 a3 a4 a5 a6 a7 b0 b1 b2 b3 b4 b5 b6 b7 g2))
    have D2 := hide (show Below X.heap.size X w2.drew from (unhide B2).drew)
    refine wp_region_held_drew (S := fun w' => w'.heap[w.heap.size]? = some (.cells #[.int .i64 va.kind, .string va.attr, .slice va.qi va.ni va.ci, .slice va.qw va.nw va.cw, .int .i64 va.lo, .int .i64 va.hi, .int .i64 va.op, .slice va.qk va.nk va.ck] 28 (0, 0)) ∧ w'.heap[w.heap.size + 1]? = some (.cells #[.int .i64 vb.kind, .string vb.attr, .slice vb.qi vb.ni vb.ci, .slice vb.qw vb.nw vb.cw, .int .i64 vb.lo, .int .i64 vb.hi, .int .i64 vb.op, .slice vb.qk vb.nk vb.ck] 28 (0, 0))) (by kernel_rfl) (unhide SAB w2 (unhide B2)) (fun hHeld => ?_)
    refine wpAnyH_take (i := 0) (oi := { dst := some 15, op := Op.load 28 (Operand.tmp 2), type := 28, pos := "law.go:51", after := #[], guard := none }) (v := ?_) rfl (by kernel_rfl) (by kernel_rfl) (by kernel_rfl) (fun _ _ _ h => h) (Or.inl ⟨by rfl, ?_⟩) (by assumption) ?_
    rotate_left
    · intro wq hSw
      obtain ⟨e0, e1, e2, e3, e4, e5, e6, e7⟩ := of8 hSw.1
      obtain ⟨f0, f1, f2, f3, f4, f5, f6, f7⟩ := of8 hSw.2
      go_simp
      with_reducible rfl
    simp only [Act.put, List.setIfInBounds_toArray, List.set_cons_zero, List.set_cons_succ]
    refine wpAnyH_take (i := 1) (oi := { dst := some 16, op := Op.load 28 (Operand.tmp 3), type := 28, pos := "law.go:51", after := #[], guard := none }) (v := ?_) rfl (by kernel_rfl) (by kernel_rfl) (by kernel_rfl) (fun _ _ _ h => h) (Or.inl ⟨by rfl, ?_⟩) (by assumption) ?_
    rotate_left
    · intro wq hSw
      obtain ⟨e0, e1, e2, e3, e4, e5, e6, e7⟩ := of8 hSw.1
      obtain ⟨f0, f1, f2, f3, f4, f5, f6, f7⟩ := of8 hSw.2
      go_simp
      with_reducible rfl
    simp only [Act.put, List.setIfInBounds_toArray, List.set_cons_zero, List.set_cons_succ]
    refine wpAnyH_take (i := 3) (oi := { dst := some 18, op := Op.move (Operand.tmp 5), type := 4, pos := "law.go:51", after := #[], guard := none }) (v := ?_) rfl (by kernel_rfl) (by kernel_rfl) (by kernel_rfl) (fun _ _ _ h => h) (Or.inl ⟨by rfl, ?_⟩) (by assumption) ?_
    rotate_left
    · intro wq hSw
      obtain ⟨e0, e1, e2, e3, e4, e5, e6, e7⟩ := of8 hSw.1
      obtain ⟨f0, f1, f2, f3, f4, f5, f6, f7⟩ := of8 hSw.2
      go_simp
      with_reducible rfl
    simp only [Act.put, List.setIfInBounds_toArray, List.set_cons_zero, List.set_cons_succ]
    refine wpAnyH_ready (rs := [2]) (by kernel_rfl) (by simp) ?_
    refine AllReadyH.cons (o := { dst := some 17, op := Op.call { callee := Callee.value (Operand.func 22), args := #[Operand.tmp 15, Operand.tmp 16], argTypes := #[28, 28] }, type := 4, pos := "law.go:51", after := #[{ on := 0, ground := Ground.data }, { on := 1, ground := Ground.data }], guard := none }) rfl (fun K hK => ?_) ?_
    · go_simp
      refine (h22a _ (unhide D2)).mono ?_
      rintro e w3 ⟨rfl, g⟩
      have B3 := hide (below_sub (unhide D2) g)
      clear g
      have B3s := unhide SAB w3 (unhide B3)
      refine hK.out _ _ (B3s) (fun hHeld => ?_)
      clear hK K
      refine wpAnyH_take (i := 4) (oi := { dst := some 19, op := Op.binOp BinOp.neq 4 (Operand.tmp 17) (Operand.tmp 18) 4, type := 4, pos := "law.go:51", after := #[{ on := 2, ground := Ground.data }, { on := 3, ground := Ground.data }], guard := none }) (v := ?_) rfl (by kernel_rfl) (by kernel_rfl) (by kernel_rfl) (fun _ _ _ h => h) (Or.inl ⟨by rfl, ?_⟩) (by assumption) ?_
      rotate_left
      · intro wq hSw
        obtain ⟨e0, e1, e2, e3, e4, e5, e6, e7⟩ := of8 hSw.1
        obtain ⟨f0, f1, f2, f3, f4, f5, f6, f7⟩ := of8 hSw.2
        go_simp
        with_reducible rfl
      simp only [Act.put, List.setIfInBounds_toArray, List.set_cons_zero, List.set_cons_succ]
      refine wpAnyH_take (i := 5) (oi := { dst := some 20, op := Op.move (Operand.tmp 19), type := 4, pos := "law.go:51", after := #[{ on := 4, ground := Ground.data }, { on := 2, ground := Ground.chain }], guard := none }) (v := ?_) rfl (by kernel_rfl) (by kernel_rfl) (by kernel_rfl) (fun _ _ _ h => h) (Or.inl ⟨by rfl, ?_⟩) (by assumption) ?_
      rotate_left
      · intro wq hSw
        obtain ⟨e0, e1, e2, e3, e4, e5, e6, e7⟩ := of8 hSw.1
        obtain ⟨f0, f1, f2, f3, f4, f5, f6, f7⟩ := of8 hSw.2
        go_simp
        with_reducible rfl
      simp only [Act.put, List.setIfInBounds_toArray, List.set_cons_zero, List.set_cons_succ]
      refine wpAnyH_take (i := 6) (oi := { dst := some 21, op := Op.load 28 (Operand.tmp 3), type := 28, pos := "law.go:51", after := #[{ on := 5, ground := Ground.guard }], guard := some (5, false) }) (v := ?_) rfl (by kernel_rfl) (by kernel_rfl) (by kernel_rfl) (fun _ _ _ h => h) (Or.inl ⟨by rfl, ?_⟩) (by assumption) ?_
      rotate_left
      · intro wq hSw
        obtain ⟨e0, e1, e2, e3, e4, e5, e6, e7⟩ := of8 hSw.1
        obtain ⟨f0, f1, f2, f3, f4, f5, f6, f7⟩ := of8 hSw.2
        go_simp
        with_reducible rfl
      simp only [Act.put, List.setIfInBounds_toArray, List.set_cons_zero, List.set_cons_succ]
      refine wpAnyH_take (i := 7) (oi := { dst := some 22, op := Op.load 28 (Operand.tmp 2), type := 28, pos := "law.go:51", after := #[{ on := 5, ground := Ground.guard }], guard := some (5, false) }) (v := ?_) rfl (by kernel_rfl) (by kernel_rfl) (by kernel_rfl) (fun _ _ _ h => h) (Or.inl ⟨by rfl, ?_⟩) (by assumption) ?_
      rotate_left
      · intro wq hSw
        obtain ⟨e0, e1, e2, e3, e4, e5, e6, e7⟩ := of8 hSw.1
        obtain ⟨f0, f1, f2, f3, f4, f5, f6, f7⟩ := of8 hSw.2
        go_simp
        with_reducible rfl
      simp only [Act.put, List.setIfInBounds_toArray, List.set_cons_zero, List.set_cons_succ]
      refine wpAnyH_take (i := 9) (oi := { dst := some 24, op := Op.move (Operand.tmp 5), type := 4, pos := "law.go:51", after := #[{ on := 5, ground := Ground.guard }], guard := some (5, false) }) (v := ?_) rfl (by kernel_rfl) (by kernel_rfl) (by kernel_rfl) (fun _ _ _ h => h) (Or.inl ⟨by rfl, ?_⟩) (by assumption) ?_
      rotate_left
      · intro wq hSw
        obtain ⟨e0, e1, e2, e3, e4, e5, e6, e7⟩ := of8 hSw.1
        obtain ⟨f0, f1, f2, f3, f4, f5, f6, f7⟩ := of8 hSw.2
        go_simp
        with_reducible rfl
      simp only [Act.put, List.setIfInBounds_toArray, List.set_cons_zero, List.set_cons_succ]
      refine wpAnyH_ready (rs := [8]) (by kernel_rfl) (by simp) ?_
      refine AllReadyH.cons (o := { dst := some 23, op := Op.call { callee := Callee.value (Operand.func 22), args := #[Operand.tmp 21, Operand.tmp 22], argTypes := #[28, 28] }, type := 4, pos := "law.go:51", after := #[{ on := 6, ground := Ground.data }, { on := 7, ground := Ground.data }, { on := 5, ground := Ground.chain }, { on := 5, ground := Ground.guard }], guard := some (5, false) }) rfl (fun K hK => ?_) ?_
      · go_simp
        refine (h22b _ (unhide B3)).mono ?_
        rintro e w4 ⟨rfl, g⟩
        have B4 := hide (below_sub (unhide B3) g)
        clear g
        have B4s := unhide SAB w4 (unhide B4)
        refine hK.out _ _ (B4s) (fun hHeld => ?_)
        clear hK K
        refine wpAnyH_take (i := 10) (oi := { dst := some 25, op := Op.binOp BinOp.neq 4 (Operand.tmp 23) (Operand.tmp 24) 4, type := 4, pos := "law.go:51", after := #[{ on := 8, ground := Ground.data }, { on := 9, ground := Ground.data }, { on := 5, ground := Ground.guard }], guard := some (5, false) }) (v := ?_) rfl (by kernel_rfl) (by kernel_rfl) (by kernel_rfl) (fun _ _ _ h => h) (Or.inl ⟨by rfl, ?_⟩) (by assumption) ?_
        rotate_left
        · intro wq hSw
          obtain ⟨e0, e1, e2, e3, e4, e5, e6, e7⟩ := of8 hSw.1
          obtain ⟨f0, f1, f2, f3, f4, f5, f6, f7⟩ := of8 hSw.2
          go_simp
          with_reducible rfl
        simp only [Act.put, List.setIfInBounds_toArray, List.set_cons_zero, List.set_cons_succ]
        refine wpAnyH_take (i := 11) (oi := { dst := some 26, op := Op.pick (Operand.tmp 20) (Operand.const (Value.bool true)) (Operand.tmp 25), type := 4, pos := "law.go:51", after := #[{ on := 5, ground := Ground.data }, { on := 10, ground := Ground.data }], guard := none }) (v := ?_) rfl (by kernel_rfl) (by kernel_rfl) (by kernel_rfl) (fun _ _ _ h => h) (Or.inl ⟨by rfl, ?_⟩) (by assumption) ?_
        rotate_left
        · intro wq hSw
          obtain ⟨e0, e1, e2, e3, e4, e5, e6, e7⟩ := of8 hSw.1
          obtain ⟨f0, f1, f2, f3, f4, f5, f6, f7⟩ := of8 hSw.2
          go_simp
          with_reducible rfl
        simp only [Act.put, List.setIfInBounds_toArray, List.set_cons_zero, List.set_cons_succ]
        refine wpAnyH_take (i := 12) (oi := { dst := some 27, op := Op.move (Operand.tmp 26), type := 4, pos := "law.go:51", after := #[{ on := 11, ground := Ground.data }, { on := 8, ground := Ground.chain }], guard := none }) (v := ?_) rfl (by kernel_rfl) (by kernel_rfl) (by kernel_rfl) (fun _ _ _ h => h) (Or.inl ⟨by rfl, ?_⟩) (by assumption) ?_
        rotate_left
        · intro wq hSw
          obtain ⟨e0, e1, e2, e3, e4, e5, e6, e7⟩ := of8 hSw.1
          obtain ⟨f0, f1, f2, f3, f4, f5, f6, f7⟩ := of8 hSw.2
          go_simp
          with_reducible rfl
        simp only [Act.put, List.setIfInBounds_toArray, List.set_cons_zero, List.set_cons_succ]
        refine wpAnyH_take (i := 13) (oi := { dst := some 28, op := Op.load 28 (Operand.tmp 2), type := 28, pos := "law.go:51", after := #[{ on := 12, ground := Ground.guard }], guard := some (12, false) }) (v := ?_) rfl (by kernel_rfl) (by kernel_rfl) (by kernel_rfl) (fun _ _ _ h => h) (Or.inl ⟨by rfl, ?_⟩) (by assumption) ?_
        rotate_left
        · intro wq hSw
          obtain ⟨e0, e1, e2, e3, e4, e5, e6, e7⟩ := of8 hSw.1
          obtain ⟨f0, f1, f2, f3, f4, f5, f6, f7⟩ := of8 hSw.2
          go_simp
          with_reducible rfl
        simp only [Act.put, List.setIfInBounds_toArray, List.set_cons_zero, List.set_cons_succ]
        refine wpAnyH_take (i := 14) (oi := { dst := some 29, op := Op.load 28 (Operand.tmp 2), type := 28, pos := "law.go:51", after := #[{ on := 12, ground := Ground.guard }], guard := some (12, false) }) (v := ?_) rfl (by kernel_rfl) (by kernel_rfl) (by kernel_rfl) (fun _ _ _ h => h) (Or.inl ⟨by rfl, ?_⟩) (by assumption) ?_
        rotate_left
        · intro wq hSw
          obtain ⟨e0, e1, e2, e3, e4, e5, e6, e7⟩ := of8 hSw.1
          obtain ⟨f0, f1, f2, f3, f4, f5, f6, f7⟩ := of8 hSw.2
          go_simp
          with_reducible rfl
        simp only [Act.put, List.setIfInBounds_toArray, List.set_cons_zero, List.set_cons_succ]
        refine wpAnyH_ready (rs := [15]) (by kernel_rfl) (by simp) ?_
        refine AllReadyH.cons (o := { dst := some 30, op := Op.call { callee := Callee.value (Operand.func 10), args := #[Operand.tmp 29], argTypes := #[28] }, type := 28, pos := "law.go:51", after := #[{ on := 14, ground := Ground.data }, { on := 12, ground := Ground.chain }, { on := 12, ground := Ground.guard }], guard := some (12, false) }) rfl (fun K hK => ?_) ?_
        · go_simp
          refine (h10 _ (unhide B4)).mono ?_
          rintro e w5 ⟨⟨v', rfl, sp⟩, g⟩
          simp only
          have SP := hide sp.toIn
          clear sp
          have B5 := hide (below_sub (unhide B4) g)
          clear g
          have B5s := unhide SAB w5 (unhide B5)
          refine hK.out _ _ (B5s) (fun hHeld => ?_)
          clear hK K
          refine wpAnyH_ready (rs := [16]) (by kernel_rfl) (by simp) ?_
          refine AllReadyH.cons (o := { dst := some 31, op := Op.call { callee := Callee.value (Operand.func 22), args := #[Operand.tmp 28, Operand.tmp 30], argTypes := #[28, 28] }, type := 4, pos := "law.go:51", after := #[{ on := 13, ground := Ground.data }, { on := 15, ground := Ground.data }, { on := 15, ground := Ground.chain }, { on := 12, ground := Ground.guard }], guard := some (12, false) }) rfl (fun K hK => ?_) ?_
          · go_simp
            refine (h22c _ (unhide B5) v' (unhide SP)).mono ?_
            rintro e w6 ⟨rfl, g⟩
            have B6 := hide (below_sub (unhide B5) g)
            clear g
            have B6s := unhide SAB w6 (unhide B6)
            refine hK.out _ _ (B6s) (fun hHeld => ?_)
            clear hK K
            refine wpAnyH_take (i := 17) (oi := { dst := some 32, op := Op.unOp UnOp.not 4 (Operand.tmp 31), type := 4, pos := "law.go:51", after := #[{ on := 16, ground := Ground.data }, { on := 12, ground := Ground.guard }], guard := some (12, false) }) (v := ?_) rfl (by kernel_rfl) (by kernel_rfl) (by kernel_rfl) (fun _ _ _ h => h) (Or.inl ⟨by rfl, ?_⟩) (by assumption) ?_
            rotate_left
            · intro wq hSw
              obtain ⟨e0, e1, e2, e3, e4, e5, e6, e7⟩ := of8 hSw.1
              obtain ⟨f0, f1, f2, f3, f4, f5, f6, f7⟩ := of8 hSw.2
              go_simp
              with_reducible rfl
            simp only [Act.put, List.setIfInBounds_toArray, List.set_cons_zero, List.set_cons_succ]
            refine wpAnyH_take (i := 18) (oi := { dst := some 33, op := Op.pick (Operand.tmp 27) (Operand.const (Value.bool true)) (Operand.tmp 32), type := 4, pos := "law.go:51", after := #[{ on := 12, ground := Ground.data }, { on := 17, ground := Ground.data }], guard := none }) (v := ?_) rfl (by kernel_rfl) (by kernel_rfl) (by kernel_rfl) (fun _ _ _ h => h) (Or.inl ⟨by rfl, ?_⟩) (by assumption) ?_
            rotate_left
            · intro wq hSw
              obtain ⟨e0, e1, e2, e3, e4, e5, e6, e7⟩ := of8 hSw.1
              obtain ⟨f0, f1, f2, f3, f4, f5, f6, f7⟩ := of8 hSw.2
              go_simp
              with_reducible rfl
            simp only [Act.put, List.setIfInBounds_toArray, List.set_cons_zero, List.set_cons_succ]
            refine wpAnyH_done (by kernel_rfl) ?_ _
            cases ca <;> cases cb <;> rcases q with ⟨rfl, q1⟩ | ⟨q2, q1⟩
            all_goals first | exact absurd (q1 rfl rfl) (by decide) | skip
            all_goals clear q1
            all_goals
              simp only [code, if_true, Bool.false_eq_true, if_false] at h11a h11b
              obtain ⟨⟨a0, a1, a2, a3, a4, a5, a6, a7⟩, b0, b1, b2, b3, b4, b5, b6, b7⟩ := unhide CELLS w6 (unhide B6)
              go_wp2_with (first
                | (go_at_call 11; have tst := unhide B7; clear tst; refine (h11b w7 (unhide B7)).mono ?_; rintro e w8 ⟨rfl, g8⟩; have B8 := hide (below_sub (unhide B7) g8); clear g8)
                | (go_at_call 11; refine (h11a w6 (unhide B6)).mono ?_; rintro e w7 ⟨rfl, g7⟩; have B7 := hide (below_sub (unhide B6) g7); clear a0 a1 a2 a3 a4 a5 a6 a7 b0 b1 b2 b3 b4 b5 b6 b7 g7; obtain ⟨⟨a0, a1, a2, a3, a4, a5, a6, a7⟩, b0, b1, b2, b3, b4, b5, b6, b7⟩ := unhide CELLS w7 (unhide B7)))
              go_ret
              exact ⟨rfl, below_sub (unhide HWX) (unhide B8)⟩
          exact AllReadyH.nil
        exact AllReadyH.nil
      exact AllReadyH.nil
    exact AllReadyH.nil
end Go.Proofs.YtmdkdkcjgjknoaaDoor
