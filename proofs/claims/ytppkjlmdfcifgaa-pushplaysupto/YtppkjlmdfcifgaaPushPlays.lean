/- The reference's Push, and the law PushPlays. -/
import Derived.Test.YtppkjlmdfcifgaaRefDown2
import Derived.Test.YtppkjlmdfcifgaaRefWide2
import Derived.Test.YtppkjlmdfcifgaaPushHelp
import Derived.Test.YtppkjlmdfcifgaaMemNodeAt
import Derived.Test.YtppkjlmdfcifgaaKeptNode
namespace Go.Proofs.Ytppkjlmdfcifgaa
open Go.RowKit Go.Sort

set_option maxRecDepth 100000 in
set_option maxHeartbeats 4000000 in
theorem refPush_any (x : Nd) (v : Nv) (w : World) (hin : NdIn w v x) (hwt : wtN x ≤ 1000000000) :
    Calls Try.prog 37 #[.agg #[.int .i64 v.kind, .string v.attr, .slice v.qi v.ni v.ci, .slice v.qw v.nw v.cw, .int .i64 v.lo, .int .i64 v.hi, .int .i64 v.op, .slice v.qk v.nk v.ck]] w fun e w' => (∃ v', e = .returned (.tuple #[v'.val, .int .i64 (code (chkN x))]) ∧ NdIn w' v' (PushT x)) ∧ Below w.heap.size w w' := by
  obtain ⟨X, HX⟩ : ∃ X, (w.alloc (.cells #[.int .i64 v.kind, .string v.attr, .slice v.qi v.ni v.ci, .slice v.qw v.nw v.cw, .int .i64 v.lo, .int .i64 v.hi, .int .i64 v.op, .slice v.qk v.nk v.ck] 31)).alloc (.cells #[.int .i64 0, .string ⟨#[]⟩, .slice none 0 0, .slice none 0 0, .int .i64 0, .int .i64 0, .int .i64 0, .slice none 0 0] 31) = X := ⟨_, rfl⟩
  obtain ⟨hX0, hX1, hwX, hXs⟩ := twoM HX
  obtain ⟨x0, x1, x2, x3, x4, x5, x6, x7⟩ := of8' hX0
  obtain ⟨y0, y1, y2, y3, y4, y5, y6, y7⟩ := of8' hX1
  have yf : ∀ o, X.frozen? ⟨w.heap.size + 1, o, none⟩ = false := fun o => frozen_free hX1
  have hz1 : w.heap.size + 1 < X.heap.size := by omega
  have hz0 : w.heap.size < X.heap.size := by omega
  have hc := rchk_any x v X (hin.keep hwX) hwt
  have HWX := hide hwX
  have HX0 := hide hX0
  simp only [Nv.val] at hc
  unfold PushT
  cases hx : chkN x
  · rw [hx] at hc
    simp only [Bool.false_eq_true, if_false]
    simp only [show code false = 1 from rfl]
    clear hin hwX hX0 hX1
    go_enter Try.func37, Try.ntmps37
    go_wp2_with (go_at_call 31; refine hc.mono ?_; rintro e w1 ⟨rfl, b1⟩; obtain ⟨r0, r1, r2, r3, r4, r5, r6, r7⟩ : w1.cell? ⟨w.heap.size + 1, 0, none⟩ = some (.int .i64 0) ∧ w1.cell? ⟨w.heap.size + 1, 1, none⟩ = some (.string ⟨#[]⟩) ∧ w1.cell? ⟨w.heap.size + 1, 2, none⟩ = some (.slice none 0 0) ∧ w1.cell? ⟨w.heap.size + 1, 3, none⟩ = some (.slice none 0 0) ∧ w1.cell? ⟨w.heap.size + 1, 4, none⟩ = some (.int .i64 0) ∧ w1.cell? ⟨w.heap.size + 1, 5, none⟩ = some (.int .i64 0) ∧ w1.cell? ⟨w.heap.size + 1, 6, none⟩ = some (.int .i64 0) ∧ w1.cell? ⟨w.heap.size + 1, 7, none⟩ = some (.slice none 0 0) := ⟨(b1.cell (by exact hz1)).trans y0, (b1.cell (by exact hz1)).trans y1, (b1.cell (by exact hz1)).trans y2, (b1.cell (by exact hz1)).trans y3, (b1.cell (by exact hz1)).trans y4, (b1.cell (by exact hz1)).trans y5, (b1.cell (by exact hz1)).trans y6, (b1.cell (by exact hz1)).trans y7⟩; have rf : ∀ o, w1.frozen? ⟨w.heap.size + 1, o, none⟩ = false := (fun o => (b1.frozen (by exact hz1)).trans (yf o)); have rz : w.heap.size + 1 < w1.heap.size := (by have := b1.size; omega); have B1 := hide b1; clear b1)
    refine bodyPost_ret (v := .tuple #[.agg #[.int .i64 0, .string ⟨#[]⟩, .slice none 0 0, .slice none 0 0, .int .i64 0, .int .i64 0, .int .i64 0, .slice none 0 0], .int .i64 1]) (by simp [results, Try.results37, go_sem, *]) rfl ⟨⟨⟨0, ⟨#[]⟩, none, 0, 0, none, 0, 0, 0, 0, 0, none, 0, 0⟩, rfl, zero_in _⟩, set8_below (g := w.heap.size + 1) (below_sub (unhide HWX) (unhide B1)) (Nat.le_succ _) _ _ _ _ _ _ _ _⟩
  · have hD := fun (W : World) (hW : Below X.heap.size X W) => rdown_any x false v w W hin (below_sub hwX hW) hx hwt
    rw [hx] at hc
    simp only [Nv.val] at hD
    simp only [if_true]
    simp only [show code true = 0 from rfl]
    clear hin hwX hX0 hX1
    go_enter Try.func37, Try.ntmps37
    go_wp2_with (first
      | (go_at_call 31; refine hc.mono ?_; rintro e w1 ⟨rfl, b1⟩; obtain ⟨s0, s1, s2, s3, s4, s5, s6, s7⟩ := of8' ((b1.block _ hz0).trans (unhide HX0)); have B1 := hide b1; clear b1)
      | (go_at_call 94; refine (hD _ (unhide B1)).mono ?_; rintro e w2 ⟨⟨u, rfl, hu⟩, b2'⟩; simp only; have b2 := below_sub (unhide B1) b2'; obtain ⟨r0, r1, r2, r3, r4, r5, r6, r7⟩ : w2.cell? ⟨w.heap.size + 1, 0, none⟩ = some (.int .i64 0) ∧ w2.cell? ⟨w.heap.size + 1, 1, none⟩ = some (.string ⟨#[]⟩) ∧ w2.cell? ⟨w.heap.size + 1, 2, none⟩ = some (.slice none 0 0) ∧ w2.cell? ⟨w.heap.size + 1, 3, none⟩ = some (.slice none 0 0) ∧ w2.cell? ⟨w.heap.size + 1, 4, none⟩ = some (.int .i64 0) ∧ w2.cell? ⟨w.heap.size + 1, 5, none⟩ = some (.int .i64 0) ∧ w2.cell? ⟨w.heap.size + 1, 6, none⟩ = some (.int .i64 0) ∧ w2.cell? ⟨w.heap.size + 1, 7, none⟩ = some (.slice none 0 0) := ⟨(b2.cell (by exact hz1)).trans y0, (b2.cell (by exact hz1)).trans y1, (b2.cell (by exact hz1)).trans y2, (b2.cell (by exact hz1)).trans y3, (b2.cell (by exact hz1)).trans y4, (b2.cell (by exact hz1)).trans y5, (b2.cell (by exact hz1)).trans y6, (b2.cell (by exact hz1)).trans y7⟩; have rf : ∀ o, w2.frozen? ⟨w.heap.size + 1, o, none⟩ = false := (fun o => (b2.frozen (by exact hz1)).trans (yf o)); have rz : w.heap.size + 1 < w2.heap.size := (by have := b2.size; omega); have HU := hide hu; have B2 := hide b2; have S1 := hide (unhide B1).size; clear hu b2 b2'))
    refine bodyPost_ret (v := .tuple #[.agg #[.int .i64 u.kind, .string u.attr, .slice u.qi u.ni u.ci, .slice u.qw u.nw u.cw, .int .i64 u.lo, .int .i64 u.hi, .int .i64 u.op, .slice u.qk u.nk u.ck], .int .i64 0]) (by simp [results, Try.results37, go_sem, *]) rfl ⟨⟨u, rfl, (foot_set8 (gg := w.heap.size + 1) (unhide HU) (by omega) (by have := unhide S1; omega) _ _ _ _ _ _ _ _).now⟩, set8_below (g := w.heap.size + 1) (below_sub (unhide HWX) (unhide B2)) (Nat.le_succ _) _ _ _ _ _ _ _ _⟩
set_option maxRecDepth 100000 in
set_option maxHeartbeats 16000000 in
theorem pushPlays_any (x : Nd) (v : Nv) (m : Int) (w : World) (hin : NdIn w v x) (hwt : wtN x ≤ 100000000) :
    Calls Try.prog 5 #[v.val, .int .i64 m] w fun e w' => e = .returned (.bool true) ∧ Below w.heap.size w w' := by
  have mixed : Try.prog.follows .mixedOrders = true := by kernel_rfl
  have en40 : ∀ args w, (callFunc 40 args).run Try.prog w = .ok (.enter 40 args) w := enters_of Try.func40 (by kernel_rfl) rfl
  have en41 : ∀ args w, (callFunc 41 args).run Try.prog w = .ok (.enter 41 args) w := enters_of Try.func41 (by kernel_rfl) rfl
  have en42 : ∀ args w, (callFunc 42 args).run Try.prog w = .ok (.enter 42 args) w := enters_of Try.func42 (by kernel_rfl) rfl
  have en25 : ∀ args w, (callFunc 25 args).run Try.prog w = .ok (.enter 25 args) w := enters_of Try.func25 (by kernel_rfl) rfl
  obtain ⟨X, HX⟩ : ∃ X, w.alloc (.cells #[.int .i64 v.kind, .string v.attr, .slice v.qi v.ni v.ci, .slice v.qw v.nw v.cw, .int .i64 v.lo, .int .i64 v.hi, .int .i64 v.op, .slice v.qk v.nk v.ck] 31) = X := ⟨_, rfl⟩
  have hX0 : X.heap[w.heap.size]? = some (.cells #[.int .i64 v.kind, .string v.attr, .slice v.qi v.ni v.ci, .slice v.qw v.nw v.cw, .int .i64 v.lo, .int .i64 v.hi, .int .i64 v.op, .slice v.qk v.nk v.ck] 31 (0, 0)) := by rw [← HX]; exact box_nw _ _
  have hwX : Below w.heap.size w X := by rw [← HX]; exact (Below.refl _ _).alloc (Nat.le_refl _) _
  have hz0 := heap_lt hX0
  have hfx := fixed7_any X
  have hNode := fun (W : World) (hW : NdIn W v x) => node_any x v W hW (by omega)
  have hPush := fun (u : Nv) (W : World) (hW : NdIn W u x) => push_any x u W hW (by omega)
  have hRP := fun (W : World) (hW : NdIn W v x) => refPush_any x v W hW (by omega)
  have hRW := fun (W : World) (hW : NdIn W v x) => refWidth_any x m v W hW (by omega)
  have hW : ∀ (u : Nv) (W : World), NdIn W u x → Calls Try.prog 38 #[.agg #[.int .i64 u.kind, .string u.attr, .slice u.qi u.ni u.ci, .slice u.qw u.nw u.cw, .int .i64 u.lo, .int .i64 u.hi, .int .i64 u.op, .slice u.qk u.nk u.ck], .int .i64 m] W fun e w' => e = .returned (.tuple #[.int .i64 (WidthA x m), .int .i64 (WidthE x m)]) ∧ Below W.heap.size W w' := by
    intro u W h
    cases hc : chkN x
    · rw [show WidthA x m = 0 by unfold WidthA; rw [hc]; rfl, show WidthE x m = 1 by unfold WidthE; rw [hc]; rfl]
      exact width_bad x m u W h hc (by omega)
    · exact pushWidth_any x m u W h (by omega) (by have := wt_down x false hc; omega)
  have wP : wtN (PushT x) ≤ 1000000000 := by
    unfold PushT
    cases hc : chkN x
    · exact Nat.le_trans (show wtN zeroT ≤ 1000 by decide +kernel) (by omega)
    · have := wt_down x false hc
      simp only [if_true]; omega
  obtain ⟨T, hT⟩ : ∃ T, PushT x = T := ⟨_, rfl⟩
  obtain ⟨c, hcc⟩ : ∃ c, code (chkN x) = c := ⟨_, rfl⟩
  obtain ⟨A, hA⟩ : ∃ A, WidthA x m = A := ⟨_, rfl⟩
  obtain ⟨E, hE⟩ : ∃ E, WidthE x m = E := ⟨_, rfl⟩
  obtain ⟨P, hP⟩ : ∃ P, (chkN x && atN x) = P := ⟨_, rfl⟩
  rw [hT] at hPush hRP wP
  rw [hcc] at hPush hRP
  rw [hA, hE] at hRW hW
  have f1 : (c == c) = true := by simp
  have f2 : (A == A) = true := by simp
  have f3 : (E == E) = true := by simp
  have f4 : (P == P) = true := by cases P <;> rfl
  simp only [Nv.val] at hNode hPush hRP
  have HX0 := hide hX0
  have HWX := hide hwX
  have HIN := hide (hin.keep hwX)
  have HWT := hide hwt
  have HWP := hide wP
  have HPP := hide hP
  clear hin hX0 hwX hT hcc hA hE wP hP
  simp only [Nv.val]
  go_enter Try.func5, Try.ntmps5
  go_wp2_with (first
    | (go_at_call 35; refine hfx.mono ?_; rintro e w1 ⟨rfl, b1⟩; obtain ⟨s0, s1, s2, s3, s4, s5, s6, s7⟩ := of8' ((b1.block _ hz0).trans (unhide HX0)); have B1 := hide b1; clear b1)
    | (go_at_call 20; refine (hNode _ ((unhide HIN).keep (unhide B1))).mono ?_; rintro e w2 ⟨⟨v2, rfl, hs2⟩, b2⟩; simp only; have B2 := hide (below_sub (unhide B1) b2); have SP2 := hide hs2; clear hs2 b2 s0 s1 s2 s3 s4 s5 s6 s7)
    | (go_at_call 36; refine name_worldM ?_; intro Y2 hY2; obtain ⟨yq, bY2, sY2⟩ := one_nw hY2; clear hY2; refine (hPush v2 _ ((unhide SP2).keep bY2).toIn).mono ?_; rintro e w3 ⟨⟨um, rfl, hu⟩, b3⟩; simp only; have bb := below_sub bY2 b3; have B3 := hide (below_sub (unhide B2) bb); have SP3 := hide ((unhide SP2).keep bb); have NM3 := hide hu.toIn; have HQ3 := hide ((b3.block _ (heap_lt yq)).trans yq); obtain ⟨s0, s1, s2, s3, s4, s5, s6, s7⟩ := of8' (((unhide B3).block _ hz0).trans (unhide HX0)); have zl3 : w.heap.size < w3.heap.size := (Nat.lt_of_lt_of_le hz0 (unhide B3).size); clear hu b3 bb yq bY2)
    | (go_at_call 37; refine name_worldM ?_; intro Y3 hY3; obtain ⟨ym, bY3, sY3⟩ := one_nw hY3; clear hY3; refine (hRP _ ((unhide HIN).keep (below_sub (unhide B3) bY3))).mono ?_; rintro e w4 ⟨⟨ur, rfl, hu⟩, b4⟩; simp only; have bb := below_sub bY3 b4; have B4 := hide (below_sub (unhide B3) bb); have SP4 := hide ((unhide SP3).keep bb); have NM4 := hide ((unhide NM3).keep bb); have NR4 := hide hu; have HQ4 := hide ((bb.block _ (heap_lt (unhide HQ3))).trans (unhide HQ3)); have HM4 := hide ((b4.block _ (heap_lt ym)).trans ym); clear s0 s1 s2 s3 s4 s5 s6 s7; obtain ⟨q0, q1, q2, q3, q4, q5, q6, q7⟩ := of8' (unhide HQ4); have zl4 := heap_lt (unhide HQ4); clear hu b4 bb ym bY3)
    | (go_at_call 38; refine name_worldM ?_; intro Y4 hY4; obtain ⟨yr, bY4, sY4⟩ := one_nw hY4; clear hY4; refine (hW v2 _ ((unhide SP4).keep bY4).toIn).mono ?_; rintro e w5 ⟨rfl, b5⟩; have bb := below_sub bY4 b5; have B5 := hide (below_sub (unhide B4) bb); have K45 := hide bb; have HR5 := hide ((b5.block _ (heap_lt yr)).trans yr); clear q0 q1 q2 q3 q4 q5 q6 q7; obtain ⟨s0, s1, s2, s3, s4, s5, s6, s7⟩ := of8' (((unhide B5).block _ hz0).trans (unhide HX0)); clear b5 bb yr bY4)
    | (go_at_call 39; refine (hRW _ ((unhide HIN).keep (unhide B5))).mono ?_; rintro e w6 ⟨rfl, b6⟩; have B6 := hide (below_sub (unhide B5) b6); have K56 := hide b6; clear b6 s0 s1 s2 s3 s4 s5 s6 s7))
  have b46 := below_sub (unhide K45) (unhide K56)
  have bX6 := unhide B6
  obtain ⟨nc0, nc1, nc2, nc3, nc4, nc5, nc6, nc7⟩ := of8' ((bX6.block _ hz0).trans (unhide HX0))
  have n0 : ∀ n os, (grow (redrawn w6 n) os).cell? ⟨w.heap.size, 0, none⟩ = some (.int .i64 v.kind) := cell_regrown nc0
  have n1 : ∀ n os, (grow (redrawn w6 n) os).cell? ⟨w.heap.size, 1, none⟩ = some (.string v.attr) := cell_regrown nc1
  have n2 : ∀ n os, (grow (redrawn w6 n) os).cell? ⟨w.heap.size, 2, none⟩ = some (.slice v.qi v.ni v.ci) := cell_regrown nc2
  have n3 : ∀ n os, (grow (redrawn w6 n) os).cell? ⟨w.heap.size, 3, none⟩ = some (.slice v.qw v.nw v.cw) := cell_regrown nc3
  have n4 : ∀ n os, (grow (redrawn w6 n) os).cell? ⟨w.heap.size, 4, none⟩ = some (.int .i64 v.lo) := cell_regrown nc4
  have n5 : ∀ n os, (grow (redrawn w6 n) os).cell? ⟨w.heap.size, 5, none⟩ = some (.int .i64 v.hi) := cell_regrown nc5
  have n6 : ∀ n os, (grow (redrawn w6 n) os).cell? ⟨w.heap.size, 6, none⟩ = some (.int .i64 v.op) := cell_regrown nc6
  have n7 : ∀ n os, (grow (redrawn w6 n) os).cell? ⟨w.heap.size, 7, none⟩ = some (.slice v.qk v.nk v.ck) := cell_regrown nc7
  clear nc0 nc1 nc2 nc3 nc4 nc5 nc6 nc7
  obtain ⟨qc0, qc1, qc2, qc3, qc4, qc5, qc6, qc7⟩ := of8' ((b46.block _ (heap_lt (unhide HQ4))).trans (unhide HQ4))
  have q0 : ∀ n os, (grow (redrawn w6 n) os).cell? ⟨w2.heap.size, 0, none⟩ = some (.int .i64 v2.kind) := cell_regrown qc0
  have q1 : ∀ n os, (grow (redrawn w6 n) os).cell? ⟨w2.heap.size, 1, none⟩ = some (.string v2.attr) := cell_regrown qc1
  have q2 : ∀ n os, (grow (redrawn w6 n) os).cell? ⟨w2.heap.size, 2, none⟩ = some (.slice v2.qi v2.ni v2.ci) := cell_regrown qc2
  have q3 : ∀ n os, (grow (redrawn w6 n) os).cell? ⟨w2.heap.size, 3, none⟩ = some (.slice v2.qw v2.nw v2.cw) := cell_regrown qc3
  have q4 : ∀ n os, (grow (redrawn w6 n) os).cell? ⟨w2.heap.size, 4, none⟩ = some (.int .i64 v2.lo) := cell_regrown qc4
  have q5 : ∀ n os, (grow (redrawn w6 n) os).cell? ⟨w2.heap.size, 5, none⟩ = some (.int .i64 v2.hi) := cell_regrown qc5
  have q6 : ∀ n os, (grow (redrawn w6 n) os).cell? ⟨w2.heap.size, 6, none⟩ = some (.int .i64 v2.op) := cell_regrown qc6
  have q7 : ∀ n os, (grow (redrawn w6 n) os).cell? ⟨w2.heap.size, 7, none⟩ = some (.slice v2.qk v2.nk v2.ck) := cell_regrown qc7
  clear qc0 qc1 qc2 qc3 qc4 qc5 qc6 qc7
  obtain ⟨pc0, pc1, pc2, pc3, pc4, pc5, pc6, pc7⟩ := of8' ((b46.block _ (heap_lt (unhide HM4))).trans (unhide HM4))
  have p0 : ∀ n os, (grow (redrawn w6 n) os).cell? ⟨w3.heap.size, 0, none⟩ = some (.int .i64 um.kind) := cell_regrown pc0
  have p1 : ∀ n os, (grow (redrawn w6 n) os).cell? ⟨w3.heap.size, 1, none⟩ = some (.string um.attr) := cell_regrown pc1
  have p2 : ∀ n os, (grow (redrawn w6 n) os).cell? ⟨w3.heap.size, 2, none⟩ = some (.slice um.qi um.ni um.ci) := cell_regrown pc2
  have p3 : ∀ n os, (grow (redrawn w6 n) os).cell? ⟨w3.heap.size, 3, none⟩ = some (.slice um.qw um.nw um.cw) := cell_regrown pc3
  have p4 : ∀ n os, (grow (redrawn w6 n) os).cell? ⟨w3.heap.size, 4, none⟩ = some (.int .i64 um.lo) := cell_regrown pc4
  have p5 : ∀ n os, (grow (redrawn w6 n) os).cell? ⟨w3.heap.size, 5, none⟩ = some (.int .i64 um.hi) := cell_regrown pc5
  have p6 : ∀ n os, (grow (redrawn w6 n) os).cell? ⟨w3.heap.size, 6, none⟩ = some (.int .i64 um.op) := cell_regrown pc6
  have p7 : ∀ n os, (grow (redrawn w6 n) os).cell? ⟨w3.heap.size, 7, none⟩ = some (.slice um.qk um.nk um.ck) := cell_regrown pc7
  clear pc0 pc1 pc2 pc3 pc4 pc5 pc6 pc7
  obtain ⟨rc0, rc1, rc2, rc3, rc4, rc5, rc6, rc7⟩ := of8' (((unhide K56).block _ (heap_lt (unhide HR5))).trans (unhide HR5))
  have r0 : ∀ n os, (grow (redrawn w6 n) os).cell? ⟨w4.heap.size, 0, none⟩ = some (.int .i64 ur.kind) := cell_regrown rc0
  have r1 : ∀ n os, (grow (redrawn w6 n) os).cell? ⟨w4.heap.size, 1, none⟩ = some (.string ur.attr) := cell_regrown rc1
  have r2 : ∀ n os, (grow (redrawn w6 n) os).cell? ⟨w4.heap.size, 2, none⟩ = some (.slice ur.qi ur.ni ur.ci) := cell_regrown rc2
  have r3 : ∀ n os, (grow (redrawn w6 n) os).cell? ⟨w4.heap.size, 3, none⟩ = some (.slice ur.qw ur.nw ur.cw) := cell_regrown rc3
  have r4 : ∀ n os, (grow (redrawn w6 n) os).cell? ⟨w4.heap.size, 4, none⟩ = some (.int .i64 ur.lo) := cell_regrown rc4
  have r5 : ∀ n os, (grow (redrawn w6 n) os).cell? ⟨w4.heap.size, 5, none⟩ = some (.int .i64 ur.hi) := cell_regrown rc5
  have r6 : ∀ n os, (grow (redrawn w6 n) os).cell? ⟨w4.heap.size, 6, none⟩ = some (.int .i64 ur.op) := cell_regrown rc6
  have r7 : ∀ n os, (grow (redrawn w6 n) os).cell? ⟨w4.heap.size, 7, none⟩ = some (.slice ur.qk ur.nk ur.ck) := cell_regrown rc7
  clear rc0 rc1 rc2 rc3 rc4 rc5 rc6 rc7
  have NM6 := hide ((unhide NM4).keep b46)
  have NR6 := hide ((unhide NR4).keep b46)
  have SP6 := hide ((unhide SP4).keep b46)
  have NX6 := hide ((unhide HIN).keep bX6)
  have q40 := fun (n : Nat) (os : Array Obj) => sameTT um ur (grow (redrawn w6 n) os) ((unhide NM6).keep (below_regrown w6 n os)) ((unhide NR6).keep (below_regrown w6 n os)) (unhide HWP)
  have q41 := fun (n : Nat) (os : Array Obj) => pushed_any x v2 (grow (redrawn w6 n) os) ((unhide SP6).keep (below_regrown w6 n os)).toIn (by have := unhide HWT; omega)
  have q42 := fun (n : Nat) (os : Array Obj) => refPushed_any x v (grow (redrawn w6 n) os) ((unhide NX6).keep (below_regrown w6 n os)) (by have := unhide HWT; omega)
  have q25 := fun (n : Nat) (os : Array Obj) => kept_any x _ v2 v (grow (redrawn w6 n) os) ((unhide SP6).keep (below_regrown w6 n os)) ((unhide NX6).keep (below_regrown w6 n os)) (by have := unhide HWT; omega)
  rw [unhide HPP] at q41 q42
  simp only [Nv.val] at q41 q25
  clear hNode hPush hRP hRW hW hfx
  refine wp_region_quiet_below (by assumption) (by kernel_rfl) ?_
  repeat (go_big_quiet_step (first
    | (go_at_fn 40; refine Calls.regrown_of (q40 _ _))
    | (go_at_fn 41; refine Calls.regrown_of (q41 _ _))
    | (go_at_fn 42; refine Calls.regrown_of (q42 _ _))
    | (go_at_fn 25; refine Calls.regrown_of (q25 _ _))))
  refine wpQuiet_nil ?_
  intro _ hw'
  obtain ⟨⟨dq, osq⟩, hw''⟩ := hw'
  subst hw''
  go_wp2
  go_ret
  exact ⟨ret_bool (by simp), below_sub (unhide HWX) (below_sub bX6 (below_regrown w6 dq osq))⟩
end Go.Proofs.Ytppkjlmdfcifgaa
