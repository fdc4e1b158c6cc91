/- The law TreePlays returns true, whatever tree of bounded weight it is given. -/
import Derived.Test.YtmdkdkcjgjknoaaDoorFixed
import Derived.Test.YtmdkdkcjgjknoaaDoorRefPrint
import Derived.Test.YtmdkdkcjgjknoaaDoorRefDeep
import Derived.Test.YtmdkdkcjgjknoaaDoorMemNodeAt
import Derived.Test.YtmdkdkcjgjknoaaDoorKeptNode
namespace Go.Proofs.YtmdkdkcjgjknoaaDoor
open Go.RowKit Go.Sort

theorem form_bel (b : Bool) (w : World) : Calls Tryd.prog 14 #[.bool b] w fun e w' => e = .returned (.int .i64 (code b)) ∧ Below w.heap.size w w' :=
  (form_any b w).mono fun _ _ h => ⟨h.1, h.2 ▸ Below.refl _ _⟩
set_option maxRecDepth 100000 in
set_option maxHeartbeats 8000000 in
theorem treePlays_any (t : Nd) (v : Nv) (w : World) (hG : G w) (hin : NdIn w v t) (hwt : wtN t ≤ 1000000000) :
    Calls Tryd.prog 3 #[v.val] w fun e w' => e = .returned (.bool true) ∧ Below w.heap.size w w' := by
  obtain ⟨X, HX⟩ : ∃ X, w.alloc (.cells #[.int .i64 v.kind, .string v.attr, .slice v.qi v.ni v.ci, .slice v.qw v.nw v.cw, .int .i64 v.lo, .int .i64 v.hi, .int .i64 v.op, .slice v.qk v.nk v.ck] 28) = X := ⟨_, rfl⟩
  have xa : X.heap[w.heap.size]? = some (.cells #[.int .i64 v.kind, .string v.attr, .slice v.qi v.ni v.ci, .slice v.qw v.nw v.cw, .int .i64 v.lo, .int .i64 v.hi, .int .i64 v.op, .slice v.qk v.nk v.ck] 28 (0, 0)) := by rw [← HX]; exact box_nw _ _
  have hwX : Below w.heap.size w X := by rw [← HX]; exact (Below.refl _ _).alloc (Nat.le_refl _) _
  obtain ⟨a0, a1, a2, a3, a4, a5, a6, a7⟩ := of8' xa
  have hz0 := heap_lt xa
  have mixed : Tryd.prog.follows .mixedOrders = true := by kernel_rfl
  have hfx := fixed_any X (G_below hG hwX)
  have hN := fun W (hW : Below X.heap.size X W) => node_any t v W (hin.keep (below_sub hwX hW)) hwt
  have htl := text_len t
  have hsz := size_wt t
  have HWX := hide hwX
  have HG := hide (G_below hG hwX)
  have HIN := hide (hin.keep hwX)
  have XA := hide xa
  simp only [Nv.val] at hN ⊢
  clear hG hin hwX xa
  go_enter Tryd.func3, Tryd.ntmps3
  go_wp2_with (first
    | (go_at_call 9; refine hfx.mono ?_; rintro e w1 ⟨rfl, g1⟩; have B1 := hide g1; clear a0 a1 a2 a3 a4 a5 a6 a7; obtain ⟨a0, a1, a2, a3, a4, a5, a6, a7⟩ := of8' ((g1.block _ hz0).trans (unhide XA)); clear g1)
    | (go_at_call 10; refine (hN _ (unhide B1)).mono ?_; rintro e w2 ⟨⟨u, rfl, sp⟩, g2⟩; simp only; have SP := hide sp; have B2 := hide (below_sub (unhide B1) g2); clear sp g2 a0 a1 a2 a3 a4 a5 a6 a7; obtain ⟨Y, HY⟩ : ∃ Y, w2.alloc (.cells #[.int .i64 u.kind, .string u.attr, .slice u.qi u.ni u.ci, .slice u.qw u.nw u.cw, .int .i64 u.lo, .int .i64 u.hi, .int .i64 u.op, .slice u.qk u.nk u.ck] 28) = Y := ⟨_, rfl⟩; have yb : Y.heap[w2.heap.size]? = some (.cells #[.int .i64 u.kind, .string u.attr, .slice u.qi u.ni u.ci, .slice u.qw u.nw u.cw, .int .i64 u.lo, .int .i64 u.hi, .int .i64 u.op, .slice u.qk u.nk u.ck] 28 (0, 0)) := (by rw [← HY]; exact box_nw _ _); have h2Y : Below w2.heap.size w2 Y := (by rw [← HY]; exact (Below.refl _ _).alloc (Nat.le_refl _) _); have hzb := heap_lt yb; have hxw2 := Nat.lt_of_lt_of_le hz0 (unhide B2).size; have BY := hide (below_sub (unhide B2) h2Y); have cells : ∀ W, Below Y.heap.size Y W → (W.cell? ⟨w.heap.size, 0, none⟩ = some (.int .i64 v.kind) ∧ W.cell? ⟨w.heap.size, 1, none⟩ = some (.string v.attr) ∧ W.cell? ⟨w.heap.size, 2, none⟩ = some (.slice v.qi v.ni v.ci) ∧ W.cell? ⟨w.heap.size, 3, none⟩ = some (.slice v.qw v.nw v.cw) ∧ W.cell? ⟨w.heap.size, 4, none⟩ = some (.int .i64 v.lo) ∧ W.cell? ⟨w.heap.size, 5, none⟩ = some (.int .i64 v.hi) ∧ W.cell? ⟨w.heap.size, 6, none⟩ = some (.int .i64 v.op) ∧ W.cell? ⟨w.heap.size, 7, none⟩ = some (.slice v.qk v.nk v.ck)) ∧ (W.cell? ⟨w2.heap.size, 0, none⟩ = some (.int .i64 u.kind) ∧ W.cell? ⟨w2.heap.size, 1, none⟩ = some (.string u.attr) ∧ W.cell? ⟨w2.heap.size, 2, none⟩ = some (.slice u.qi u.ni u.ci) ∧ W.cell? ⟨w2.heap.size, 3, none⟩ = some (.slice u.qw u.nw u.cw) ∧ W.cell? ⟨w2.heap.size, 4, none⟩ = some (.int .i64 u.lo) ∧ W.cell? ⟨w2.heap.size, 5, none⟩ = some (.int .i64 u.hi) ∧ W.cell? ⟨w2.heap.size, 6, none⟩ = some (.int .i64 u.op) ∧ W.cell? ⟨w2.heap.size, 7, none⟩ = some (.slice u.qk u.nk u.ck)) := (fun W hW => ⟨of8' (((below_sub (unhide BY) hW).block _ hz0).trans (unhide XA)), of8' ((hW.block _ hzb).trans yb)⟩); have SPY := hide ((unhide SP).keep h2Y); obtain ⟨⟨a0, a1, a2, a3, a4, a5, a6, a7⟩, b0, b1, b2, b3, b4, b5, b6, b7⟩ := cells Y (Below.refl _ _); have CELLS := hide cells; clear cells yb h2Y)
    | (go_at_call 11; refine (textT_any t u Y (G_below (unhide HG) (unhide BY)) (unhide SPY).toIn hwt (by omega)).mono ?_; rintro e w3 ⟨rfl, g3⟩; have B3 := hide g3; clear a0 a1 a2 a3 a4 a5 a6 a7 b0 b1 b2 b3 b4 b5 b6 b7 g3; obtain ⟨⟨a0, a1, a2, a3, a4, a5, a6, a7⟩, b0, b1, b2, b3, b4, b5, b6, b7⟩ := unhide CELLS w3 (unhide B3))
    | (go_at_call 12; refine (refTextT_any t v w3 ((unhide HIN).keep (below_sub (unhide BY) (unhide B3))) hwt).mono ?_; rintro e w4 ⟨rfl, g4⟩; have B4 := hide (below_sub (unhide B3) g4); clear a0 a1 a2 a3 a4 a5 a6 a7 b0 b1 b2 b3 b4 b5 b6 b7 g4; obtain ⟨⟨a0, a1, a2, a3, a4, a5, a6, a7⟩, b0, b1, b2, b3, b4, b5, b6, b7⟩ := unhide CELLS w4 (unhide B4)))
  have en13 : ∀ args w, (callFunc 13 args).run Tryd.prog w = .ok (.enter 13 args) w := enters_of Tryd.func13 (by kernel_rfl) rfl
  have en14 : ∀ args w, (callFunc 14 args).run Tryd.prog w = .ok (.enter 14 args) w := enters_of Tryd.func14 (by kernel_rfl) rfl
  have en15 : ∀ args w, (callFunc 15 args).run Tryd.prog w = .ok (.enter 15 args) w := enters_of Tryd.func15 (by kernel_rfl) rfl
  have en16 : ∀ args w, (callFunc 16 args).run Tryd.prog w = .ok (.enter 16 args) w := enters_of Tryd.func16 (by kernel_rfl) rfl
  have en17 : ∀ args w, (callFunc 17 args).run Tryd.prog w = .ok (.enter 17 args) w := enters_of Tryd.func17 (by kernel_rfl) rfl
  have en18 : ∀ args w, (callFunc 18 args).run Tryd.prog w = .ok (.enter 18 args) w := enters_of Tryd.func18 (by kernel_rfl) rfl
  have en19 : ∀ args w, (callFunc 19 args).run Tryd.prog w = .ok (.enter 19 args) w := enters_of Tryd.func19 (by kernel_rfl) rfl
  have en20 : ∀ args w, (callFunc 20 args).run Tryd.prog w = .ok (.enter 20 args) w := enters_of Tryd.func20 (by kernel_rfl) rfl
  have a0r : ∀ n os, (grow (redrawn w4 n) os).cell? ⟨w.heap.size, 0, none⟩ = some (.int .i64 v.kind) := cell_regrown a0
  have a1r : ∀ n os, (grow (redrawn w4 n) os).cell? ⟨w.heap.size, 1, none⟩ = some (.string v.attr) := cell_regrown a1
  have a2r : ∀ n os, (grow (redrawn w4 n) os).cell? ⟨w.heap.size, 2, none⟩ = some (.slice v.qi v.ni v.ci) := cell_regrown a2
  have a3r : ∀ n os, (grow (redrawn w4 n) os).cell? ⟨w.heap.size, 3, none⟩ = some (.slice v.qw v.nw v.cw) := cell_regrown a3
  have a4r : ∀ n os, (grow (redrawn w4 n) os).cell? ⟨w.heap.size, 4, none⟩ = some (.int .i64 v.lo) := cell_regrown a4
  have a5r : ∀ n os, (grow (redrawn w4 n) os).cell? ⟨w.heap.size, 5, none⟩ = some (.int .i64 v.hi) := cell_regrown a5
  have a6r : ∀ n os, (grow (redrawn w4 n) os).cell? ⟨w.heap.size, 6, none⟩ = some (.int .i64 v.op) := cell_regrown a6
  have a7r : ∀ n os, (grow (redrawn w4 n) os).cell? ⟨w.heap.size, 7, none⟩ = some (.slice v.qk v.nk v.ck) := cell_regrown a7
  have b0r : ∀ n os, (grow (redrawn w4 n) os).cell? ⟨w2.heap.size, 0, none⟩ = some (.int .i64 u.kind) := cell_regrown b0
  have b1r : ∀ n os, (grow (redrawn w4 n) os).cell? ⟨w2.heap.size, 1, none⟩ = some (.string u.attr) := cell_regrown b1
  have b2r : ∀ n os, (grow (redrawn w4 n) os).cell? ⟨w2.heap.size, 2, none⟩ = some (.slice u.qi u.ni u.ci) := cell_regrown b2
  have b3r : ∀ n os, (grow (redrawn w4 n) os).cell? ⟨w2.heap.size, 3, none⟩ = some (.slice u.qw u.nw u.cw) := cell_regrown b3
  have b4r : ∀ n os, (grow (redrawn w4 n) os).cell? ⟨w2.heap.size, 4, none⟩ = some (.int .i64 u.lo) := cell_regrown b4
  have b5r : ∀ n os, (grow (redrawn w4 n) os).cell? ⟨w2.heap.size, 5, none⟩ = some (.int .i64 u.hi) := cell_regrown b5
  have b6r : ∀ n os, (grow (redrawn w4 n) os).cell? ⟨w2.heap.size, 6, none⟩ = some (.int .i64 u.op) := cell_regrown b6
  have b7r : ∀ n os, (grow (redrawn w4 n) os).cell? ⟨w2.heap.size, 7, none⟩ = some (.slice u.qk u.nk u.ck) := cell_regrown b7
  have q13 := fun (n : Nat) (os : Array Obj) => checkT_any t u (grow (redrawn w4 n) os) ((unhide SPY).toIn.keep (below_sub (unhide B4) (below_regrown w4 n os))) hwt
  have q15 := fun (n : Nat) (os : Array Obj) => rchk_any t v (grow (redrawn w4 n) os) ((unhide HIN).keep (below_sub (unhide BY) (below_sub (unhide B4) (below_regrown w4 n os)))) hwt
  have q14 := fun (n : Nat) (os : Array Obj) => form_bel (chkN t) (grow (redrawn w4 n) os)
  have q16 := fun (n : Nat) (os : Array Obj) => depth_any t u (grow (redrawn w4 n) os) ((unhide SPY).toIn.keep (below_sub (unhide B4) (below_regrown w4 n os))) (by omega)
  have q17 := fun (n : Nat) (os : Array Obj) => refDepth_any t v (grow (redrawn w4 n) os) ((unhide HIN).keep (below_sub (unhide BY) (below_sub (unhide B4) (below_regrown w4 n os)))) (by omega)
  have q18 := fun (n : Nat) (os : Array Obj) => size_any t u (grow (redrawn w4 n) os) ((unhide SPY).toIn.keep (below_sub (unhide B4) (below_regrown w4 n os))) (by omega)
  have q19 := fun (n : Nat) (os : Array Obj) => refSize_any t v (grow (redrawn w4 n) os) ((unhide HIN).keep (below_sub (unhide BY) (below_sub (unhide B4) (below_regrown w4 n os)))) (by omega)
  have q20 := fun (n : Nat) (os : Array Obj) => kept_any t _ u v (grow (redrawn w4 n) os) ((unhide SPY).keep (below_sub (unhide B4) (below_regrown w4 n os))) ((unhide HIN).keep (below_sub (unhide BY) (below_sub (unhide B4) (below_regrown w4 n os)))) hwt
  simp only [Nv.val] at q13 q15 q16 q17 q18 q19 q20
  clear a0 a1 a2 a3 a4 a5 a6 a7 b0 b1 b2 b3 b4 b5 b6 b7
  generalize chkN t = cc at *
  generalize code cc = dd at *
  refine wp_region_quiet_below (by assumption) (by kernel_rfl) ?_
  repeat (go_big_quiet_step (first | (go_at_fn 13; refine Calls.regrown_of (q13 _ _)) | (go_at_fn 14; refine Calls.regrown_of (q14 _ _)) | (go_at_fn 15; refine Calls.regrown_of (q15 _ _)) | (go_at_fn 16; refine Calls.regrown_of (q16 _ _)) | (go_at_fn 17; refine Calls.regrown_of (q17 _ _)) | (go_at_fn 18; refine Calls.regrown_of (q18 _ _)) | (go_at_fn 19; refine Calls.regrown_of (q19 _ _)) | (go_at_fn 20; refine Calls.regrown_of (q20 _ _))))
  refine wpQuiet_nil ?_
  intro _ hw'
  obtain ⟨⟨dq, osq⟩, hw''⟩ := hw'
  subst hw''
  go_wp2
  go_ret
  exact ⟨rfl, below_sub (unhide HWX) (below_sub (unhide BY) (below_sub (unhide B4) (below_regrown w4 dq osq)))⟩
end Go.Proofs.YtmdkdkcjgjknoaaDoor
