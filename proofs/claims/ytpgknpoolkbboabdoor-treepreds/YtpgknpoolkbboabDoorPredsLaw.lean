/- The law TreePreds returns true, whatever the predicate. -/
import Derived.Test.YtpgknpoolkbboabDoorFixed
import Derived.Test.YtpgknpoolkbboabDoorRefPred
import Derived.Lib.QuietBelow
namespace Go.Proofs.YtpgknpoolkbboabDoor
open Go.RowKit Go.Sort

set_option maxRecDepth 100000 in
set_option maxHeartbeats 8000000 in
theorem treePreds_any (kind : Int) (attr : ByteArray) (qi : Option Addr) (ci : Nat) (ints : List Int) (qw : Option Addr) (cw : Nat) (words : List ByteArray) (lo hi : Int) (w : World) (hG : G w) (h1 : SlOf encI 1 w qi ci ints) (h2 : SlOf encS 1 w qw cw words) (m1 : ints.length * 8 + 64 ≤ 140737488355328) (m2 : words.length * 16 + 64 ≤ 140737488355328) :
    Calls Tryd.prog 3 #[.agg #[.int .i64 kind, .string attr, .slice qi ints.length ci, .slice qw words.length cw, .int .i64 lo, .int .i64 hi]] w fun e w' => e = .returned (.bool true) ∧ Below w.heap.size w w' := by
  have mixed : Tryd.prog.follows .mixedOrders = true := by kernel_rfl
  obtain ⟨X, HX⟩ : ∃ X, w.alloc (.cells #[.int .i64 kind, .string attr, .slice qi ints.length ci, .slice qw words.length cw, .int .i64 lo, .int .i64 hi] 25) = X := ⟨_, rfl⟩
  have hX0 : X.heap[w.heap.size]? = some (.cells #[.int .i64 kind, .string attr, .slice qi ints.length ci, .slice qw words.length cw, .int .i64 lo, .int .i64 hi] 25 (0, 0)) := by rw [← HX]; exact box_nw _ _
  have hwX : Below w.heap.size w X := by rw [← HX]; exact (Below.refl _ _).alloc (Nat.le_refl _) _
  have hfx := fixed_any X (G_below hG hwX)
  have hmp := fun w' (hb : Below w.heap.size w w') => memPred_any kind attr ints words lo hi qi ci qw cw w' (h1.below hb) (h2.below hb) m1 m2
  have HWX := hide hwX
  have HX0 := hide hX0
  have HXL := hide (heap_lt hX0)
  have H1 := hide h1
  have H2 := hide h2
  clear h1 h2 hwX hX0
  go_enter Tryd.func3, Tryd.ntmps3
  go_wp2_with (first
    | (go_at_call 9; refine hfx.mono ?_; rintro e w1 ⟨rfl, b1⟩; have hh := (b1.block _ (unhide HXL)).trans (unhide HX0); obtain ⟨c0, c1, c2, c3, c4, c5⟩ := of6' hh; have HH1 := hide hh; have B1 := hide (below_sub (unhide HWX) b1); clear b1 hh)
    | (go_at_call 10; refine (hmp _ (unhide B1)).mono ?_; rintro e w2 ⟨⟨g1, k1, g2, k2, rfl, s1, r1, z1, s2, r2, z2⟩, b2⟩; have HH2 := hide ((b2.block _ (heap_lt (unhide HH1))).trans (unhide HH1)); have B2 := hide (below_sub (unhide B1) b2); have S1 := hide s1; have S2 := hide s2; have R1 := hide r1; have R2 := hide r2; have Z1 := hide z1; have Z2 := hide z2; clear b2 s1 s2 r1 r2 z1 z2))
  obtain ⟨w0, hw0⟩ : ∃ w0, w2.alloc (.cells #[.int .i64 kind, .string attr, .slice (some ⟨g1, 0, none⟩) ints.length k1, .slice (some ⟨g2, 0, none⟩) words.length k2, .int .i64 lo, .int .i64 hi] 25) = w0 := ⟨_, rfl⟩
  rw [hw0]
  have hb0 : Below w2.heap.size w2 w0 := by rw [← hw0]; exact (Below.refl _ _).alloc (Nat.le_refl _) _
  have hm0 : w0.heap[w2.heap.size]? = some (.cells #[.int .i64 kind, .string attr, .slice (some ⟨g1, 0, none⟩) ints.length k1, .slice (some ⟨g2, 0, none⟩) words.length k2, .int .i64 lo, .int .i64 hi] 25 (0, 0)) := by rw [← hw0]; exact box_nw _ _
  have hp0 := (hb0.block _ (heap_lt (unhide HH2))).trans (unhide HH2)
  obtain ⟨x0, x1, x2, x3, x4, x5⟩ := of6' hp0
  obtain ⟨y0, y1, y2, y3, y4, y5⟩ := of6' hm0
  have a0 : ∀ n os, (grow (redrawn w0 n) os).cell? ⟨w.heap.size, 0, none⟩ = some (.int .i64 kind) := cell_regrown x0
  have a1 : ∀ n os, (grow (redrawn w0 n) os).cell? ⟨w.heap.size, 1, none⟩ = some (.string attr) := cell_regrown x1
  have a2 : ∀ n os, (grow (redrawn w0 n) os).cell? ⟨w.heap.size, 2, none⟩ = some (.slice qi ints.length ci) := cell_regrown x2
  have a3 : ∀ n os, (grow (redrawn w0 n) os).cell? ⟨w.heap.size, 3, none⟩ = some (.slice qw words.length cw) := cell_regrown x3
  have a4 : ∀ n os, (grow (redrawn w0 n) os).cell? ⟨w.heap.size, 4, none⟩ = some (.int .i64 lo) := cell_regrown x4
  have a5 : ∀ n os, (grow (redrawn w0 n) os).cell? ⟨w.heap.size, 5, none⟩ = some (.int .i64 hi) := cell_regrown x5
  have d0 : ∀ n os, (grow (redrawn w0 n) os).cell? ⟨w2.heap.size, 0, none⟩ = some (.int .i64 kind) := cell_regrown y0
  have d1 : ∀ n os, (grow (redrawn w0 n) os).cell? ⟨w2.heap.size, 1, none⟩ = some (.string attr) := cell_regrown y1
  have d2 : ∀ n os, (grow (redrawn w0 n) os).cell? ⟨w2.heap.size, 2, none⟩ = some (.slice (some ⟨g1, 0, none⟩) ints.length k1) := cell_regrown y2
  have d3 : ∀ n os, (grow (redrawn w0 n) os).cell? ⟨w2.heap.size, 3, none⟩ = some (.slice (some ⟨g2, 0, none⟩) words.length k2) := cell_regrown y3
  have d4 : ∀ n os, (grow (redrawn w0 n) os).cell? ⟨w2.heap.size, 4, none⟩ = some (.int .i64 lo) := cell_regrown y4
  have d5 : ∀ n os, (grow (redrawn w0 n) os).cell? ⟨w2.heap.size, 5, none⟩ = some (.int .i64 hi) := cell_regrown y5
  have hbw := below_sub (unhide B2) hb0
  have hbr := fun (n : Nat) (os : Array Obj) => below_sub hbw (below_regrown w0 n os)
  have hb2r := fun (n : Nat) (os : Array Obj) => below_sub hb0 (below_regrown w0 n os)
  have e1 : SlOf encI 1 w2 (some ⟨g1, 0, none⟩) k1 ints := ⟨(fun h => by cases h), by have := unhide R1; omega, unhide Z1, (unhide S1).take (by decide)⟩
  have e2 : SlOf encS 1 w2 (some ⟨g2, 0, none⟩) k2 words := ⟨(fun h => by cases h), by have := unhide R2; omega, unhide Z2, (unhide S2).take (by decide)⟩
  have q11 := fun (n : Nat) (os : Array Obj) => pred_any kind attr (some ⟨g1, 0, none⟩) k1 ints (some ⟨g2, 0, none⟩) k2 words lo hi (grow (redrawn w0 n) os) (e1.below (hb2r n os)) (e2.below (hb2r n os)) (by omega) (by omega)
  have q13 := fun (n : Nat) (os : Array Obj) => refPred_any kind attr qi ci ints qw cw words lo hi (grow (redrawn w0 n) os) ((unhide H1).below (hbr n os)) ((unhide H2).below (hbr n os)) (by omega) (by omega)
  have q14 := fun (n : Nat) (os : Array Obj) => keptPred_any kind attr ints words lo hi g1 k1 g2 k2 qi ci qw cw (grow (redrawn w0 n) os) ((unhide S1).below (hb2r n os)) (unhide R1) (unhide Z1) ((unhide H1).below (hbr n os)) ((unhide S2).below (hb2r n os)) (unhide R2) (unhide Z2) ((unhide H2).below (hbr n os)) (by omega) (by omega)
  generalize predB kind attr ints words lo hi = pb at q11 q13
  have q12 := fun (W : World) => (form_any pb W).mono (R' := fun e w' => e = .returned (.int .i64 (code pb)) ∧ Below W.heap.size W w') (fun e w' ⟨he, hw⟩ => ⟨he, by rw [hw]; exact Below.refl _ _⟩)
  generalize code pb = cb at q11 q12
  have hcb : (cb == cb) = true := by simp
  have HBW := hide hbw
  clear hbw hbr hb2r e1 e2 hb0 hm0 hp0 x0 x1 x2 x3 x4 x5 y0 y1 y2 y3 y4 y5 hw0 c0 c1 c2 c3 c4 c5 hfx hmp HX
  have en11 : ∀ args w, (callFunc 11 args).run Tryd.prog w = .ok (.enter 11 args) w := enters_of Tryd.func11 (by kernel_rfl) rfl
  have en12 : ∀ args w, (callFunc 12 args).run Tryd.prog w = .ok (.enter 12 args) w := enters_of Tryd.func12 (by kernel_rfl) rfl
  have en13 : ∀ args w, (callFunc 13 args).run Tryd.prog w = .ok (.enter 13 args) w := enters_of Tryd.func13 (by kernel_rfl) rfl
  have en14 : ∀ args w, (callFunc 14 args).run Tryd.prog w = .ok (.enter 14 args) w := enters_of Tryd.func14 (by kernel_rfl) rfl
  refine wp_region_quiet_below (by assumption) (by kernel_rfl) ?_
  repeat (go_big_quiet_step (first
    | (go_at_fn 11; refine Calls.regrown_of (q11 _ _))
    | (go_at_fn 13; refine Calls.regrown_of (q13 _ _))
    | (go_at_fn 12; refine Calls.regrown_of (q12 _))
    | (go_at_fn 14; refine Calls.regrown_of (q14 _ _))))
  refine wpQuiet_nil ?_
  intro _ hw'
  obtain ⟨⟨dq, osq⟩, hw''⟩ := hw'
  subst hw''
  go_wp2
  go_ret
  exact ⟨ret_bool (by simp), below_sub (unhide HBW) (below_regrown _ _ _)⟩
end Go.Proofs.YtpgknpoolkbboabDoor
