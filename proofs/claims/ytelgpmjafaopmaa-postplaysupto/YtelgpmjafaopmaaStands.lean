/- stands: a cursor is where the document's is. -/
import Derived.Test.YtelgpmjafaopmaaSkips
import Derived.Test.YtelgpmjafaopmaaRefSkip
namespace Go.Proofs.Ytelgpmjafaopmaa
open Go.RowKit Go.Sort Go.Shelf

set_option maxHeartbeats 2000000 in
set_option maxRecDepth 100000 in
theorem standsC (C R : Nat) (q q' : Option Addr) (cap cap' k : Nat) (l : List Pt) (w : World) (hc : Cur w C q l.length cap k) (hr : RCur w R q' l.length cap' k) (hs : SlOf encP 2 w q cap l) (hs' : SlOf encP 2 w q' cap' l) (hk : k ≤ l.length) (hn : l.length ≤ 100000000000000) :
    Calls Try.prog 33 #[.pointer (some ⟨C, 0, none⟩), .pointer (some ⟨R, 0, none⟩)] w fun e w' => e = .returned (.bool true) ∧ Below w.heap.size w w' := by
  have mixed : Try.prog.follows .mixedOrders = true := by kernel_rfl
  have e18 : ∀ args w, (callFunc 18 args).run Try.prog w = .ok (.enter 18 args) w := enters_of Try.func18 (by kernel_rfl) rfl
  have e20 : ∀ args w, (callFunc 20 args).run Try.prog w = .ok (.enter 20 args) w := enters_of Try.func20 (by kernel_rfl) rfl
  have hp := postC C q cap k l w hc hs hk hn
  rw [pst_eq] at hp
  have hp2 := fun (W : World) (hb : Below w.heap.size w W) => postR R q' cap' k l W (hr.below hb) (hs'.below hb) hk
  simp only [pst_eq] at hp2
  have HC := hide hc
  have HR := hide hr
  generalize tl l k = T at hp hp2
  obtain ⟨v, hv⟩ : ∃ v, vl l k = v := ⟨_, rfl⟩
  rw [hv] at hp
  simp only [hv] at hp2
  have hat : ∀ (W : World), Below w.heap.size w W → Calls Try.prog 18 #[.pointer (some ⟨C, 0, none⟩)] W fun e w' => e = .returned (.int .i64 (k : Nat)) ∧ Below W.heap.size W w' := fun W hb => (atC C q l.length cap k W ((unhide HC).below hb)).mono fun e w' ⟨he, hw⟩ => ⟨he, by rw [hw]; exact Below.refl _ _⟩
  obtain ⟨d, hd⟩ : ∃ d : Nat, l.length - k = d := ⟨_, rfl⟩
  have hla : ∀ (W : World), Below w.heap.size w W → Calls Try.prog 20 #[.pointer (some ⟨C, 0, none⟩)] W fun e w' => e = .returned (.int .i64 (d : Nat)) ∧ Below W.heap.size W w' := fun W hb => (leftC C q l.length cap k W ((unhide HC).below hb) hk hn).mono fun e w' ⟨he, hw⟩ => ⟨by rw [he, hd], by rw [hw]; exact (Below.refl _ _).drew⟩
  have hw : IntKind.i64.wrap ((l.length : Int) - (k : Int)) = (d : Int) := by
    rw [show (l.length : Int) - (k : Int) = (d : Int) by omega]; exact wrap_nat d (by omega)
  have hvv := fun W => eqlP v v W
  rw [show decide (v = v) = true from decide_eq_true rfl] at hvv
  clear hc hr hs hs' hv hd
  go_enter Try.func33, Try.ntmps33
  go_wp2_with (first
    | (go_at_call 48; refine (hp2 _ (unhide HB2)).mono ?_; rintro e w3 ⟨rfl, hb3⟩; have HB3 := hide ((unhide HB2).trans (hb3.mono (unhide HB2).size)); have x0' := (hb3.cell (p := ⟨w1.heap.size, 0, none⟩) (by simp)).trans x0; have x1' := (hb3.cell (p := ⟨w1.heap.size, 1, none⟩) (by simp)).trans x1; have hlt3 : w1.heap.size < w3.heap.size := (by have := hb3.size; simp at this; omega); clear hb3)
    | (go_at_call 17; refine hp.mono ?_; rintro e w1 ⟨rfl, hb1⟩; have HB2 := hide (hb1.alloc hb1.size (.cells #[.int .i64 v.1, .bool v.2] 43)); obtain ⟨x0, x1⟩ := cells_of_block (World.alloc_heap_new w1 (.cells #[.int .i64 v.1, .bool v.2] 43)); clear hb1))
  obtain ⟨W, hW⟩ : ∃ W, W = w3.alloc (.cells #[.int .i64 v.1, .bool v.2] 43) := ⟨_, rfl⟩
  have hbW : Below w3.heap.size w3 W := by rw [hW]; exact (Below.refl _ _).alloc (Nat.le_refl _) _
  obtain ⟨y0, y1⟩ := cells_of_block (show W.heap[w3.heap.size]? = some (.cells #[.int .i64 v.1, .bool v.2] 43 (0, 0)) by rw [hW]; exact World.alloc_heap_new w3 _)
  have HBW := hide ((unhide HB3).trans (hbW.mono (unhide HB3).size))
  have z0 := (hbW.cell (p := ⟨w1.heap.size, 0, none⟩) hlt3).trans x0'
  have z1 := (hbW.cell (p := ⟨w1.heap.size, 1, none⟩) hlt3).trans x1'
  obtain ⟨r0, r1, _⟩ := ((unhide HR).below (unhide HBW)).cells
  have gy0 := cell_regrown y0
  have gy1 := cell_regrown y1
  have gz0 := cell_regrown z0
  have gz1 := cell_regrown z1
  have gr0 := cell_regrown r0
  have gr1 := cell_regrown r1
  have hatW := fun (d : Nat) (os : Array Obj) => hat (grow (redrawn W d) os) ((unhide HBW).trans ((below_regrown W d os).mono (unhide HBW).size))
  have hlaW := fun (d : Nat) (os : Array Obj) => hla (grow (redrawn W d) os) ((unhide HBW).trans ((below_regrown W d os).mono (unhide HBW).size))
  rw [← hW]
  clear hW hbW y0 y1 z0 z1 r0 r1 x0 x1 x0' x1' hat hla hp hp2
  refine wp_region_quiet_below (by assumption) (by kernel_rfl) ?_
  repeat (go_big_quiet_step (first
    | (go_at_fn 18; with_reducible refine Calls.regrown_of (hatW _ _))
    | (go_at_fn 20; with_reducible refine Calls.regrown_of (hlaW _ _))))
  refine wpQuiet_nil ?_
  intro w4 hw'
  obtain ⟨⟨dq, osq⟩, hw''⟩ := hw'
  have b4 := below_regrown W dq osq
  dsimp only at hw''
  rw [← hw''] at b4
  have HB4 := hide ((unhide HBW).trans (b4.mono (unhide HBW).size))
  clear hw'' b4 gy0 gy1 gz0 gz1 gr0 gr1 hatW hlaW hvv
  go_wp2
  go_ret
  exact ⟨rfl, unhide HB4⟩
end Go.Proofs.Ytelgpmjafaopmaa
