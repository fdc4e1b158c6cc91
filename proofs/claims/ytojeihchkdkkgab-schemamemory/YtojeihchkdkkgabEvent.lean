/- What Event returns of a schema, for every list of pairs. -/
import Derived.Test.YtojeihchkdkkgabNew
import Derived.Lib.QuietBelow
namespace Go.Proofs.Ytojeihchkdkkgab
open Go.RowKit Go.Sort Go.Shelf

def eqA (x y : ByteArray × Int) : Bool := x.1.toList == y.1.toList && x.2 == y.2
theorem eqlA_run (x y : ByteArray × Int) (w : World) : (binOp .eql 26 (.agg #[.string x.1, .int .i64 x.2]) (.agg #[.string y.1, .int .i64 y.2])).run Try.prog w = .ok (.bool (eqA x y)) w := by
  have u3 := Try.underlying3
  have a3 := Try.isAgg3
  have z3 := Try.sizeOf3
  have u9 := Try.underlying9
  have a9 := Try.isAgg9
  have z9 := Try.sizeOf9
  have hS : Try.prog.underlying 26 = some (.struct (Try.prog.fieldsOf 26)) := by kernel_rfl
  have hp : Try.prog.stoodInHeld 26 = false := by kernel_rfl
  rw [run_eql_struct, show (10000 : Nat) = 9999 + 1 from rfl, run_equalIn_agg w 9999 26 _ _ hS hp]
  simp only [Program.fieldsOf, Try.underlying26]
  go_simp
  unfold eqA
  by_cases h1 : x.1.toList = y.1.toList <;> by_cases h2 : x.2 = y.2 <;> simp [h1, h2]
theorem eqlA : EqlAt Try.prog 26 (fun x => .agg (encA x).toArray) eqA :=
  ⟨fun x y w => eqlA_run x y w, GuardAt.agg _ (by kernel_rfl)⟩
theorem AtsAt.enc {w : World} {b off : Nat} {l : List (ByteArray × Int)} (h : AtsAt w b off l) : ∀ j, j < l.length → ∀ i v, (encA l[j]!)[i]? = some v → w.cell? ⟨b, off + j * 2 + i, none⟩ = some v := by
  intro j hj i v hv
  have hx := h j l[j]! (by rw [getElem!_pos _ j hj]; exact List.getElem?_eq_getElem hj)
  match i, hv with
  | 0, hv => simp only [encA, List.getElem?_cons_zero, Option.some.injEq] at hv; rw [← hv]; exact hx.1
  | 1, hv => simp only [encA, List.getElem?_cons_succ, List.getElem?_cons_zero, Option.some.injEq] at hv; rw [← hv]; exact hx.2
theorem contains_some (b off cap : Nat) (l : List (ByteArray × Int)) (x : ByteArray × Int) (w : World) (hl : l.length ≤ 140737488355328) (hA : AtsAt w b off l) :
    Calls Try.prog 45 #[.slice (some ⟨b, off, none⟩) l.length cap, .agg #[.string x.1, .int .i64 x.2]] w fun e w' => e = .returned (.bool (l.any fun y => eqA x y)) ∧ Below w.heap.size w w' := by
  have hcon := AnyQ.slices_Contains Try.hasA 2 Try.isAgg26 Try.sizeOf26 encA (fun _ => rfl) eqA eqlA b off l.length cap l x w (Nat.le_refl _) (by omega) hA.enc
  change Calls Try.prog 45 _ _ _ at hcon
  rw [List.take_length] at hcon
  exact hcon
set_option maxHeartbeats 400000 in
theorem index_none (p : Option Addr) (cap : Nat) (x : ByteArray × Int) (w : World) :
    Calls Try.prog 52 #[.slice p 0 cap, .agg #[.string x.1, .int .i64 x.2]] w fun e w' => e = .returned (.int .i64 (-1)) ∧ Below w.heap.size w w' := by
  go_enter Try.func52, Try.ntmps52
  go_wp2
  go_loop [8] (fun i => i = .int .i64 0) (fun _ => 0)
  case atStart => rfl
  case round =>
    subst hrel
    go_wp2
    go_ret
    exact ⟨rfl, (Below.refl _ _).alloc (Nat.le_refl _) _⟩
set_option maxHeartbeats 400000 in
theorem contains_none (p : Option Addr) (cap : Nat) (x : ByteArray × Int) (w : World) :
    Calls Try.prog 45 #[.slice p 0 cap, .agg #[.string x.1, .int .i64 x.2]] w fun e w' => e = .returned (.bool false) ∧ Below w.heap.size w w' := by
  have hi := fun (W : World) => index_none p cap x W
  go_enter Try.func45, Try.ntmps45
  go_wp2_with (first | (go_at_call 52; refine (hi _).mono ?_; rintro e w1 ⟨rfl, b1⟩))
  go_ret
  exact ⟨rfl, below_sub ((Below.refl _ _).alloc (Nat.le_refl _) _) b1⟩
theorem contains_any (p : Option Addr) (cap : Nat) (l : List (ByteArray × Int)) (x : ByteArray × Int) (w : World) (hl : l.length ≤ 140737488355328) (hA : AtsOf w p l) :
    Calls Try.prog 45 #[.slice p l.length cap, .agg #[.string x.1, .int .i64 x.2]] w fun e w' => e = .returned (.bool (l.any fun y => eqA x y)) ∧ Below w.heap.size w w' := by
  by_cases h0 : l.length = 0
  · obtain rfl : l = [] := List.length_eq_zero_iff.1 h0
    exact contains_none p cap x w
  · obtain ⟨b, off, rfl, _, hAt⟩ := hA (by omega)
    exact contains_some b off cap l x w hl hAt

/-- A pair that the attributes l let by. -/
def fitOk (l : List (ByteArray × Int)) (x : ByteArray × Int × Int × ByteArray) : Bool := chkV x.2.1 x.2.2.1 x.2.2.2 == 0 && l.any fun y => eqA (x.1, x.2.1) y

set_option maxHeartbeats 2000000 in
theorem fits_any (b : Nat) (l : List (ByteArray × Int)) (x : ByteArray × Int × Int × ByteArray) (w : World) (hl : l.length ≤ 140737488355328) (hS : SchAt w b l) :
    Calls Try.prog 33 #[.pointer (some ⟨b, 0, none⟩), .agg #[.string x.1, .int .i64 x.2.1, .int .i64 x.2.2.1, .string x.2.2.2]] w fun e w' => e = .returned (.bool (fitOk l x)) ∧ Below w.heap.size w w' := by
  have mixed : Try.prog.follows .mixedOrders = true := by kernel_rfl
  have e44 : ∀ args w, (callFunc 44 args).run Try.prog w = .ok (.enter 44 args) w := enters_of Try.func44 (by kernel_rfl) rfl
  have e45 : ∀ args w, (callFunc 45 args).run Try.prog w = .ok (.enter 45 args) w := enters_of Try.func45 (by kernel_rfl) rfl
  obtain ⟨w0, hw0⟩ : ∃ w0, w0 = (w.alloc (.cells #[.string x.1, .int .i64 x.2.1, .int .i64 x.2.2.1, .string x.2.2.2] 52)).alloc (.cells #[.string x.1, .int .i64 x.2.1] 26) := ⟨_, rfl⟩
  have hb0 : Below w.heap.size w w0 := by rw [hw0]; exact ((Below.refl _ _).alloc (Nat.le_refl _) _).alloc (by simp) _
  obtain ⟨hbw, p, cap, hc, hA, _⟩ := hS.below hb0
  have x1 : ∀ n os, (grow (redrawn w0 n) os).cell? ⟨w.heap.size, 1, none⟩ = some (.int .i64 x.2.1) := cell_regrown (by subst hw0; go_simp)
  have x2 : ∀ n os, (grow (redrawn w0 n) os).cell? ⟨w.heap.size, 2, none⟩ = some (.int .i64 x.2.2.1) := cell_regrown (by subst hw0; go_simp)
  have x3 : ∀ n os, (grow (redrawn w0 n) os).cell? ⟨w.heap.size, 3, none⟩ = some (.string x.2.2.2) := cell_regrown (by subst hw0; go_simp)
  have y0 : ∀ n os, (grow (redrawn w0 n) os).cell? ⟨w.heap.size + 1, 0, none⟩ = some (.string x.1) := cell_regrown (by subst hw0; go_simp)
  have y1 : ∀ n os, (grow (redrawn w0 n) os).cell? ⟨w.heap.size + 1, 1, none⟩ = some (.int .i64 x.2.1) := cell_regrown (by subst hw0; go_simp)
  have z0 : ∀ n os, (grow (redrawn w0 n) os).cell? ⟨b, 0, none⟩ = some (.slice p l.length cap) := cell_regrown hc
  have hcon := fun (n : Nat) (os : Array Obj) => contains_any p cap l (x.1, x.2.1) (grow (redrawn w0 n) os) hl (hA.below (below_regrown w0 n os))
  have hchk := fun (W : World) => check_any x.2.1 x.2.2.1 x.2.2.2 W
  simp only at hcon
  have Hb0 := hide hb0
  clear hc hA hb0 hbw
  unfold fitOk
  generalize (l.any fun y => eqA (x.1, x.2.1) y) = r at hcon ⊢
  cases hk : (chkV x.2.1 x.2.2.1 x.2.2.2 == 0) with
  | true =>
    go_enter Try.func33, Try.ntmps33
    go_wp2
    rw [← hw0]
    clear hw0
    refine wp_region_quiet_below (by assumption) (by kernel_rfl) ?_
    repeat (quiet_step (first
      | (go_at_fn 44; refine Calls.regrown_of (hchk _))
      | (go_at_fn 45; refine Calls.regrown_of (hcon _ _))))
    refine wpQuiet_nil ?_
    intro _ hw'
    obtain ⟨⟨dq, osq⟩, hw''⟩ := hw'
    subst hw''
    go_wp2
    go_ret
    exact ⟨ret_bool (by simp), below_sub (unhide Hb0) (below_regrown _ _ _)⟩
  | false =>
    go_enter Try.func33, Try.ntmps33
    go_wp2
    rw [← hw0]
    clear hw0
    refine wp_region_quiet_below (by assumption) (by kernel_rfl) ?_
    repeat (quiet_step (first
      | (go_at_fn 44; refine Calls.regrown_of (hchk _))
      | (go_at_fn 45; refine Calls.regrown_of (hcon _ _))))
    refine wpQuiet_nil ?_
    intro _ hw'
    obtain ⟨⟨dq, osq⟩, hw''⟩ := hw'
    subst hw''
    go_wp2
    go_ret
    exact ⟨ret_bool (by simp), below_sub (unhide Hb0) (below_regrown _ _ _)⟩
end Go.Proofs.Ytojeihchkdkkgab
