/- The comparison that the sort of attributes and of pairs is handed: it compares names, and turns nothing. -/
import Derived.Test.YtojeihchkdkkgabGet
import Derived.Test.YtojeihchkdkkgabShelf
namespace Go.Proofs.Ytojeihchkdkkgab
open Go.RowKit Go.Sort Go.Shelf

def encA (x : ByteArray × Int) : List Value := [.string x.1, .int .i64 x.2]
def encP (x : ByteArray × Int × Int × ByteArray) : List Value := [.string x.1, .int .i64 x.2.1, .int .i64 x.2.2.1, .string x.2.2.2]
def cfA (x y : ByteArray × Int) : Int := cmpS x.1.toList y.1.toList
def cfP (x y : ByteArray × Int × Int × ByteArray) : Int := cmpS x.1.toList y.1.toList

theorem attrName_any (x : ByteArray × Int) (w : World) :
    Calls Try.prog 30 #[.agg #[.string x.1, .int .i64 x.2]] w fun e w' => e = .returned (.string x.1) ∧ ∃ q os', w' = grow (w.drewN q) os' := by
  go_enter Try.func30, Try.ntmps30
  go_wp2
  go_ret
  exact ⟨rfl, 0, _, by rw [alloc_eq_grow]; rfl⟩
theorem pairName_any (x : ByteArray × Int × Int × ByteArray) (w : World) :
    Calls Try.prog 35 #[.agg #[.string x.1, .int .i64 x.2.1, .int .i64 x.2.2.1, .string x.2.2.2]] w fun e w' => e = .returned (.string x.1) ∧ ∃ q os', w' = grow (w.drewN q) os' := by
  go_enter Try.func35, Try.ntmps35
  go_wp2
  go_ret
  exact ⟨rfl, 0, _, by rw [alloc_eq_grow]; rfl⟩
theorem compare_any (a b : ByteArray) (w : World) :
    Calls Try.prog 42 #[.string a, .string b] w fun e w' => e = .returned (.int .i64 (cmpS a.toList b.toList)) ∧ ∃ q os', w' = grow (w.drewN q) os' :=
  (cmpStr_any a b w).mono fun _ _ ⟨he, hw⟩ => ⟨he, 0, #[], by rw [hw, grow_empty]; rfl⟩

set_option maxHeartbeats 1000000 in
theorem closureA (x y : ByteArray × Int) (c : Nat) (W : World) (hc : W.cell? ⟨c, 0, none⟩ = some (.func (.func 30) #[] #[])) (hb : c < W.heap.size) :
    Calls Try.prog 41 #[.agg #[.string x.1, .int .i64 x.2], .agg #[.string y.1, .int .i64 y.2], .pointer (some ⟨c, 0, none⟩)] W fun e w' => e = .returned (.int .i64 (cfA x y)) ∧ ∃ q os', w' = grow (W.drewN q) os' := by
  have mixed : Try.prog.follows .mixedOrders = true := by kernel_rfl
  have e30 : ∀ args w, (callFunc 30 args).run Try.prog w = .ok (.enter 30 args) w := enters_of Try.func30 (by kernel_rfl) rfl
  have e42 : ∀ args w, (callFunc 42 args).run Try.prog w = .ok (.enter 42 args) w := enters_of Try.func42 (by kernel_rfl) rfl
  obtain ⟨w0, hw0⟩ : ∃ w0, w0 = (W.alloc (.cells #[.string x.1, .int .i64 x.2] 26)).alloc (.cells #[.string y.1, .int .i64 y.2] 26) := ⟨_, rfl⟩
  have c0 : ∀ n os, (grow (w0.drewN n) os).cell? ⟨c, 0, none⟩ = some (.func (.func 30) #[] #[]) := cell_grown (by simp [hw0]; omega) (by subst hw0; go_simp)
  have x0 : ∀ n os, (grow (w0.drewN n) os).cell? ⟨W.heap.size, 0, none⟩ = some (.string x.1) := cell_grown (by simp [hw0]; omega) (by subst hw0; go_simp)
  have x1 : ∀ n os, (grow (w0.drewN n) os).cell? ⟨W.heap.size, 1, none⟩ = some (.int .i64 x.2) := cell_grown (by simp [hw0]; omega) (by subst hw0; go_simp)
  have y0 : ∀ n os, (grow (w0.drewN n) os).cell? ⟨W.heap.size + 1, 0, none⟩ = some (.string y.1) := cell_grown (by simp [hw0]) (by subst hw0; go_simp)
  have y1 : ∀ n os, (grow (w0.drewN n) os).cell? ⟨W.heap.size + 1, 1, none⟩ = some (.int .i64 y.2) := cell_grown (by simp [hw0]) (by subst hw0; go_simp)
  have Hw0 := hide hw0
  go_enter Try.func41, Try.ntmps41
  go_wp2
  rw [← hw0]
  clear hw0
  go_quiet_grown (first
    | (go_at_fn 30; refine Calls.grown_of (attrName_any _ _))
    | (go_at_fn 42; refine Calls.grown_of (compare_any _ _ _)))
  go_wp2
  go_ret
  refine ⟨rfl, ?_⟩
  rw [unhide Hw0, alloc_eq_grow, alloc_eq_grow, grow_grow]
  exact ⟨_, _, by rw [show (grow W _).drewN nq = grow (W.drewN nq) _ from rfl, grow_grow]⟩
set_option maxHeartbeats 1000000 in
theorem closureP (x y : ByteArray × Int × Int × ByteArray) (c : Nat) (W : World) (hc : W.cell? ⟨c, 0, none⟩ = some (.func (.func 35) #[] #[])) (hb : c < W.heap.size) :
    Calls Try.prog 48 #[.agg #[.string x.1, .int .i64 x.2.1, .int .i64 x.2.2.1, .string x.2.2.2], .agg #[.string y.1, .int .i64 y.2.1, .int .i64 y.2.2.1, .string y.2.2.2], .pointer (some ⟨c, 0, none⟩)] W fun e w' => e = .returned (.int .i64 (cfP x y)) ∧ ∃ q os', w' = grow (W.drewN q) os' := by
  have mixed : Try.prog.follows .mixedOrders = true := by kernel_rfl
  have e35 : ∀ args w, (callFunc 35 args).run Try.prog w = .ok (.enter 35 args) w := enters_of Try.func35 (by kernel_rfl) rfl
  have e42 : ∀ args w, (callFunc 42 args).run Try.prog w = .ok (.enter 42 args) w := enters_of Try.func42 (by kernel_rfl) rfl
  obtain ⟨w0, hw0⟩ : ∃ w0, w0 = (W.alloc (.cells #[.string x.1, .int .i64 x.2.1, .int .i64 x.2.2.1, .string x.2.2.2] 52)).alloc (.cells #[.string y.1, .int .i64 y.2.1, .int .i64 y.2.2.1, .string y.2.2.2] 52) := ⟨_, rfl⟩
  have c0 : ∀ n os, (grow (w0.drewN n) os).cell? ⟨c, 0, none⟩ = some (.func (.func 35) #[] #[]) := cell_grown (by simp [hw0]; omega) (by subst hw0; go_simp)
  have x0 : ∀ n os, (grow (w0.drewN n) os).cell? ⟨W.heap.size, 0, none⟩ = some (.string x.1) := cell_grown (by simp [hw0]; omega) (by subst hw0; go_simp)
  have x1 : ∀ n os, (grow (w0.drewN n) os).cell? ⟨W.heap.size, 1, none⟩ = some (.int .i64 x.2.1) := cell_grown (by simp [hw0]; omega) (by subst hw0; go_simp)
  have x2 : ∀ n os, (grow (w0.drewN n) os).cell? ⟨W.heap.size, 2, none⟩ = some (.int .i64 x.2.2.1) := cell_grown (by simp [hw0]; omega) (by subst hw0; go_simp)
  have x3 : ∀ n os, (grow (w0.drewN n) os).cell? ⟨W.heap.size, 3, none⟩ = some (.string x.2.2.2) := cell_grown (by simp [hw0]; omega) (by subst hw0; go_simp)
  have y0 : ∀ n os, (grow (w0.drewN n) os).cell? ⟨W.heap.size + 1, 0, none⟩ = some (.string y.1) := cell_grown (by simp [hw0]) (by subst hw0; go_simp)
  have y1 : ∀ n os, (grow (w0.drewN n) os).cell? ⟨W.heap.size + 1, 1, none⟩ = some (.int .i64 y.2.1) := cell_grown (by simp [hw0]) (by subst hw0; go_simp)
  have y2 : ∀ n os, (grow (w0.drewN n) os).cell? ⟨W.heap.size + 1, 2, none⟩ = some (.int .i64 y.2.2.1) := cell_grown (by simp [hw0]) (by subst hw0; go_simp)
  have y3 : ∀ n os, (grow (w0.drewN n) os).cell? ⟨W.heap.size + 1, 3, none⟩ = some (.string y.2.2.2) := cell_grown (by simp [hw0]) (by subst hw0; go_simp)
  have Hw0 := hide hw0
  go_enter Try.func48, Try.ntmps48
  go_wp2
  rw [← hw0]
  clear hw0
  go_quiet_grown (first
    | (go_at_fn 35; refine Calls.grown_of (pairName_any _ _))
    | (go_at_fn 42; refine Calls.grown_of (compare_any _ _ _)))
  go_wp2
  go_ret
  refine ⟨rfl, ?_⟩
  rw [unhide Hw0, alloc_eq_grow, alloc_eq_grow, grow_grow]
  exact ⟨_, _, by rw [show (grow W _).drewN nq = grow (W.drewN nq) _ from rfl, grow_grow]⟩
theorem cmp_lays_cell {α : Type} [Inhabited α] {enc : α → List Value} {k blk off m c : Nat} {dk : Array α} {os : Array Obj} {w : World} {v : Value} (hc : w.cell? ⟨c, 0, none⟩ = some v) (hb : c < w.heap.size) (hne : c ≠ blk) :
    (sortWorldK enc k w blk off m dk os).cell? ⟨c, 0, none⟩ = some v ∧ c < (sortWorldK enc k w blk off m dk os).heap.size := by
  have hz : (putRowK enc k (Sort.ahead w m) blk off dk).heap.size = w.heap.size := by
    unfold putRowK; simp
  unfold sortWorldK
  refine ⟨?_, ?_⟩
  · rw [cell?_grow _ _ _ (by rw [hz]; exact hb), cell?_putRowK_other _ _ _ _ _ _ _ (by exact hne)]
    exact hc
  · simp [grow, hz]; omega
theorem lt_cf {a b : List UInt8} : decide (cmpS a b < 0) = Op.bytesLess a b := by
  rcases cmpS_cases a b with ⟨h1, h2⟩ | ⟨h1, h2⟩ | ⟨h1, h2⟩
  · rw [h1, h2]; decide
  · rw [h2, h1, less_irrefl]; decide
  · rw [h2, less_asymm _ _ h1]; decide
theorem not_less_trans {a b c : List UInt8} (h1 : Op.bytesLess a b = false) (h2 : Op.bytesLess b c = false) : Op.bytesLess a c = false := by
  cases h : Op.bytesLess a c with
  | false => rfl
  | true =>
    by_cases e : a = b
    · rw [e, h2] at h; cases h
    · have := less_total _ _ h1 e
      rw [less_trans _ _ _ this h] at h2; cases h2
theorem swoA : SWO (ltOf cfA) where
  irrefl x := by unfold ltOf cfA; rw [lt_cf]; exact less_irrefl _
  trans x y z h1 h2 := by unfold ltOf cfA at *; rw [lt_cf] at *; exact less_trans _ _ _ h1 h2
  ntrans x y z h1 h2 := by unfold ltOf cfA at *; rw [lt_cf] at *; exact not_less_trans h1 h2
theorem swoP : SWO (ltOf cfP) where
  irrefl x := by unfold ltOf cfP; rw [lt_cf]; exact less_irrefl _
  trans x y z h1 h2 := by unfold ltOf cfP at *; rw [lt_cf] at *; exact less_trans _ _ _ h1 h2
  ntrans x y z h1 h2 := by unfold ltOf cfP at *; rw [lt_cf] at *; exact not_less_trans h1 h2
theorem cmpLaysA (c blk off size : Nat) (w : World) (hc : w.cell? ⟨c, 0, none⟩ = some (.func (.func 30) #[] #[])) (hb : c < w.heap.size) (hne : c ≠ blk) : CmpLays Try.prog 41 #[.pointer (some ⟨c, 0, none⟩)] encA 2 cfA blk off size w :=
  fun _ _ _ _ x y => closureA x y c _ (cmp_lays_cell hc hb hne).1 (cmp_lays_cell hc hb hne).2
theorem cmpLaysP (c blk off size : Nat) (w : World) (hc : w.cell? ⟨c, 0, none⟩ = some (.func (.func 35) #[] #[])) (hb : c < w.heap.size) (hne : c ≠ blk) : CmpLays Try.prog 48 #[.pointer (some ⟨c, 0, none⟩)] encP 4 cfP blk off size w :=
  fun _ _ _ _ x y => closureP x y c _ (cmp_lays_cell hc hb hne).1 (cmp_lays_cell hc hb hne).2
end Go.Proofs.Ytojeihchkdkkgab
