/- A list and a cursor in memory: New, Len, All, Has, Cursor; At, Left, Post, Next, Skip. -/
import Derived.Test.YtelgpmjafaopmaaSearchP
namespace Go.Proofs.Ytelgpmjafaopmaa
open Go.RowKit Go.Sort Go.Shelf

/-- The list at block L: its row is the calls' own, from block B on. -/
def Lst (w : World) (B L : Nat) (q : Option Addr) (cap : Nat) (l : List Pt) : Prop := w.heap[L]? = some (.cells #[.slice q l.length cap] 66 (0, 0)) ∧ OwnK encP 43 2 B w q cap l
/-- The cursor at block C: n posts at q, it stands at the k-th. -/
def Cur (w : World) (C : Nat) (q : Option Addr) (n cap k : Nat) : Prop := w.heap[C]? = some (.cells #[.slice q n cap, .int .i64 (k : Int)] 56 (0, 0))
theorem Lst.cell {w : World} {B L : Nat} {q : Option Addr} {cap : Nat} {l : List Pt} (h : Lst w B L q cap l) : w.cell? ⟨L, 0, none⟩ = some (.slice q l.length cap) := by
  unfold World.cell?; simp [h.1]
theorem Lst.lt {w : World} {B L : Nat} {q : Option Addr} {cap : Nat} {l : List Pt} (h : Lst w B L q cap l) : L < w.heap.size := (Array.getElem?_eq_some_iff.1 h.1).1
theorem Lst.below {w w' : World} {B L : Nat} {q : Option Addr} {cap : Nat} {l : List Pt} (h : Lst w B L q cap l) (hb : Below w.heap.size w w') : Lst w' B L q cap l := ⟨(hb.block L h.lt).trans h.1, h.2.below hb⟩
theorem Cur.cells {w : World} {C : Nat} {q : Option Addr} {n cap k : Nat} (h : Cur w C q n cap k) : w.cell? ⟨C, 0, none⟩ = some (.slice q n cap) ∧ w.cell? ⟨C, 1, none⟩ = some (.int .i64 (k : Int)) ∧ w.frozen? ⟨C, 1, none⟩ = false := by
  unfold Cur at h
  unfold World.cell? World.frozen?; simp [h]
theorem Cur.lt {w : World} {C : Nat} {q : Option Addr} {n cap k : Nat} (h : Cur w C q n cap k) : C < w.heap.size := (Array.getElem?_eq_some_iff.1 h).1
theorem Cur.below {w w' : World} {C : Nat} {q : Option Addr} {n cap k : Nat} (h : Cur w C q n cap k) (hb : Below w.heap.size w w') : Cur w' C q n cap k := (hb.block C h.lt).trans h
theorem Cur.put {w : World} {C : Nat} {q : Option Addr} {n cap k : Nat} (h : Cur w C q n cap k) (k' : Nat) : Cur (w.setCell ⟨C, 1, none⟩ (.int .i64 (k' : Int))) C q n cap k' := by
  unfold Cur at *
  rw [heap_setCell_same w C 1 _ 56 _ h]
  rfl

theorem newL (p : Option Addr) (c : Nat) (zs : List Pt) (hz : zs.length * 16 ≤ 140737488355328) (w : World) (hc : SlOf encP 2 w p c zs) :
    Calls Try.prog 8 #[.slice p zs.length c] w fun e w' => (∃ L q cap, e = .returned (.pointer (some ⟨L, 0, none⟩)) ∧ w.heap.size ≤ L ∧ Lst w' w.heap.size L q cap (ris zs)) ∧ Below w.heap.size w w' := by
  have h := risingP p c zs hz w hc
  clear hc
  go_enter Try.func8, Try.ntmps8
  go_wp2_with (go_at_call 24; refine h.mono ?_; rintro e w1 ⟨⟨q, cap, rfl, ho⟩, hb⟩; have HO := hide ho; have HB := hide hb; clear ho hb)
  go_ret
  refine ⟨⟨w1.heap.size, q, cap, rfl, (unhide HB).size, World.alloc_heap_new w1 _, (unhide HO).alloc _⟩, (unhide HB).alloc (unhide HB).size _⟩
theorem lenL (B L : Nat) (q : Option Addr) (cap : Nat) (l : List Pt) (w : World) (h : Lst w B L q cap l) :
    Calls Try.prog 13 #[.pointer (some ⟨L, 0, none⟩)] w fun e w' => e = .returned (.int .i64 (l.length : Nat)) ∧ w' = w := by
  have c0 := h.cell
  go_enter Try.func13, Try.ntmps13
  go_wp2
  go_ret
  exact ⟨rfl, rfl⟩
theorem allL (B L : Nat) (q : Option Addr) (cap : Nat) (l : List Pt) (w : World) (hz : l.length * 16 ≤ 140737488355328) (h : Lst w B L q cap l) :
    Calls Try.prog 11 #[.pointer (some ⟨L, 0, none⟩)] w fun e w' => (∃ q' cap', e = .returned (.slice q' l.length cap') ∧ OwnK encP 43 2 w.heap.size w' q' cap' l) ∧ Below w.heap.size w w' := by
  have c0 := h.cell
  have hc := cloneP q cap l hz w h.2.ls
  clear h
  go_enter Try.func11, Try.ntmps11
  go_wp2_with (go_at_call 34; refine hc.mono ?_; rintro e w1 ⟨⟨q', cap', rfl, ho⟩, hb⟩; have HO := hide ho; have HB := hide hb; clear ho hb)
  go_ret
  exact ⟨⟨q', cap', rfl, unhide HO⟩, unhide HB⟩
theorem cursorL (B L : Nat) (q : Option Addr) (cap : Nat) (l : List Pt) (w : World) (h : Lst w B L q cap l) :
    Calls Try.prog 9 #[.pointer (some ⟨L, 0, none⟩)] w fun e w' => (∃ C, e = .returned (.pointer (some ⟨C, 0, none⟩)) ∧ C = w.heap.size ∧ Cur w' C q l.length cap 0) ∧ Below w.heap.size w w' := by
  have c0 := h.cell
  clear h
  go_enter Try.func9, Try.ntmps9
  go_wp2
  go_ret
  exact ⟨⟨w.heap.size, rfl, rfl, World.alloc_heap_new w _⟩, (Below.refl _ _).alloc (Nat.le_refl _) _⟩
set_option maxHeartbeats 1000000 in
theorem hasL (B L : Nat) (q : Option Addr) (cap : Nat) (l : List Pt) (p : Pt) (w : World) (hz : l.length ≤ 100000000000000) (hst : Str l) (h : Lst w B L q cap l) :
    Calls Try.prog 23 #[.pointer (some ⟨L, 0, none⟩), .agg #[.int .i64 p.1, .bool p.2]] w fun e w' => e = .returned (.bool (decide (p ∈ l))) ∧ Below w.heap.size w w' := by
  have mixed : Try.prog.follows .mixedOrders = true := by kernel_rfl
  have e42 : ∀ args w, (callFunc 42 args).run Try.prog w = .ok (.enter 42 args) w := enters_of Try.func42 (by kernel_rfl) rfl
  obtain ⟨w0, hw0⟩ : ∃ w0, w0 = w.alloc (.cells #[.int .i64 p.1, .bool p.2] 43) := ⟨_, rfl⟩
  have hB0 : Below w.heap.size w w0 := by rw [hw0]; exact (Below.refl _ _).alloc (Nat.le_refl _) _
  obtain ⟨p0, p1⟩ := cells_of_block (show w0.heap[w.heap.size]? = some (.cells #[.int .i64 p.1, .bool p.2] 43 (0, 0)) by rw [hw0]; exact World.alloc_heap_new w _)
  have q0 := cell_regrown p0
  have q1 := cell_regrown p1
  have r0 := cell_regrown (h.below hB0).cell
  have hs := fun (W : World) (hb : Below w0.heap.size w0 W) => searchP q cap l p W ((h.2.ls.below hB0).below hb) hz hst
  have HB0 := hide hB0
  generalize hN : cnt (ltQ p) l = N at hs
  generalize hR : decide (p ∈ l) = R at hs ⊢
  clear h hst hB0 p0 p1 hN hR
  go_enter Try.func23, Try.ntmps23
  go_wp2
  rw [← hw0]
  clear hw0
  refine wp_region_quiet_below (by assumption) (by kernel_rfl) ?_
  repeat (go_big_quiet_step (first | (go_at_fn 42; refine Calls.regrown_of (hs _ (below_regrown _ _ _)))))
  refine wpQuiet_nil ?_
  intro _ hw'
  obtain ⟨⟨dq, osq⟩, hw''⟩ := hw'
  subst hw''
  go_wp2
  go_ret
  exact ⟨rfl, below_sub (unhide HB0) (below_regrown _ _ _)⟩
theorem atC (C : Nat) (q : Option Addr) (n cap k : Nat) (w : World) (h : Cur w C q n cap k) :
    Calls Try.prog 18 #[.pointer (some ⟨C, 0, none⟩)] w fun e w' => e = .returned (.int .i64 (k : Nat)) ∧ w' = w := by
  obtain ⟨c0, c1, _⟩ := h.cells
  clear h
  go_enter Try.func18, Try.ntmps18
  go_wp2
  go_ret
  exact ⟨rfl, rfl⟩
set_option maxHeartbeats 1000000 in
theorem leftC (C : Nat) (q : Option Addr) (n cap k : Nat) (w : World) (h : Cur w C q n cap k) (hk : k ≤ n) (hn : n ≤ 100000000000000) :
    Calls Try.prog 20 #[.pointer (some ⟨C, 0, none⟩)] w fun e w' => e = .returned (.int .i64 ((n - k : Nat) : Int)) ∧ w' = w.drew := by
  obtain ⟨c0, c1, _⟩ := h.cells
  obtain ⟨d, hd⟩ : ∃ d : Nat, n - k = d := ⟨_, rfl⟩
  have hw : IntKind.i64.wrap ((n : Int) - (k : Int)) = (d : Int) := by
    rw [show (n : Int) - (k : Int) = (d : Int) by omega]; exact wrap_nat d (by omega)
  rw [hd]
  clear h hd
  go_enter Try.func20, Try.ntmps20
  go_wp2
  go_region_held3 (fun w' => w'.cell? ⟨C, 0, none⟩ = some (.slice q n cap) ∧ w'.cell? ⟨C, 1, none⟩ = some (.int .i64 (k : Int))) (go_keep) (fail)
  all_goals
    go_wp2
    go_ret
    exact ⟨rfl, rfl⟩
end Go.Proofs.Ytelgpmjafaopmaa
