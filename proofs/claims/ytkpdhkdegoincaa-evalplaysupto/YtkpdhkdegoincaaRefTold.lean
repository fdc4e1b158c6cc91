/- What the reference's told returns, where the predicate is in form. -/
import Derived.Test.YtkpdhkdegoincaaRefEvA
import Derived.BigQuiet
namespace Go.Proofs.Ytkpdhkdegoincaa
open Go.RowKit Go.Sort

theorem twoT {w Y : World} {o1 o2 : Obj} (h : (w.alloc o1).alloc o2 = Y) : Y.heap[w.heap.size]? = some o1 ∧ Y.heap[w.heap.size + 1]? = some o2 ∧ Below w.heap.size w Y ∧ Y.heap.size = w.heap.size + 2 := by
  have b1 : Below (w.alloc o1).heap.size (w.alloc o1) Y := by rw [← h]; exact (Below.refl _ _).alloc (Nat.le_refl _) _
  have n1 := box_nw w o1
  have n2 := box_nw (w.alloc o1) o2
  rw [h] at n2
  have e : (w.alloc o1).heap.size = w.heap.size + 1 := by simp
  rw [e] at n2
  refine ⟨(b1.block _ (heap_lt n1)).trans n1, n2, ?_, by rw [← h]; simp⟩
  exact below_sub ((Below.refl _ _).alloc (Nat.le_refl _) _) b1
set_option maxRecDepth 100000 in
set_option maxHeartbeats 4000000 in
theorem told_k3 (kind : Int) (attr : ByteArray) (qi : Option Addr) (ci : Nat) (ints : List Int) (qw : Option Addr) (cw : Nat) (words : List ByteArray) (lo hi : Int) (y : Pr) (w : World) (h1 : SlOf encI 1 w qi ci ints) (h2 : SlOf encS 1 w qw cw words) (hkd : kind = 3) :
    Calls Try.prog 37 #[.agg #[.int .i64 kind, .string attr, .slice qi ints.length ci, .slice qw words.length cw, .int .i64 lo, .int .i64 hi], .agg #[.int .i64 y.kind, .int .i64 y.int, .string y.word]] w fun e w' => e = .returned (.bool ((y.kind == 1) && (decide (lo ≤ y.int) && decide (y.int ≤ hi)))) ∧ Below w.heap.size w w' := by
  have mixed : Try.prog.follows .mixedOrders = true := by kernel_rfl
  obtain ⟨X, HX⟩ : ∃ X, (w.alloc (.cells #[.int .i64 kind, .string attr, .slice qi ints.length ci, .slice qw words.length cw, .int .i64 lo, .int .i64 hi] 29)).alloc (.cells #[.int .i64 y.kind, .int .i64 y.int, .string y.word] 48) = X := ⟨_, rfl⟩
  obtain ⟨hX0, hX1, hwX, hXs⟩ := twoT HX
  obtain ⟨x0, x1, x2, x3, x4, x5⟩ := of6' hX0
  obtain ⟨z0, z1, z2⟩ := of3' hX1
  have HX0 := hide hX0
  have HX1 := hide hX1
  have HWX := hide hwX
  have H1 := hide h1
  have H2 := hide h2
  clear hX0 hX1 hwX hXs h1 h2
  subst hkd
  cases hyk : (y.kind == 1) with
  | true =>
    cases hlo : decide (lo ≤ y.int) with
    | true =>
      cases hhi : decide (y.int ≤ hi) with
      | true =>
        go_enter Try.func37, Try.ntmps37
        go_wp2
        go_ret
        exact ⟨ret_bool (by simp), unhide HWX⟩
      | false =>
        go_enter Try.func37, Try.ntmps37
        go_wp2
        go_ret
        exact ⟨ret_bool (by simp), unhide HWX⟩
    | false =>
      go_enter Try.func37, Try.ntmps37
      go_wp2
      go_ret
      exact ⟨ret_bool (by simp), unhide HWX⟩
  | false =>
    go_enter Try.func37, Try.ntmps37
    go_wp2
    go_ret
    exact ⟨ret_bool (by simp), unhide HWX⟩
set_option maxRecDepth 100000 in
set_option maxHeartbeats 4000000 in
theorem told_k4 (attr : ByteArray) (qi : Option Addr) (ci : Nat) (ints : List Int) (b off : Nat) (cw : Nat) (x : ByteArray) (lo hi : Int) (y : Pr) (w : World) (h1 : SlOf encI 1 w qi ci ints) (h2 : SlOf encS 1 w (some ⟨b, off, none⟩) cw [x]) (hlt : b < w.heap.size) (hc : w.cell? ⟨b, off, none⟩ = some (.string x)) :
    Calls Try.prog 37 #[.agg #[.int .i64 4, .string attr, .slice qi ints.length ci, .slice (some ⟨b, off, none⟩) 1 cw, .int .i64 lo, .int .i64 hi], .agg #[.int .i64 y.kind, .int .i64 y.int, .string y.word]] w fun e w' => e = .returned (.bool ((y.kind == 2) && prefB y.word x)) ∧ Below w.heap.size w w' := by
  have mixed : Try.prog.follows .mixedOrders = true := by kernel_rfl
  obtain ⟨X, HX⟩ : ∃ X, (w.alloc (.cells #[.int .i64 4, .string attr, .slice qi ints.length ci, .slice (some ⟨b, off, none⟩) 1 cw, .int .i64 lo, .int .i64 hi] 29)).alloc (.cells #[.int .i64 y.kind, .int .i64 y.int, .string y.word] 48) = X := ⟨_, rfl⟩
  obtain ⟨hX0, hX1, hwX, hXs⟩ := twoT HX
  obtain ⟨x0, x1, x2, x3, x4, x5⟩ := of6' hX0
  obtain ⟨z0, z1, z2⟩ := of3' hX1
  have HX0 := hide hX0
  have HX1 := hide hX1
  have HWX := hide hwX
  have H1 := hide h1
  have H2 := hide h2
  clear hX0 hX1 hwX hXs h1 h2
  have HC3 := hide (((unhide HWX).cell (p := ⟨b, off, none⟩) (by exact hlt)).trans hc)
  clear hc hlt
  have r40 := fun (n : Nat) (os : Array Obj) => begins_any y.word x (grow (redrawn X n) os)
  obtain ⟨pb, hpb⟩ : ∃ pb, prefB y.word x = pb := ⟨_, rfl⟩
  rw [hpb] at r40
  have HPB := hide hpb
  clear hpb
  have en40 : ∀ args w, (callFunc 60 args).run Try.prog w = .ok (.enter 60 args) w := enters_of Try.func60 (by kernel_rfl) rfl
  cases hyk : (y.kind == 2) with
  | true =>
    go_enter Try.func37, Try.ntmps37
    go_wp2
    have f0 : ∀ n os, (grow (redrawn X n) os).cell? ⟨w.heap.size + 1, 0, none⟩ = some (.int .i64 y.kind) := cell_regrown z0
    have f2 : ∀ n os, (grow (redrawn X n) os).cell? ⟨w.heap.size + 1, 2, none⟩ = some (.string y.word) := cell_regrown z2
    have f3 : ∀ n os, (grow (redrawn X n) os).cell? ⟨w.heap.size, 3, none⟩ = some (.slice (some ⟨b, off, none⟩) 1 cw) := cell_regrown x3
    have f4 : ∀ n os, (grow (redrawn X n) os).cell? ⟨b, off, none⟩ = some (.string x) := cell_regrown (unhide HC3)
    clear x0 x1 x2 x3 x4 x5 z0 z1 z2
    refine wp_region_quiet_below (by assumption) (by kernel_rfl) ?_
    repeat (go_big_quiet_step (first | (go_at_fn 60; refine Calls.regrown_of (r40 _ _))))
    refine wpQuiet_nil ?_
    intro _ hw'
    obtain ⟨⟨dq, osq⟩, hw''⟩ := hw'
    subst hw''
    go_wp2
    go_ret
    exact ⟨ret_bool (by rw [unhide HPB]; simp), below_sub (unhide HWX) (below_regrown _ _ _)⟩
  | false =>
    go_enter Try.func37, Try.ntmps37
    go_wp2
    have f0 : ∀ n os, (grow (redrawn X n) os).cell? ⟨w.heap.size + 1, 0, none⟩ = some (.int .i64 y.kind) := cell_regrown z0
    have f2 : ∀ n os, (grow (redrawn X n) os).cell? ⟨w.heap.size + 1, 2, none⟩ = some (.string y.word) := cell_regrown z2
    have f3 : ∀ n os, (grow (redrawn X n) os).cell? ⟨w.heap.size, 3, none⟩ = some (.slice (some ⟨b, off, none⟩) 1 cw) := cell_regrown x3
    have f4 : ∀ n os, (grow (redrawn X n) os).cell? ⟨b, off, none⟩ = some (.string x) := cell_regrown (unhide HC3)
    clear x0 x1 x2 x3 x4 x5 z0 z1 z2
    refine wp_region_quiet_below (by assumption) (by kernel_rfl) ?_
    repeat (go_big_quiet_step (first | (go_at_fn 60; refine Calls.regrown_of (r40 _ _))))
    refine wpQuiet_nil ?_
    intro _ hw'
    obtain ⟨⟨dq, osq⟩, hw''⟩ := hw'
    subst hw''
    go_wp2
    go_ret
    exact ⟨ret_bool (by simp), below_sub (unhide HWX) (below_regrown _ _ _)⟩
theorem and_none {α : Type} {f : α → Bool} {b : Bool} {l : List α} (h : ∀ (j : Nat) (x : α), j < l.length → l[j]? = some x → (b && f x) = false) : (b && l.any f) = false := by
  cases b
  · rfl
  · rw [Bool.true_and]
    exact any_none (fun j x hj hx => by have := h j x hj hx; simpa using this)
set_option maxRecDepth 100000 in
set_option maxHeartbeats 4000000 in
theorem told_set (kind : Int) (attr : ByteArray) (qi : Option Addr) (ci : Nat) (ints : List Int) (qw : Option Addr) (cw : Nat) (words : List ByteArray) (lo hi : Int) (y : Pr) (w : World) (h1 : SlOf encI 1 w qi ci ints) (h2 : SlOf encS 1 w qw cw words) (l1 : ints.length ≤ 100000000000000) (l2 : words.length ≤ 100000000000000) (k3 : (kind == 3) = false) (k4 : (kind == 4) = false) :
    Calls Try.prog 37 #[.agg #[.int .i64 kind, .string attr, .slice qi ints.length ci, .slice qw words.length cw, .int .i64 lo, .int .i64 hi], .agg #[.int .i64 y.kind, .int .i64 y.int, .string y.word]] w fun e w' => e = .returned (.bool (((y.kind == 1) && hasI y.int ints) || ((y.kind == 2) && hasS y.word words))) ∧ Below w.heap.size w w' := by
  have mixed : Try.prog.follows .mixedOrders = true := by kernel_rfl
  obtain ⟨X, HX⟩ : ∃ X, (w.alloc (.cells #[.int .i64 kind, .string attr, .slice qi ints.length ci, .slice qw words.length cw, .int .i64 lo, .int .i64 hi] 29)).alloc (.cells #[.int .i64 y.kind, .int .i64 y.int, .string y.word] 48) = X := ⟨_, rfl⟩
  obtain ⟨hX0, hX1, hwX, hXs⟩ := twoT HX
  obtain ⟨x0, x1, x2, x3, x4, x5⟩ := of6' hX0
  obtain ⟨z0, z1, z2⟩ := of3' hX1
  have HX0 := hide hX0
  have HX1 := hide hX1
  have HWX := hide hwX
  have H1 := hide h1
  have H2 := hide h2
  clear hX0 hX1 hwX hXs h1 h2
  go_enter Try.func37, Try.ntmps37
  go_wp2
  go_loopw [5] (fun i wr => ∃ k : Nat, k ≤ ints.length ∧ i = .int .i64 k ∧ Below X.heap.size X wr ∧ Hid (∀ (j : Nat) (x : Int), j < k → ints[j]? = some x → ((y.kind == 1) && (y.int == x)) = false)) (fun i _ => ints.length - (intOf i).toNat)
  case atStart => exact ⟨0, by omega, rfl, Below.refl _ _, hide (fun j x hj => by omega)⟩
  case round =>
    obtain ⟨k, hk, rfl, hbel, HNo⟩ := hrel
    have BB := hide hbel
    obtain ⟨p0, p1, p2, p3, p4, p5⟩ := of6' ((hbel.block _ (heap_lt (unhide HX0))).trans (unhide HX0))
    obtain ⟨q0, q1, q2⟩ := of3' ((hbel.block _ (heap_lt (unhide HX1))).trans (unhide HX1))
    clear hbel
    by_cases hlt : k < ints.length
    · obtain ⟨x, hx, hd⟩ := get_at hlt
      clear hd
      obtain ⟨bb, off, rfl, hbb, g0⟩ := intsAt ((unhide H1).below (below_sub (unhide HWX) (unhide BB))) hx
      have ki0 : (0 : Int) ≤ (k : Int) := by omega
      have ki1 : (k : Int) < (ints.length : Int) := by omega
      have Hx := hide hx
      clear hx
      go_wp2
      have f0 : ∀ n os, (grow (redrawn wr n) os).cell? ⟨w.heap.size + 1, 0, none⟩ = some (.int .i64 y.kind) := cell_regrown q0
      have f1 : ∀ n os, (grow (redrawn wr n) os).cell? ⟨w.heap.size + 1, 1, none⟩ = some (.int .i64 y.int) := cell_regrown q1
      have f2 : ∀ n os, (grow (redrawn wr n) os).cell? ⟨w.heap.size, 2, none⟩ = some (.slice (some ⟨bb, off, none⟩) ints.length ci) := cell_regrown p2
      have f3 := cell_regrown g0
      clear p0 p1 p2 p3 p4 p5 q0 q1 q2 g0
      cases hk1 : (y.kind == 1) with
      | true =>
        cases hq : (x == y.int) with
        | true =>
          have HY := hide (show hasI y.int ints = true from any_yes (unhide Hx) (by rw [← hq]; exact BEq.comm))
          refine wp_region_quiet_below (by assumption) (by kernel_rfl) ?_
          repeat (go_big_quiet_step (fail))
          refine wpQuiet_nil ?_
          intro _ hw'
          obtain ⟨⟨dq, osq⟩, hw''⟩ := hw'
          subst hw''
          go_wp2
          go_ret
          exact ⟨ret_bool (by rw [unhide HY, hk1]; simp), below_sub (unhide HWX) (below_sub (unhide BB) (below_regrown _ _ _))⟩
        | false =>
          have HN2 : Hid (∀ (j : Nat) (u : Int), j < k + 1 → ints[j]? = some u → ((y.kind == 1) && (y.int == u)) = false) := hide (fun j u hj hu => by
            by_cases e : j = k
            · subst e; rw [unhide Hx] at hu; cases hu; rw [show (y.int == x) = false from by rw [← hq]; exact BEq.comm]; simp
            · exact (unhide HNo) j u (by omega) hu)
          refine wp_region_quiet_below (by assumption) (by kernel_rfl) ?_
          repeat (go_big_quiet_step (fail))
          refine wpQuiet_nil ?_
          intro _ hw'
          obtain ⟨⟨dq, osq⟩, hw''⟩ := hw'
          subst hw''
          go_wp2
          go_roundw
          case rel => exact ⟨k + 1, by omega, by go_num, below_sub (unhide BB) (below_regrown _ _ _), HN2⟩
          case measure => simp [intOf]; omega
      | false =>
        have HN2 : Hid (∀ (j : Nat) (u : Int), j < k + 1 → ints[j]? = some u → ((y.kind == 1) && (y.int == u)) = false) := hide (fun j u hj hu => by rw [hk1]; rfl)
        refine wp_region_quiet_below (by assumption) (by kernel_rfl) ?_
        repeat (go_big_quiet_step (fail))
        refine wpQuiet_nil ?_
        intro _ hw'
        obtain ⟨⟨dq, osq⟩, hw''⟩ := hw'
        subst hw''
        go_wp2
        go_roundw
        case rel => exact ⟨k + 1, by omega, by go_num, below_sub (unhide BB) (below_regrown _ _ _), HN2⟩
        case measure => simp [intOf]; omega
    · have ki1 : ¬ (k : Int) < (ints.length : Int) := by omega
      have HE1 := hide (show ((y.kind == 1) && hasI y.int ints) = false from and_none (fun j x hj hx => (unhide HNo) j x (by omega) hx))
      clear HNo
      go_wp2
      have BV := BB
      clear p0 p1 p2 p3 p4 p5 q0 q1 q2 BB hlt ki1 hk
      go_loopw [6] (fun i wr => ∃ k : Nat, k ≤ words.length ∧ i = .int .i64 k ∧ Below X.heap.size X wr ∧ Hid (∀ (j : Nat) (x : ByteArray), j < k → words[j]? = some x → ((y.kind == 2) && (y.word.toList == x.toList)) = false)) (fun i _ => words.length - (intOf i).toNat)
      case atStart => exact ⟨0, by omega, rfl, unhide BV, hide (fun j x hj => by omega)⟩
      case round =>
        obtain ⟨k, hk, rfl, hbel, HNo⟩ := hrel
        have BB := hide hbel
        obtain ⟨p0, p1, p2, p3, p4, p5⟩ := of6' ((hbel.block _ (heap_lt (unhide HX0))).trans (unhide HX0))
        obtain ⟨q0, q1, q2⟩ := of3' ((hbel.block _ (heap_lt (unhide HX1))).trans (unhide HX1))
        clear hbel
        by_cases hlt : k < words.length
        · obtain ⟨x, hx, hd⟩ := get_at hlt
          clear hd
          obtain ⟨bb, off, rfl, hbb, g0⟩ := wordsAt ((unhide H2).below (below_sub (unhide HWX) (unhide BB))) hx
          have ki0 : (0 : Int) ≤ (k : Int) := by omega
          have ki1 : (k : Int) < (words.length : Int) := by omega
          have Hx := hide hx
          clear hx
          go_wp2
          have f0 : ∀ n os, (grow (redrawn wr n) os).cell? ⟨w.heap.size + 1, 0, none⟩ = some (.int .i64 y.kind) := cell_regrown q0
          have f1 : ∀ n os, (grow (redrawn wr n) os).cell? ⟨w.heap.size + 1, 2, none⟩ = some (.string y.word) := cell_regrown q2
          have f2 : ∀ n os, (grow (redrawn wr n) os).cell? ⟨w.heap.size, 3, none⟩ = some (.slice (some ⟨bb, off, none⟩) words.length cw) := cell_regrown p3
          have f3 := cell_regrown g0
          clear p0 p1 p2 p3 p4 p5 q0 q1 q2 g0
          cases hk1 : (y.kind == 2) with
          | true =>
            cases hq : (x.toList == y.word.toList) with
            | true =>
              have HY := hide (show hasS y.word words = true from any_yes (unhide Hx) (by rw [← hq]; exact BEq.comm))
              refine wp_region_quiet_below (by assumption) (by kernel_rfl) ?_
              repeat (go_big_quiet_step (fail))
              refine wpQuiet_nil ?_
              intro _ hw'
              obtain ⟨⟨dq, osq⟩, hw''⟩ := hw'
              subst hw''
              go_wp2
              go_ret
              exact ⟨ret_bool (by rw [unhide HY, hk1]; simp), below_sub (unhide HWX) (below_sub (unhide BB) (below_regrown _ _ _))⟩
            | false =>
              have HN2 : Hid (∀ (j : Nat) (u : ByteArray), j < k + 1 → words[j]? = some u → ((y.kind == 2) && (y.word.toList == u.toList)) = false) := hide (fun j u hj hu => by
                by_cases e : j = k
                · subst e; rw [unhide Hx] at hu; cases hu; rw [show (y.word.toList == x.toList) = false from by rw [← hq]; exact BEq.comm]; simp
                · exact (unhide HNo) j u (by omega) hu)
              refine wp_region_quiet_below (by assumption) (by kernel_rfl) ?_
              repeat (go_big_quiet_step (fail))
              refine wpQuiet_nil ?_
              intro _ hw'
              obtain ⟨⟨dq, osq⟩, hw''⟩ := hw'
              subst hw''
              go_wp2
              go_roundw
              case rel => exact ⟨k + 1, by omega, by go_num, below_sub (unhide BB) (below_regrown _ _ _), HN2⟩
              case measure => simp [intOf]; omega
          | false =>
            have HN2 : Hid (∀ (j : Nat) (u : ByteArray), j < k + 1 → words[j]? = some u → ((y.kind == 2) && (y.word.toList == u.toList)) = false) := hide (fun j u hj hu => by rw [hk1]; rfl)
            refine wp_region_quiet_below (by assumption) (by kernel_rfl) ?_
            repeat (go_big_quiet_step (fail))
            refine wpQuiet_nil ?_
            intro _ hw'
            obtain ⟨⟨dq, osq⟩, hw''⟩ := hw'
            subst hw''
            go_wp2
            go_roundw
            case rel => exact ⟨k + 1, by omega, by go_num, below_sub (unhide BB) (below_regrown _ _ _), HN2⟩
            case measure => simp [intOf]; omega
        · have ki1 : ¬ (k : Int) < (words.length : Int) := by omega
          have HE2 := hide (show ((y.kind == 2) && hasS y.word words) = false from and_none (fun j x hj hx => (unhide HNo) j x (by omega) hx))
          clear HNo
          go_wp2
          go_ret
          exact ⟨ret_bool (by rw [unhide HE1, unhide HE2]; rfl), below_sub (unhide HWX) (unhide BB)⟩
end Go.Proofs.Ytkpdhkdegoincaa
