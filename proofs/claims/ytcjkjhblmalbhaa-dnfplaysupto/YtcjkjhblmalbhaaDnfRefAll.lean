/- What the reference answers: its Holds, Any, join and Tree. -/
import Derived.Test.YtcjkjhblmalbhaaEvHolds
import Derived.Test.YtcjkjhblmalbhaaRefPred
import Derived.BigQuiet
import Derived.Test.YtcjkjhblmalbhaaDnfHolds
import Derived.Test.YtcjkjhblmalbhaaDnfTree
import Derived.Test.YtcjkjhblmalbhaaDnfBackPlain
import Derived.Deep.CutRange
namespace Go.Proofs.Ytcjkjhblmalbhaa
open Go.RowKit Go.Sort

set_option maxHeartbeats 1000000 in
theorem refCheck_any (k n : Int) (s : ByteArray) (w : World) :
    Calls Try.prog 47 #[.agg #[.int .i64 k, .int .i64 n, .string s]] w fun e w' => e = .returned (.int .i64 (chkV k n s)) ∧ Below w.heap.size w w' := by
  by_cases h1 : k = 1
  · subst h1
    go_enter Try.func47, Try.ntmps47
    go_wp2
    all_goals (go_ret; refine ⟨ret_int ?_, (Below.refl _ _).alloc (Nat.le_refl _) _⟩)
    · exact (chk_yes1 rfl (by assumption) (by assumption) (by assumption)).symm
    · exact (chk_no1 rfl (by rw [← empty_iff]; simp [*])).symm
    · exact (chk_no1 rfl (by omega)).symm
    · exact (chk_no1 rfl (by omega)).symm
  · by_cases h2 : k = 2 ∧ n = 0
    · obtain ⟨rfl, rfl⟩ := h2
      go_enter Try.func47, Try.ntmps47
      go_wp2
      all_goals (go_ret; refine ⟨ret_int ?_, (Below.refl _ _).alloc (Nat.le_refl _) _⟩)
      · exact (chk_yes2 rfl rfl (by assumption)).symm
      · exact (chk_no2 rfl (by omega)).symm
    · have hn : chkV k n s = 1 := chk_no2 (by simpa using h1) (by omega)
      have Hn : Hid (chkV k n s = 1) := hn
      clear hn
      by_cases h3 : k = 2
      · have h4 : n ≠ 0 := fun h => h2 ⟨h3, h⟩
        subst h3
        clear h2
        go_enter Try.func47, Try.ntmps47
        go_wp2
        all_goals (go_ret; exact ⟨ret_int Hn.out.symm, (Below.refl _ _).alloc (Nat.le_refl _) _⟩)
      · clear h2
        go_enter Try.func47, Try.ntmps47
        go_wp2
        all_goals (go_ret; exact ⟨ret_int Hn.out.symm, (Below.refl _ _).alloc (Nat.le_refl _) _⟩)

structure IsCmp {α : Type} (c : α → α → Int) : Prop where
  rng : ∀ a b, c a b = -1 ∨ c a b = 0 ∨ c a b = 1
  neg : ∀ a b, c b a = - c a b
  eq : ∀ a b, c a b = 0 ↔ a = b
  trans : ∀ a b d, c a b ≤ 0 → c b d ≤ 0 → c a d ≤ 0

set_option maxHeartbeats 1000000 in
theorem refGet_any (p : Option Addr) (cap : Nat) (l : List Pr) (s : ByteArray) (w : World) (hm : l.length ≤ 140737488355328) (hA : SlOf encP 4 w p cap l) :
    Calls Try.prog 46 #[.slice p l.length cap, .string s] w fun e w' => e = .returned (getV (getP s l)) ∧ Below w.heap.size w w' := by
  have HA := hide hA
  clear hA
  go_enter Try.func46, Try.ntmps46
  go_wp2
  go_loopw [6] (fun i wr => ∃ k : Nat, k ≤ l.length ∧ i = .int .i64 k ∧ Below w.heap.size w wr ∧ Box wr w.heap.size (0, 0, ⟨#[]⟩) ∧ getP s l = getP s (l.drop k)) (fun i _ => l.length - (intOf i).toNat)
  case atStart => exact ⟨0, by omega, rfl, (Below.refl _ _).alloc (Nat.le_refl _) _, Box.new w (0, 0, ⟨#[]⟩) 53, by simp⟩
  case round =>
    obtain ⟨k, hk, rfl, hbel, hbox, heq⟩ := hrel
    have Heq := hide heq
    clear heq
    by_cases hlt : k < l.length
    · obtain ⟨x, hx, hd⟩ := get_at hlt
      obtain ⟨bb, off, rfl, hbb, g0, g1, g2, g3⟩ := prsAt ((unhide HA).below hbel) hx
      have Hd := hide hd
      clear hd
      have ki0 : (0 : Int) ≤ (k : Int) := by omega
      have ki1 : (k : Int) < (l.length : Int) := by omega
      have Hx := hide hx
      clear hx
      cases hq : (x.name.toList == s.toList) with
      | true =>
        have Hy := hide (get_yes (unhide Heq) (unhide Hd) hq)
        have Hb := hide hbox
        obtain ⟨r0, r1, r2, fr0, sz0⟩ := hbox
        simp only at r0 r1 r2
        go_wp2
        obtain ⟨z0, z1, z2, _, _⟩ := (unhide Hb).put (x.kind, x.int, x.word)
        unfold put3 at z0 z1 z2
        refine bodyPost_ret (v := .tuple #[.agg #[.int .i64 x.kind, .int .i64 x.int, .string x.word], .bool true]) (by simp [results, Try.results46, go_sem, r0, r1, r2]) rfl ⟨by rw [unhide Hy]; rfl, ?_⟩
        exact hbel.trans (below_put3 wr w.heap.size (x.kind, x.int, x.word) (Nat.le_refl _))
      | false =>
        have Hy := hide (get_no (unhide Heq) (unhide Hd) hq)
        have Hb := hide hbox
        clear hbox
        go_wp2
        go_roundw
        case rel => exact ⟨k + 1, by omega, by go_num, hbel, unhide Hb, unhide Hy⟩
        case measure => simp [intOf]; omega
    · obtain rfl : k = l.length := by omega
      have Hy := hide (get_end (unhide Heq) hlt)
      have Hb := hide hbox
      obtain ⟨r0, r1, r2, fr0, sz0⟩ := hbox
      simp only at r0 r1 r2
      go_wp2
      have hb3 := (unhide Hb).put (0, 0, ⟨#[]⟩)
      obtain ⟨z0, z1, z2, _, _⟩ := hb3
      unfold put3 at z0 z1 z2
      refine bodyPost_ret (v := .tuple #[.agg #[.int .i64 0, .int .i64 0, .string ⟨#[]⟩], .bool false]) (by simp [results, Try.results46, go_sem, r0, r1, r2]) rfl ⟨by rw [unhide Hy]; rfl, ?_⟩
      exact hbel.trans (below_put3 _ w.heap.size (0, 0, ⟨#[]⟩) (Nat.le_refl _))
set_option maxHeartbeats 1000000 in
theorem begins_any (s p : ByteArray) (w : World) : Calls Try.prog 73 #[.string s, .string p] w fun e w' => e = .returned (.bool (prefB s p)) ∧ Below w.heap.size w w' := by
  by_cases hl : p.size ≤ s.size
  · have h1 : (p.size : Int) ≤ (s.size : Int) := by omega
    go_enter Try.func73, Try.ntmps73
    go_wp2
    go_ret
    exact ⟨ret_bool (by simp [prefB, hl]), Below.refl _ _⟩
  · have h1 : ¬ (p.size : Int) ≤ (s.size : Int) := by omega
    go_enter Try.func73, Try.ntmps73
    go_wp2
    go_ret
    exact ⟨ret_bool (by simp [prefB, hl]), Below.refl _ _⟩
end Go.Proofs.Ytcjkjhblmalbhaa
namespace Go.Proofs.Ytcjkjhblmalbhaa
open Go.RowKit Go.Sort

theorem twoT {w Y : World} {o1 o2 : Obj} (h : (w.alloc o1).alloc o2 = Y) : Y.heap[w.heap.size]? = some o1 ∧ Y.heap[w.heap.size + 1]? = some o2 ∧ Below w.heap.size w Y ∧ Y.heap.size = w.heap.size + 2 := by
  have b1 : Below (w.alloc o1).heap.size (w.alloc o1) Y := by rw [← h]; exact (Below.refl _ _).alloc (Nat.le_refl _) _
  have n1 := box_nw w o1
  have n2 := box_nw (w.alloc o1) o2
  rw [h] at n2
  have e : (w.alloc o1).heap.size = w.heap.size + 1 := by simp
  rw [e] at n2
  refine ⟨(b1.block _ (heap_lt n1)).trans n1, n2, ?_, by rw [← h]; simp⟩
  exact below_sub ((Below.refl _ _).alloc (Nat.le_refl _) _) b1
set_option maxRecDepth 100000 in
set_option maxHeartbeats 4000000 in
theorem told_k3 (kind : Int) (attr : ByteArray) (qi : Option Addr) (ci : Nat) (ints : List Int) (qw : Option Addr) (cw : Nat) (words : List ByteArray) (lo hi : Int) (y : Pr) (w : World) (h1 : SlOf encI 1 w qi ci ints) (h2 : SlOf encS 1 w qw cw words) (hkd : kind = 3) :
    Calls Try.prog 48 #[.agg #[.int .i64 kind, .string attr, .slice qi ints.length ci, .slice qw words.length cw, .int .i64 lo, .int .i64 hi], .agg #[.int .i64 y.kind, .int .i64 y.int, .string y.word]] w fun e w' => e = .returned (.bool ((y.kind == 1) && (decide (lo ≤ y.int) && decide (y.int ≤ hi)))) ∧ Below w.heap.size w w' := by
  have mixed : Try.prog.follows .mixedOrders = true := by kernel_rfl
  obtain ⟨X, HX⟩ : ∃ X, (w.alloc (.cells #[.int .i64 kind, .string attr, .slice qi ints.length ci, .slice qw words.length cw, .int .i64 lo, .int .i64 hi] 33)).alloc (.cells #[.int .i64 y.kind, .int .i64 y.int, .string y.word] 53) = X := ⟨_, rfl⟩
  obtain ⟨hX0, hX1, hwX, hXs⟩ := twoT HX
  obtain ⟨x0, x1, x2, x3, x4, x5⟩ := of6' hX0
  obtain ⟨z0, z1, z2⟩ := of3' hX1
  have HX0 := hide hX0
  have HX1 := hide hX1
  have HWX := hide hwX
  have H1 := hide h1
  have H2 := hide h2
  clear hX0 hX1 hwX hXs h1 h2
  subst hkd
  cases hyk : (y.kind == 1) with
  | true =>
    cases hlo : decide (lo ≤ y.int) with
    | true =>
      cases hhi : decide (y.int ≤ hi) with
      | true =>
        go_enter Try.func48, Try.ntmps48
        go_wp2
        go_ret
        exact ⟨ret_bool (by simp), unhide HWX⟩
      | false =>
        go_enter Try.func48, Try.ntmps48
        go_wp2
        go_ret
        exact ⟨ret_bool (by simp), unhide HWX⟩
    | false =>
      go_enter Try.func48, Try.ntmps48
      go_wp2
      go_ret
      exact ⟨ret_bool (by simp), unhide HWX⟩
  | false =>
    go_enter Try.func48, Try.ntmps48
    go_wp2
    go_ret
    exact ⟨ret_bool (by simp), unhide HWX⟩
set_option maxRecDepth 100000 in
set_option maxHeartbeats 4000000 in
theorem told_k4 (attr : ByteArray) (qi : Option Addr) (ci : Nat) (ints : List Int) (b off : Nat) (cw : Nat) (x : ByteArray) (lo hi : Int) (y : Pr) (w : World) (h1 : SlOf encI 1 w qi ci ints) (h2 : SlOf encS 1 w (some ⟨b, off, none⟩) cw [x]) (hlt : b < w.heap.size) (hc : w.cell? ⟨b, off, none⟩ = some (.string x)) :
    Calls Try.prog 48 #[.agg #[.int .i64 4, .string attr, .slice qi ints.length ci, .slice (some ⟨b, off, none⟩) 1 cw, .int .i64 lo, .int .i64 hi], .agg #[.int .i64 y.kind, .int .i64 y.int, .string y.word]] w fun e w' => e = .returned (.bool ((y.kind == 2) && prefB y.word x)) ∧ Below w.heap.size w w' := by
  have mixed : Try.prog.follows .mixedOrders = true := by kernel_rfl
  obtain ⟨X, HX⟩ : ∃ X, (w.alloc (.cells #[.int .i64 4, .string attr, .slice qi ints.length ci, .slice (some ⟨b, off, none⟩) 1 cw, .int .i64 lo, .int .i64 hi] 33)).alloc (.cells #[.int .i64 y.kind, .int .i64 y.int, .string y.word] 53) = X := ⟨_, rfl⟩
  obtain ⟨hX0, hX1, hwX, hXs⟩ := twoT HX
  obtain ⟨x0, x1, x2, x3, x4, x5⟩ := of6' hX0
  obtain ⟨z0, z1, z2⟩ := of3' hX1
  have HX0 := hide hX0
  have HX1 := hide hX1
  have HWX := hide hwX
  have H1 := hide h1
  have H2 := hide h2
  clear hX0 hX1 hwX hXs h1 h2
  have HC3 := hide (((unhide HWX).cell (p := ⟨b, off, none⟩) (by exact hlt)).trans hc)
  clear hc hlt
  have r40 := fun (n : Nat) (os : Array Obj) => begins_any y.word x (grow (redrawn X n) os)
  obtain ⟨pb, hpb⟩ : ∃ pb, prefB y.word x = pb := ⟨_, rfl⟩
  rw [hpb] at r40
  have HPB := hide hpb
  clear hpb
  have en40 : ∀ args w, (callFunc 73 args).run Try.prog w = .ok (.enter 73 args) w := enters_of Try.func73 (by kernel_rfl) rfl
  cases hyk : (y.kind == 2) with
  | true =>
    go_enter Try.func48, Try.ntmps48
    go_wp2
    have f0 : ∀ n os, (grow (redrawn X n) os).cell? ⟨w.heap.size + 1, 0, none⟩ = some (.int .i64 y.kind) := cell_regrown z0
    have f2 : ∀ n os, (grow (redrawn X n) os).cell? ⟨w.heap.size + 1, 2, none⟩ = some (.string y.word) := cell_regrown z2
    have f3 : ∀ n os, (grow (redrawn X n) os).cell? ⟨w.heap.size, 3, none⟩ = some (.slice (some ⟨b, off, none⟩) 1 cw) := cell_regrown x3
    have f4 : ∀ n os, (grow (redrawn X n) os).cell? ⟨b, off, none⟩ = some (.string x) := cell_regrown (unhide HC3)
    clear x0 x1 x2 x3 x4 x5 z0 z1 z2
    refine wp_region_quiet_below (by assumption) (by kernel_rfl) ?_
    repeat (go_big_quiet_step (first | (go_at_fn 73; refine Calls.regrown_of (r40 _ _))))
    refine wpQuiet_nil ?_
    intro _ hw'
    obtain ⟨⟨dq, osq⟩, hw''⟩ := hw'
    subst hw''
    go_wp2
    go_ret
    exact ⟨ret_bool (by rw [unhide HPB]; simp), below_sub (unhide HWX) (below_regrown _ _ _)⟩
  | false =>
    go_enter Try.func48, Try.ntmps48
    go_wp2
    have f0 : ∀ n os, (grow (redrawn X n) os).cell? ⟨w.heap.size + 1, 0, none⟩ = some (.int .i64 y.kind) := cell_regrown z0
    have f2 : ∀ n os, (grow (redrawn X n) os).cell? ⟨w.heap.size + 1, 2, none⟩ = some (.string y.word) := cell_regrown z2
    have f3 : ∀ n os, (grow (redrawn X n) os).cell? ⟨w.heap.size, 3, none⟩ = some (.slice (some ⟨b, off, none⟩) 1 cw) := cell_regrown x3
    have f4 : ∀ n os, (grow (redrawn X n) os).cell? ⟨b, off, none⟩ = some (.string x) := cell_regrown (unhide HC3)
    clear x0 x1 x2 x3 x4 x5 z0 z1 z2
    refine wp_region_quiet_below (by assumption) (by kernel_rfl) ?_
    repeat (go_big_quiet_step (first | (go_at_fn 73; refine Calls.regrown_of (r40 _ _))))
    refine wpQuiet_nil ?_
    intro _ hw'
    obtain ⟨⟨dq, osq⟩, hw''⟩ := hw'
    subst hw''
    go_wp2
    go_ret
    exact ⟨ret_bool (by simp), below_sub (unhide HWX) (below_regrown _ _ _)⟩
theorem and_none {α : Type} {f : α → Bool} {b : Bool} {l : List α} (h : ∀ (j : Nat) (x : α), j < l.length → l[j]? = some x → (b && f x) = false) : (b && l.any f) = false := by
  cases b
  · rfl
  · rw [Bool.true_and]
    exact any_none (fun j x hj hx => by have := h j x hj hx; simpa using this)
set_option maxRecDepth 100000 in
set_option maxHeartbeats 4000000 in
theorem told_set (kind : Int) (attr : ByteArray) (qi : Option Addr) (ci : Nat) (ints : List Int) (qw : Option Addr) (cw : Nat) (words : List ByteArray) (lo hi : Int) (y : Pr) (w : World) (h1 : SlOf encI 1 w qi ci ints) (h2 : SlOf encS 1 w qw cw words) (l1 : ints.length ≤ 100000000000000) (l2 : words.length ≤ 100000000000000) (k3 : (kind == 3) = false) (k4 : (kind == 4) = false) :
    Calls Try.prog 48 #[.agg #[.int .i64 kind, .string attr, .slice qi ints.length ci, .slice qw words.length cw, .int .i64 lo, .int .i64 hi], .agg #[.int .i64 y.kind, .int .i64 y.int, .string y.word]] w fun e w' => e = .returned (.bool (((y.kind == 1) && hasI y.int ints) || ((y.kind == 2) && hasS y.word words))) ∧ Below w.heap.size w w' := by
  have mixed : Try.prog.follows .mixedOrders = true := by kernel_rfl
  obtain ⟨X, HX⟩ : ∃ X, (w.alloc (.cells #[.int .i64 kind, .string attr, .slice qi ints.length ci, .slice qw words.length cw, .int .i64 lo, .int .i64 hi] 33)).alloc (.cells #[.int .i64 y.kind, .int .i64 y.int, .string y.word] 53) = X := ⟨_, rfl⟩
  obtain ⟨hX0, hX1, hwX, hXs⟩ := twoT HX
  obtain ⟨x0, x1, x2, x3, x4, x5⟩ := of6' hX0
  obtain ⟨z0, z1, z2⟩ := of3' hX1
  have HX0 := hide hX0
  have HX1 := hide hX1
  have HWX := hide hwX
  have H1 := hide h1
  have H2 := hide h2
  clear hX0 hX1 hwX hXs h1 h2
  go_enter Try.func48, Try.ntmps48
  go_wp2
  go_loopw [5] (fun i wr => ∃ k : Nat, k ≤ ints.length ∧ i = .int .i64 k ∧ Below X.heap.size X wr ∧ Hid (∀ (j : Nat) (x : Int), j < k → ints[j]? = some x → ((y.kind == 1) && (y.int == x)) = false)) (fun i _ => ints.length - (intOf i).toNat)
  case atStart => exact ⟨0, by omega, rfl, Below.refl _ _, hide (fun j x hj => by omega)⟩
  case round =>
    obtain ⟨k, hk, rfl, hbel, HNo⟩ := hrel
    have BB := hide hbel
    obtain ⟨p0, p1, p2, p3, p4, p5⟩ := of6' ((hbel.block _ (heap_lt (unhide HX0))).trans (unhide HX0))
    obtain ⟨q0, q1, q2⟩ := of3' ((hbel.block _ (heap_lt (unhide HX1))).trans (unhide HX1))
    clear hbel
    by_cases hlt : k < ints.length
    · obtain ⟨x, hx, hd⟩ := get_at hlt
      clear hd
      obtain ⟨bb, off, rfl, hbb, g0⟩ := intsAt ((unhide H1).below (below_sub (unhide HWX) (unhide BB))) hx
      have ki0 : (0 : Int) ≤ (k : Int) := by omega
      have ki1 : (k : Int) < (ints.length : Int) := by omega
      have Hx := hide hx
      clear hx
      go_wp2
      have f0 : ∀ n os, (grow (redrawn wr n) os).cell? ⟨w.heap.size + 1, 0, none⟩ = some (.int .i64 y.kind) := cell_regrown q0
      have f1 : ∀ n os, (grow (redrawn wr n) os).cell? ⟨w.heap.size + 1, 1, none⟩ = some (.int .i64 y.int) := cell_regrown q1
      have f2 : ∀ n os, (grow (redrawn wr n) os).cell? ⟨w.heap.size, 2, none⟩ = some (.slice (some ⟨bb, off, none⟩) ints.length ci) := cell_regrown p2
      have f3 := cell_regrown g0
      clear p0 p1 p2 p3 p4 p5 q0 q1 q2 g0
      cases hk1 : (y.kind == 1) with
      | true =>
        cases hq : (x == y.int) with
        | true =>
          have HY := hide (show hasI y.int ints = true from any_yes (unhide Hx) (by rw [← hq]; exact BEq.comm))
          refine wp_region_quiet_below (by assumption) (by kernel_rfl) ?_
          repeat (go_big_quiet_step (fail))
          refine wpQuiet_nil ?_
          intro _ hw'
          obtain ⟨⟨dq, osq⟩, hw''⟩ := hw'
          subst hw''
          go_wp2
          go_ret
          exact ⟨ret_bool (by rw [unhide HY, hk1]; simp), below_sub (unhide HWX) (below_sub (unhide BB) (below_regrown _ _ _))⟩
        | false =>
          have HN2 : Hid (∀ (j : Nat) (u : Int), j < k + 1 → ints[j]? = some u → ((y.kind == 1) && (y.int == u)) = false) := hide (fun j u hj hu => by
            by_cases e : j = k
            · subst e; rw [unhide Hx] at hu; cases hu; rw [show (y.int == x) = false from by rw [← hq]; exact BEq.comm]; simp
            · exact (unhide HNo) j u (by omega) hu)
          refine wp_region_quiet_below (by assumption) (by kernel_rfl) ?_
          repeat (go_big_quiet_step (fail))
          refine wpQuiet_nil ?_
          intro _ hw'
          obtain ⟨⟨dq, osq⟩, hw''⟩ := hw'
          subst hw''
          go_wp2
          go_roundw
          case rel => exact ⟨k + 1, by omega, by go_num, below_sub (unhide BB) (below_regrown _ _ _), HN2⟩
          case measure => simp [intOf]; omega
      | false =>
        have HN2 : Hid (∀ (j : Nat) (u : Int), j < k + 1 → ints[j]? = some u → ((y.kind == 1) && (y.int == u)) = false) := hide (fun j u hj hu => by rw [hk1]; rfl)
        refine wp_region_quiet_below (by assumption) (by kernel_rfl) ?_
        repeat (go_big_quiet_step (fail))
        refine wpQuiet_nil ?_
        intro _ hw'
        obtain ⟨⟨dq, osq⟩, hw''⟩ := hw'
        subst hw''
        go_wp2
        go_roundw
        case rel => exact ⟨k + 1, by omega, by go_num, below_sub (unhide BB) (below_regrown _ _ _), HN2⟩
        case measure => simp [intOf]; omega
    · have ki1 : ¬ (k : Int) < (ints.length : Int) := by omega
      have HE1 := hide (show ((y.kind == 1) && hasI y.int ints) = false from and_none (fun j x hj hx => (unhide HNo) j x (by omega) hx))
      clear HNo
      go_wp2
      have BV := BB
      clear p0 p1 p2 p3 p4 p5 q0 q1 q2 BB hlt ki1 hk
      go_loopw [6] (fun i wr => ∃ k : Nat, k ≤ words.length ∧ i = .int .i64 k ∧ Below X.heap.size X wr ∧ Hid (∀ (j : Nat) (x : ByteArray), j < k → words[j]? = some x → ((y.kind == 2) && (y.word.toList == x.toList)) = false)) (fun i _ => words.length - (intOf i).toNat)
      case atStart => exact ⟨0, by omega, rfl, unhide BV, hide (fun j x hj => by omega)⟩
      case round =>
        obtain ⟨k, hk, rfl, hbel, HNo⟩ := hrel
        have BB := hide hbel
        obtain ⟨p0, p1, p2, p3, p4, p5⟩ := of6' ((hbel.block _ (heap_lt (unhide HX0))).trans (unhide HX0))
        obtain ⟨q0, q1, q2⟩ := of3' ((hbel.block _ (heap_lt (unhide HX1))).trans (unhide HX1))
        clear hbel
        by_cases hlt : k < words.length
        · obtain ⟨x, hx, hd⟩ := get_at hlt
          clear hd
          obtain ⟨bb, off, rfl, hbb, g0⟩ := wordsAt ((unhide H2).below (below_sub (unhide HWX) (unhide BB))) hx
          have ki0 : (0 : Int) ≤ (k : Int) := by omega
          have ki1 : (k : Int) < (words.length : Int) := by omega
          have Hx := hide hx
          clear hx
          go_wp2
          have f0 : ∀ n os, (grow (redrawn wr n) os).cell? ⟨w.heap.size + 1, 0, none⟩ = some (.int .i64 y.kind) := cell_regrown q0
          have f1 : ∀ n os, (grow (redrawn wr n) os).cell? ⟨w.heap.size + 1, 2, none⟩ = some (.string y.word) := cell_regrown q2
          have f2 : ∀ n os, (grow (redrawn wr n) os).cell? ⟨w.heap.size, 3, none⟩ = some (.slice (some ⟨bb, off, none⟩) words.length cw) := cell_regrown p3
          have f3 := cell_regrown g0
          clear p0 p1 p2 p3 p4 p5 q0 q1 q2 g0
          cases hk1 : (y.kind == 2) with
          | true =>
            cases hq : (x.toList == y.word.toList) with
            | true =>
              have HY := hide (show hasS y.word words = true from any_yes (unhide Hx) (by rw [← hq]; exact BEq.comm))
              refine wp_region_quiet_below (by assumption) (by kernel_rfl) ?_
              repeat (go_big_quiet_step (fail))
              refine wpQuiet_nil ?_
              intro _ hw'
              obtain ⟨⟨dq, osq⟩, hw''⟩ := hw'
              subst hw''
              go_wp2
              go_ret
              exact ⟨ret_bool (by rw [unhide HY, hk1]; simp), below_sub (unhide HWX) (below_sub (unhide BB) (below_regrown _ _ _))⟩
            | false =>
              have HN2 : Hid (∀ (j : Nat) (u : ByteArray), j < k + 1 → words[j]? = some u → ((y.kind == 2) && (y.word.toList == u.toList)) = false) := hide (fun j u hj hu => by
                by_cases e : j = k
                · subst e; rw [unhide Hx] at hu; cases hu; rw [show (y.word.toList == x.toList) = false from by rw [← hq]; exact BEq.comm]; simp
                · exact (unhide HNo) j u (by omega) hu)
              refine wp_region_quiet_below (by assumption) (by kernel_rfl) ?_
              repeat (go_big_quiet_step (fail))
              refine wpQuiet_nil ?_
              intro _ hw'
              obtain ⟨⟨dq, osq⟩, hw''⟩ := hw'
              subst hw''
              go_wp2
              go_roundw
              case rel => exact ⟨k + 1, by omega, by go_num, below_sub (unhide BB) (below_regrown _ _ _), HN2⟩
              case measure => simp [intOf]; omega
          | false =>
            have HN2 : Hid (∀ (j : Nat) (u : ByteArray), j < k + 1 → words[j]? = some u → ((y.kind == 2) && (y.word.toList == u.toList)) = false) := hide (fun j u hj hu => by rw [hk1]; rfl)
            refine wp_region_quiet_below (by assumption) (by kernel_rfl) ?_
            repeat (go_big_quiet_step (fail))
            refine wpQuiet_nil ?_
            intro _ hw'
            obtain ⟨⟨dq, osq⟩, hw''⟩ := hw'
            subst hw''
            go_wp2
            go_roundw
            case rel => exact ⟨k + 1, by omega, by go_num, below_sub (unhide BB) (below_regrown _ _ _), HN2⟩
            case measure => simp [intOf]; omega
        · have ki1 : ¬ (k : Int) < (words.length : Int) := by omega
          have HE2 := hide (show ((y.kind == 2) && hasS y.word words) = false from and_none (fun j x hj hx => (unhide HNo) j x (by omega) hx))
          clear HNo
          go_wp2
          go_ret
          exact ⟨ret_bool (by rw [unhide HE1, unhide HE2]; rfl), below_sub (unhide HWX) (unhide BB)⟩
end Go.Proofs.Ytcjkjhblmalbhaa
namespace Go.Proofs.Ytcjkjhblmalbhaa
open Go.RowKit Go.Sort

theorem pred_no_words {attr : ByteArray} {ints : List Int} {words : List ByteArray} {lo hi : Int} (h : predB 1 attr ints words lo hi = true) : words = [] := by
  cases words with
  | nil => rfl
  | cons a l => simp [predB, emptyB] at h
theorem pred_no_ints {attr : ByteArray} {ints : List Int} {words : List ByteArray} {lo hi : Int} (h : predB 2 attr ints words lo hi = true) : ints = [] := by
  cases ints with
  | nil => rfl
  | cons a l => simp [predB, emptyB] at h
theorem told_any (kind : Int) (attr : ByteArray) (qi : Option Addr) (ci : Nat) (ints : List Int) (qw : Option Addr) (cw : Nat) (words : List ByteArray) (lo hi : Int) (y : Pr) (w : World) (h1 : SlOf encI 1 w qi ci ints) (h2 : SlOf encS 1 w qw cw words) (l1 : ints.length ≤ 100000000000000) (l2 : words.length ≤ 100000000000000) (hpB : predB kind attr ints words lo hi = true) :
    Calls Try.prog 48 #[.agg #[.int .i64 kind, .string attr, .slice qi ints.length ci, .slice qw words.length cw, .int .i64 lo, .int .i64 hi], .agg #[.int .i64 y.kind, .int .i64 y.int, .string y.word]] w fun e w' => e = .returned (.bool (toldB kind ints words lo hi y)) ∧ Below w.heap.size w w' := by
  rcases pred_kinds hpB with hk | hk | hk | ⟨hk, x, rfl⟩
  · have := told_set kind attr qi ci ints qw cw words lo hi y w h1 h2 l1 l2 (by subst hk; rfl) (by subst hk; rfl)
    subst hk
    obtain rfl := pred_no_words hpB
    unfold toldB
    simpa [hasS] using this
  · have := told_set kind attr qi ci ints qw cw words lo hi y w h1 h2 l1 l2 (by subst hk; rfl) (by subst hk; rfl)
    subst hk
    obtain rfl := pred_no_ints hpB
    unfold toldB
    simpa [hasI] using this
  · have := told_k3 kind attr qi ci ints qw cw words lo hi y w h1 h2 hk
    unfold toldB; rwa [if_neg (by omega), if_neg (by omega), if_pos hk]
  · subst hk
    obtain ⟨b, off, rfl, hlt, hc⟩ := wordsAt h2 (j := 0) rfl
    exact told_k4 attr qi ci ints b off cw x lo hi y w h1 h2 hlt hc
set_option maxRecDepth 100000 in
set_option maxHeartbeats 4000000 in
theorem refHolds_any (kind : Int) (attr : ByteArray) (qi : Option Addr) (ci : Nat) (ints : List Int) (qw : Option Addr) (cw : Nat) (words : List ByteArray) (lo hi : Int) (qe : Option Addr) (ce : Nat) (ev : List Pr) (w : World) (h1 : SlOf encI 1 w qi ci ints) (h2 : SlOf encS 1 w qw cw words) (l1 : ints.length ≤ 100000000000000) (l2 : words.length ≤ 100000000000000) (h3 : SlOf encP 4 w qe ce ev) (l3 : ev.length ≤ 100000000000000) :
    Calls Try.prog 23 #[.agg #[.int .i64 kind, .string attr, .slice qi ints.length ci, .slice qw words.length cw, .int .i64 lo, .int .i64 hi], .slice qe ev.length ce] w fun e w' => e = .returned (.bool (holdsB kind attr ints words lo hi ev)) ∧ Below w.heap.size w w' := by
  obtain ⟨X, HX⟩ : ∃ X, w.alloc (.cells #[.int .i64 kind, .string attr, .slice qi ints.length ci, .slice qw words.length cw, .int .i64 lo, .int .i64 hi] 33) = X := ⟨_, rfl⟩
  have hX0 : X.heap[w.heap.size]? = some (.cells #[.int .i64 kind, .string attr, .slice qi ints.length ci, .slice qw words.length cw, .int .i64 lo, .int .i64 hi] 33 (0, 0)) := by rw [← HX]; exact box_nw _ _
  have hwX : Below w.heap.size w X := by rw [← HX]; exact (Below.refl _ _).alloc (Nat.le_refl _) _
  obtain ⟨x0, x1, x2, x3, x4, x5⟩ := of6' hX0
  have hz0 := heap_lt hX0
  have hg := refGet_any qe ce ev attr X (by omega) (h3.below hwX)
  have hp := fun (W : World) (hb : Below w.heap.size w W) => refPred_any kind attr qi ci ints qw cw words lo hi W (h1.below hb) (h2.below hb) (by omega) (by omega)
  obtain ⟨ky, ny, sy, th, hgv, hB⟩ : ∃ ky ny sy th, getV (getP attr ev) = .tuple #[.agg #[.int .i64 ky, .int .i64 ny, .string sy], .bool th] ∧ holdsB kind attr ints words lo hi ev = (predB kind attr ints words lo hi && (th && (decide (chkV ky ny sy = 0) && toldB kind ints words lo hi ⟨⟨#[]⟩, ky, ny, sy⟩))) := by
    cases hgt : getP attr ev with
    | none => exact ⟨0, 0, ⟨#[]⟩, false, rfl, by simp [holdsB, hgt]⟩
    | some y => exact ⟨y.kind, y.int, y.word, true, rfl, by simp [holdsB, hgt, toldB]⟩
  rw [hgv] at hg
  have ht := fun (W : World) (hb : Below w.heap.size w W) (hpB : predB kind attr ints words lo hi = true) => told_any kind attr qi ci ints qw cw words lo hi ⟨⟨#[]⟩, ky, ny, sy⟩ W (h1.below hb) (h2.below hb) l1 l2 hpB
  have hc := fun (W : World) => refCheck_any ky ny sy W
  rw [hB]
  have HT := hide ht
  have HX0 := hide hX0
  have HWX := hide hwX
  clear h1 h2 h3 hX0 hwX ht hgv hB
  cases hpB : predB kind attr ints words lo hi with
  | false => 
    go_enter Try.func23, Try.ntmps23
    go_wp2_with (first
      | (go_at_call 46; refine hg.mono ?_; rintro e w1 ⟨rfl, b1⟩; simp only; have hh := (b1.block _ hz0).trans (unhide HX0); have HH1 := hide hh; have B1 := hide (below_sub (unhide HWX) b1); obtain ⟨c0, c1, c2, c3, c4, c5⟩ := of6' hh; have sz1 := heap_lt hh; clear b1 hh x0 x1 x2 x3 x4 x5)
      | (go_at_call 26; refine name_world ?_; intro Y hY; have bx : Box Y w1.heap.size (ky, ny, sy) := (by rw [hY]; exact Box.new w1 (ky, ny, sy) 53); have bY : Below w1.heap.size w1 Y := (by rw [hY]; exact (Below.refl _ _).alloc (Nat.le_refl _) _); clear hY; refine (hp Y (below_sub (unhide B1) bY)).mono ?_; rw [hpB]; rintro e w2 ⟨rfl, b2⟩; have hh := ((below_sub bY b2).block _ (heap_lt (unhide HH1))).trans (unhide HH1); have HH2 := hide hh; have B2 := hide (below_sub (unhide B1) (below_sub bY b2)); have BX2 := hide (bx.below b2); obtain ⟨d0, d1, d2, d3, d4, d5⟩ := of6' hh; obtain ⟨v0, v1, v2, _, _⟩ := unhide BX2; simp only at v0 v1 v2; clear b2 hh bx bY c0 c1 c2 c3 c4 c5))
    go_ret
    exact ⟨ret_bool (by simp), unhide B2⟩
  | true =>
    cases th with
    | false => 
      go_enter Try.func23, Try.ntmps23
      go_wp2_with (first
        | (go_at_call 46; refine hg.mono ?_; rintro e w1 ⟨rfl, b1⟩; simp only; have hh := (b1.block _ hz0).trans (unhide HX0); have HH1 := hide hh; have B1 := hide (below_sub (unhide HWX) b1); obtain ⟨c0, c1, c2, c3, c4, c5⟩ := of6' hh; have sz1 := heap_lt hh; clear b1 hh x0 x1 x2 x3 x4 x5)
        | (go_at_call 26; refine name_world ?_; intro Y hY; have bx : Box Y w1.heap.size (ky, ny, sy) := (by rw [hY]; exact Box.new w1 (ky, ny, sy) 53); have bY : Below w1.heap.size w1 Y := (by rw [hY]; exact (Below.refl _ _).alloc (Nat.le_refl _) _); clear hY; refine (hp Y (below_sub (unhide B1) bY)).mono ?_; rw [hpB]; rintro e w2 ⟨rfl, b2⟩; have hh := ((below_sub bY b2).block _ (heap_lt (unhide HH1))).trans (unhide HH1); have HH2 := hide hh; have B2 := hide (below_sub (unhide B1) (below_sub bY b2)); have BX2 := hide (bx.below b2); obtain ⟨d0, d1, d2, d3, d4, d5⟩ := of6' hh; obtain ⟨v0, v1, v2, _, _⟩ := unhide BX2; simp only at v0 v1 v2; clear b2 hh bx bY c0 c1 c2 c3 c4 c5))
      go_ret
      exact ⟨ret_bool (by simp), unhide B2⟩
    | true =>
      rcases chk_or ky ny sy with hck | hck
      · have hn : decide (chkV ky ny sy = 0) = true := by rw [hck]; rfl
        rw [hn]
        clear hn
        obtain ⟨tv, htv⟩ : ∃ tv, toldB kind ints words lo hi ⟨⟨#[]⟩, ky, ny, sy⟩ = tv := ⟨_, rfl⟩
        rw [htv]
        have HTV := hide htv
        clear htv
        go_enter Try.func23, Try.ntmps23
        go_wp2_with (first
          | (go_at_call 46; refine hg.mono ?_; rintro e w1 ⟨rfl, b1⟩; simp only; have hh := (b1.block _ hz0).trans (unhide HX0); have HH1 := hide hh; have B1 := hide (below_sub (unhide HWX) b1); obtain ⟨c0, c1, c2, c3, c4, c5⟩ := of6' hh; have sz1 := heap_lt hh; clear b1 hh x0 x1 x2 x3 x4 x5)
          | (go_at_call 26; refine name_world ?_; intro Y hY; have bx : Box Y w1.heap.size (ky, ny, sy) := (by rw [hY]; exact Box.new w1 (ky, ny, sy) 53); have bY : Below w1.heap.size w1 Y := (by rw [hY]; exact (Below.refl _ _).alloc (Nat.le_refl _) _); clear hY; refine (hp Y (below_sub (unhide B1) bY)).mono ?_; rw [hpB]; rintro e w2 ⟨rfl, b2⟩; have hh := ((below_sub bY b2).block _ (heap_lt (unhide HH1))).trans (unhide HH1); have HH2 := hide hh; have B2 := hide (below_sub (unhide B1) (below_sub bY b2)); have BX2 := hide (bx.below b2); obtain ⟨d0, d1, d2, d3, d4, d5⟩ := of6' hh; obtain ⟨v0, v1, v2, _, _⟩ := unhide BX2; simp only at v0 v1 v2; clear b2 hh bx bY c0 c1 c2 c3 c4 c5)
          | (go_at_call 47; refine (hc _).mono ?_; rw [hck]; rintro e w3 ⟨rfl, b3⟩; have hh := (b3.block _ (heap_lt (unhide HH2))).trans (unhide HH2); have HH3 := hide hh; have B3 := hide (below_sub (unhide B2) b3); have BX3 := hide ((unhide BX2).below b3); obtain ⟨e0, e1, e2, e3, e4, e5⟩ := of6' hh; clear v0 v1 v2; obtain ⟨v0, v1, v2, _, _⟩ := unhide BX3; simp only at v0 v1 v2; clear b3 hh d0 d1 d2 d3 d4 d5)
          | (go_at_call 48; refine ((unhide HT) _ (unhide B3) hpB).mono ?_; rw [unhide HTV]; rintro e w4 ⟨rfl, b4⟩; have B4 := hide (below_sub (unhide B3) b4); clear b4))
        go_ret
        exact ⟨ret_bool (by simp), unhide B4⟩
      · have hn : decide (chkV ky ny sy = 0) = false := by rw [hck]; rfl
        rw [hn]
        clear hn
        go_enter Try.func23, Try.ntmps23
        go_wp2_with (first
          | (go_at_call 46; refine hg.mono ?_; rintro e w1 ⟨rfl, b1⟩; simp only; have hh := (b1.block _ hz0).trans (unhide HX0); have HH1 := hide hh; have B1 := hide (below_sub (unhide HWX) b1); obtain ⟨c0, c1, c2, c3, c4, c5⟩ := of6' hh; have sz1 := heap_lt hh; clear b1 hh x0 x1 x2 x3 x4 x5)
          | (go_at_call 26; refine name_world ?_; intro Y hY; have bx : Box Y w1.heap.size (ky, ny, sy) := (by rw [hY]; exact Box.new w1 (ky, ny, sy) 53); have bY : Below w1.heap.size w1 Y := (by rw [hY]; exact (Below.refl _ _).alloc (Nat.le_refl _) _); clear hY; refine (hp Y (below_sub (unhide B1) bY)).mono ?_; rw [hpB]; rintro e w2 ⟨rfl, b2⟩; have hh := ((below_sub bY b2).block _ (heap_lt (unhide HH1))).trans (unhide HH1); have HH2 := hide hh; have B2 := hide (below_sub (unhide B1) (below_sub bY b2)); have BX2 := hide (bx.below b2); obtain ⟨d0, d1, d2, d3, d4, d5⟩ := of6' hh; obtain ⟨v0, v1, v2, _, _⟩ := unhide BX2; simp only at v0 v1 v2; clear b2 hh bx bY c0 c1 c2 c3 c4 c5)
          | (go_at_call 47; refine (hc _).mono ?_; rw [hck]; rintro e w3 ⟨rfl, b3⟩; have hh := (b3.block _ (heap_lt (unhide HH2))).trans (unhide HH2); have HH3 := hide hh; have B3 := hide (below_sub (unhide B2) b3); have BX3 := hide ((unhide BX2).below b3); obtain ⟨e0, e1, e2, e3, e4, e5⟩ := of6' hh; clear v0 v1 v2; obtain ⟨v0, v1, v2, _, _⟩ := unhide BX3; simp only at v0 v1 v2; clear b3 hh d0 d1 d2 d3 d4 d5))
        go_ret
        exact ⟨ret_bool (by simp), unhide B3⟩
end Go.Proofs.Ytcjkjhblmalbhaa
namespace Go.Proofs.Ytcjkjhblmalbhaa
open Go.RowKit Go.Sort

theorem rholds_lit (u : Lv) (l : Lt) (qe : Option Addr) (ce : Nat) (ev : List Pr) (w : World) (h : LitIn w u l) (h3 : SlOf encP 4 w qe ce ev) (l1 : l.ints.length ≤ 1000000000) (l2 : l.words.length ≤ 1000000000) (l3 : ev.length ≤ 100000000000000) :
    Calls Try.prog 23 #[.agg #[.int .i64 u.kind, .string u.attr, .slice u.qi u.ni u.ci, .slice u.qw u.nw u.cw, .int .i64 u.lo, .int .i64 u.hi], .slice qe ev.length ce] w fun e w' => e = .returned (.bool (holdsB l.kind l.attr l.ints l.words l.lo l.hi ev)) ∧ Below w.heap.size w w' := by
  obtain ⟨a1, a2, a3, a4, a5, a6, a7, a8, a9⟩ := h
  rw [a1, a2, a3, a4, a5, a6]
  exact refHolds_any l.kind l.attr u.qi u.ci l.ints u.qw u.cw l.words l.lo l.hi qe ce ev w a8 a9 (by omega) (by omega) h3 l3
set_option maxRecDepth 100000 in
set_option maxHeartbeats 8000000 in
theorem refHolds8_any (qe : Option Addr) (ce : Nat) (ev : List Pr) (q : Option Addr) (c : Nat) (ls : List Lt) (w : World) (he : SlOf encP 4 w qe ce ev) (hl : LitsOf w q c ls) (hb : litBound ls) (l3 : ev.length ≤ 100000000000000) (ln : ls.length ≤ 1000000000) :
    Calls Try.prog 8 #[.slice qe ev.length ce, .slice q ls.length c] w fun e w' => e = .returned (.bool (ls.all (ltH ev))) ∧ Below w.heap.size w w' := by
  have mixed : Try.prog.follows .mixedOrders = true := by kernel_rfl
  have en24 : ∀ args w, (callFunc 23 args).run Try.prog w = .ok (.enter 23 args) w := enters_of Try.func23 (by kernel_rfl) rfl
  have a0 : (ls.length : Int) ≤ 1000000000 := by omega
  have HE := hide he
  have HL := hide hl
  have HBD := hide hb
  clear he hl hb
  go_enter Try.func8, Try.ntmps8
  go_wp2
  go_loopw [5] (fun i wr => ∃ k : Nat, k ≤ ls.length ∧ i = .int .i64 k ∧ (∀ (j : Nat) (l : Lt), j < k → ls[j]? = some l → ltH ev l = true) ∧ Below w.heap.size w wr) (fun i _ => ls.length - (intOf i).toNat)
  case atStart => exact ⟨0, by omega, rfl, fun j l h => absurd h (by omega), Below.refl _ _⟩
  case round =>
    obtain ⟨k, hkk, rfl, hall, hbel⟩ := hrel
    have HB := hide hbel
    have HALL := hide hall
    by_cases hlt : k < ls.length
    · obtain ⟨l, hl, hld⟩ := get_at hlt
      clear hld
      obtain ⟨b, off, u, hq, hbb, hin, g0, g1, g2, g3, g4, g5, g6⟩ := ((unhide HL).below hbel).at hl
      subst hq
      have hbd := unhide HBD l (List.mem_of_getElem? hl)
      have ki0 : (0 : Int) ≤ (k : Int) := by omega
      have ki1 : (k : Int) < (ls.length : Int) := by omega
      obtain ⟨G, hG⟩ : ∃ G, u.neg = G := ⟨_, rfl⟩
      rw [hG] at g6
      have hneg : G = l.neg := by rw [← hG]; exact hin.2.2.2.2.2.2.1
      obtain ⟨H, hH⟩ : ∃ H, holdsB l.kind l.attr l.ints l.words l.lo l.hi ev = H := ⟨_, rfl⟩
      have q24 := fun (n : Nat) (os : Array Obj) => rholds_lit u l qe ce ev (grow (redrawn wr n) os) (hin.keep (below_regrown wr n os)) ((unhide HE).below (below_sub hbel (below_regrown wr n os))) hbd.1 hbd.2 l3
      rw [hH] at q24
      have HLT := hide (show ltH ev l = (H != G) by unfold ltH; rw [hH, hneg])
      have HLL := hide hl
      have z0 : ∀ n os, (grow (redrawn wr n) os).cell? ⟨b, off + k * 7, none⟩ = some (.int .i64 u.kind) := cell_regrown g0
      have z1 : ∀ n os, (grow (redrawn wr n) os).cell? ⟨b, off + k * 7 + 1, none⟩ = some (.string u.attr) := cell_regrown g1
      have z2 : ∀ n os, (grow (redrawn wr n) os).cell? ⟨b, off + k * 7 + 2, none⟩ = some (.slice u.qi u.ni u.ci) := cell_regrown g2
      have z3 : ∀ n os, (grow (redrawn wr n) os).cell? ⟨b, off + k * 7 + 3, none⟩ = some (.slice u.qw u.nw u.cw) := cell_regrown g3
      have z4 : ∀ n os, (grow (redrawn wr n) os).cell? ⟨b, off + k * 7 + 4, none⟩ = some (.int .i64 u.lo) := cell_regrown g4
      have z5 : ∀ n os, (grow (redrawn wr n) os).cell? ⟨b, off + k * 7 + 5, none⟩ = some (.int .i64 u.hi) := cell_regrown g5
      have z6 : ∀ n os, (grow (redrawn wr n) os).cell? ⟨b, off + k * 7 + 6, none⟩ = some (.bool G) := cell_regrown g6
      clear hin hl hbel hall hneg hH hbd hG
      go_wp2
      refine wp_region_quiet_below (by assumption) (by kernel_rfl) ?_
      repeat (go_big_quiet_step (first | (go_at_fn 23; refine Calls.regrown_of (q24 _ _))))
      refine wpQuiet_nil ?_
      intro _ hw'
      obtain ⟨⟨dq, osq⟩, hw''⟩ := hw'
      subst hw''
      clear q24 z0 z1 z2 z3 z4 z5 z6 g0 g1 g2 g3 g4 g5 g6
      have BF := hide (below_sub (unhide HB) (below_regrown wr dq osq))
      by_cases hc : H = G
      · subst hc
        have HF := hide (show ls.all (ltH ev) = false by
          rw [List.all_eq_false]
          exact ⟨l, List.mem_of_getElem? (unhide HLL), by rw [unhide HLT]; simp⟩)
        cases H
        all_goals
          go_wp2
          go_ret
          exact ⟨by rw [unhide HF]; rfl, unhide BF⟩
      · have HT := hide (show ltH ev l = true by rw [unhide HLT]; simp [hc])
        cases H <;> cases G
        all_goals first | (exact absurd rfl hc) | skip
        all_goals
          clear hc
          go_wp2
          go_roundw
          case rel =>
            refine ⟨k + 1, by omega, by go_num, fun j y hj hy => ?_, unhide BF⟩
            by_cases e : j = k
            · subst e; rw [unhide HLL] at hy; cases hy; exact unhide HT
            · exact unhide HALL j y (by omega) hy
          case measure => simp [intOf]; omega
    · have ki1 : ¬ (k : Int) < (ls.length : Int) := by omega
      clear hall hbel
      go_wp2
      go_ret
      refine ⟨?_, unhide HB⟩
      have : ls.all (ltH ev) = true := by
        rw [List.all_eq_true]
        intro l hl
        obtain ⟨j, hj⟩ := List.getElem?_of_mem hl
        exact unhide HALL j l (by have := (List.getElem?_eq_some_iff.1 hj).1; omega) hj
      rw [this]; rfl
set_option maxRecDepth 100000 in
set_option maxHeartbeats 8000000 in
theorem refAny8_any (qe : Option Addr) (ce : Nat) (ev : List Pr) (q : Option Addr) (c : Nat) (cs : List (List Lt)) (w : World) (he : SlOf encP 4 w qe ce ev) (hl : CjsOf w q c cs) (hb : ∀ ls ∈ cs, litBound ls ∧ ls.length ≤ 1000000000) (l3 : ev.length ≤ 100000000000000) (ln : cs.length ≤ 1000000000) :
    Calls Try.prog 12 #[.slice qe ev.length ce, .slice q cs.length c] w fun e w' => e = .returned (.bool (anyC ev cs)) ∧ Below w.heap.size w w' := by
  have a0 : (cs.length : Int) ≤ 1000000000 := by omega
  have HE := hide he
  have HL := hide hl
  have HBD := hide hb
  clear he hl hb
  go_enter Try.func12, Try.ntmps12
  go_wp2
  go_loopw [5] (fun i wr => ∃ k : Nat, k ≤ cs.length ∧ i = .int .i64 k ∧ (∀ (j : Nat) (l : List Lt), j < k → cs[j]? = some l → l.all (ltH ev) = false) ∧ Below w.heap.size w wr) (fun i _ => cs.length - (intOf i).toNat)
  case atStart => exact ⟨0, by omega, rfl, fun j l h => absurd h (by omega), Below.refl _ _⟩
  case round =>
    obtain ⟨k, hkk, rfl, hall, hbel⟩ := hrel
    have HB := hide hbel
    have HALL := hide hall
    by_cases hlt : k < cs.length
    · obtain ⟨l, hl, hld⟩ := get_at hlt
      clear hld
      obtain ⟨b, off, q1, c1, hq, hbb, hin, g0⟩ := ((unhide HL).below hbel).at hl
      subst hq
      have hbd := unhide HBD l (List.mem_of_getElem? hl)
      have ki0 : (0 : Int) ≤ (k : Int) := by omega
      have ki1 : (k : Int) < (cs.length : Int) := by omega
      have hC := refHolds8_any qe ce ev q1 c1 l wr ((unhide HE).below hbel) hin hbd.1 l3 hbd.2
      have HLL := hide hl
      clear hin hl hbel hall hbd
      cases hc : l.all (ltH ev)
      · rw [hc] at hC
        go_wp2_with (go_at_call 8; refine hC.mono ?_; rintro e w2 ⟨rfl, b2⟩; have B2 := hide b2; clear b2)
        go_roundw
        case rel =>
          refine ⟨k + 1, by omega, by go_num, fun j y hj hy => ?_, below_sub (unhide HB) (unhide B2)⟩
          by_cases e : j = k
          · subst e; rw [unhide HLL] at hy; cases hy; exact hc
          · exact unhide HALL j y (by omega) hy
        case measure => simp [intOf]; omega
      · rw [hc] at hC
        go_wp2_with (go_at_call 8; refine hC.mono ?_; rintro e w2 ⟨rfl, b2⟩; have B2 := hide b2; clear b2)
        go_ret
        have : anyC ev cs = true := List.any_eq_true.2 ⟨l, List.mem_of_getElem? (unhide HLL), hc⟩
        exact ⟨by rw [this]; rfl, below_sub (unhide HB) (unhide B2)⟩
    · have ki1 : ¬ (k : Int) < (cs.length : Int) := by omega
      clear hall hbel
      go_wp2
      go_ret
      have : anyC ev cs = false := by
        unfold anyC
        rw [List.any_eq_false]
        intro l hl
        obtain ⟨j, hj⟩ := List.getElem?_of_mem hl
        have := unhide HALL j l (by have := (List.getElem?_eq_some_iff.1 hj).1; omega) hj
        simp [this]
      exact ⟨by rw [this]; rfl, unhide HB⟩
end Go.Proofs.Ytcjkjhblmalbhaa
namespace Go.Proofs.Ytcjkjhblmalbhaa
open Go.RowKit Go.Sort

/-- What a join of nodes is as a value: of one the one. -/
def joinV (op : Int) (q : Option Addr) (c : Nat) (us : List Nv) : Nv := match us with
  | [v] => v
  | _ => ⟨0, ⟨#[]⟩, none, 0, 0, none, 0, 0, 0, 0, op, q, us.length, c⟩
theorem joinV_in {w : World} {op : Int} {q : Option Addr} {c : Nat} {us : List Nv} {ts : List Nd} (h : SlOf encV 8 w q c us) (hl : us.length = ts.length) (h0 : ts ≠ []) (hi : ∀ (j : Nat) (v : Nv) (x : Nd), us[j]? = some v → ts[j]? = some x → NdIn w v x) : NdIn w (joinV op q c us) (joinT op ts) := by
  match us, ts, hl, h0 with
  | [], [], _, h => exact absurd rfl h
  | [v], [t], _, _ => exact hi 0 v t rfl rfl
  | v :: v2 :: us, t :: t2 :: ts, hl, _ =>
    simp only [joinV, joinT]
    rw [hl]
    exact NdIn.make (ints := []) (words := []) (SlOf.none _) (SlOf.none _) ⟨_, h, hl, hi⟩
set_option maxRecDepth 100000 in
set_option maxHeartbeats 4000000 in
theorem refJoin_any (op : Int) (q : Option Addr) (c : Nat) (us : List Nv) (w : World) (h : SlOf encV 8 w q c us) (h0 : us ≠ []) (ln : us.length ≤ 1000000000) :
    Calls Try.prog 27 #[.int .i64 op, .slice q us.length c] w fun e w' => e = .returned (joinV op q c us).val ∧ Below w.heap.size w w' := by
  obtain ⟨X, HX⟩ : ∃ X, w.alloc (.cells #[.int .i64 0, .string ⟨#[]⟩, .slice none 0 0, .slice none 0 0, .int .i64 0, .int .i64 0, .int .i64 0, .slice none 0 0] 36) = X := ⟨_, rfl⟩
  have bX : Below w.heap.size w X := by rw [← HX]; exact (Below.refl _ _).alloc (Nat.le_refl _) _
  have x8 : X.heap[w.heap.size]? = some (.cells #[.int .i64 0, .string ⟨#[]⟩, .slice none 0 0, .slice none 0 0, .int .i64 0, .int .i64 0, .int .i64 0, .slice none 0 0] 36 (0, 0)) := by rw [← HX]; exact box_nw _ _
  obtain ⟨x0, x1, x2, x3, x4, x5, x6, x7⟩ := of8' x8
  have xf : ∀ o, X.frozen? ⟨w.heap.size, o, none⟩ = false := fun o => frozen_free x8
  have BX := hide bX
  match us, h0 with
  | [], h0 => exact absurd rfl h0
  | [v], _ =>
    obtain ⟨b, off, hq, hlt, hc⟩ := h.2.2.2.at (show [v][0]? = some v from rfl)
    subst hq
    have g0 : X.cell? ⟨b, off, none⟩ = some (.int .i64 v.kind) := (bX.cell (p := ⟨b, off, none⟩) hlt).trans (by have := hc 0 (by omega); simpa [encV] using this)
    have g1 : X.cell? ⟨b, off + 1, none⟩ = some (.string v.attr) := (bX.cell (p := ⟨b, off + 1, none⟩) hlt).trans (by have := hc 1 (by omega); simpa [encV] using this)
    have g2 : X.cell? ⟨b, off + 2, none⟩ = some (.slice v.qi v.ni v.ci) := (bX.cell (p := ⟨b, off + 2, none⟩) hlt).trans (by have := hc 2 (by omega); simpa [encV] using this)
    have g3 : X.cell? ⟨b, off + 3, none⟩ = some (.slice v.qw v.nw v.cw) := (bX.cell (p := ⟨b, off + 3, none⟩) hlt).trans (by have := hc 3 (by omega); simpa [encV] using this)
    have g4 : X.cell? ⟨b, off + 4, none⟩ = some (.int .i64 v.lo) := (bX.cell (p := ⟨b, off + 4, none⟩) hlt).trans (by have := hc 4 (by omega); simpa [encV] using this)
    have g5 : X.cell? ⟨b, off + 5, none⟩ = some (.int .i64 v.hi) := (bX.cell (p := ⟨b, off + 5, none⟩) hlt).trans (by have := hc 5 (by omega); simpa [encV] using this)
    have g6 : X.cell? ⟨b, off + 6, none⟩ = some (.int .i64 v.op) := (bX.cell (p := ⟨b, off + 6, none⟩) hlt).trans (by have := hc 6 (by omega); simpa [encV] using this)
    have g7 : X.cell? ⟨b, off + 7, none⟩ = some (.slice v.qk v.nk v.ck) := (bX.cell (p := ⟨b, off + 7, none⟩) hlt).trans (by have := hc 7 (by omega); simpa [encV] using this)
    simp only [joinV, Nv.val, List.length_singleton]
    clear h h0 hc bX x8
    go_enter Try.func27, Try.ntmps27
    go_wp2
    refine bodyPost_ret (v := .agg #[.int .i64 v.kind, .string v.attr, .slice v.qi v.ni v.ci, .slice v.qw v.nw v.cw, .int .i64 v.lo, .int .i64 v.hi, .int .i64 v.op, .slice v.qk v.nk v.ck]) (by simp [results, Try.results27, go_sem, *]) rfl ⟨rfl, ?_⟩
    exact set8_below (unhide BX) (Nat.le_refl _) _ _ _ _ _ _ _ _
  | v :: v2 :: vs, _ =>
    obtain ⟨n, hn⟩ : ∃ n, (v :: v2 :: vs).length = n := ⟨_, rfl⟩
    have e1 : ((n : Int) == 1) = false := by have : 2 ≤ n := by rw [← hn]; simp
                                             simp; omega
    simp only [joinV, Nv.val]
    rw [hn]
    clear h h0 bX x8 ln hn
    go_enter Try.func27, Try.ntmps27
    go_wp2
    refine bodyPost_ret (v := .agg #[.int .i64 0, .string ⟨#[]⟩, .slice none 0 0, .slice none 0 0, .int .i64 0, .int .i64 0, .int .i64 op, .slice q n c]) (by simp [results, Try.results27, go_sem, *]) rfl ⟨rfl, ?_⟩
    exact set8_below (unhide BX) (Nat.le_refl _) _ _ _ _ _ _ _ _
/-- P holds wherever the blocks below A and those from C on are as in w, but for the block g. -/
def OffQ (A C : Nat) (P : World → Prop) (g : Option Nat) (w : World) : Prop := ∀ x : World, w.heap.size ≤ x.heap.size → (∀ b o, b < w.heap.size → (b < A ∨ (C ≤ b ∧ some b ≠ g)) → x.cell? ⟨b, o, none⟩ = w.cell? ⟨b, o, none⟩) → P x
theorem OffQ.now {A C : Nat} {P : World → Prop} {g : Option Nat} {w : World} (h : OffQ A C P g w) : P w := h w (Nat.le_refl _) fun _ _ _ _ => rfl
theorem OffQ.imp {A C : Nat} {P Q : World → Prop} {g : Option Nat} {w : World} (h : OffQ A C P g w) (hi : ∀ w, P w → Q w) : OffQ A C Q g w := fun x hs hc => hi _ (h x hs hc)
theorem OffQ.and {A C : Nat} {P Q : World → Prop} {g : Option Nat} {w : World} (h : OffQ A C P g w) (k : OffQ A C Q g w) : OffQ A C (fun w => P w ∧ Q w) g w := fun x hs hc => ⟨h x hs hc, k x hs hc⟩
theorem OffQ.below {A C : Nat} {P : World → Prop} {g : Option Nat} {w w' : World} (h : OffQ A C P g w) (hb : Below w.heap.size w w') : OffQ A C P g w' := fun x hs hc =>
  h x (Nat.le_trans hb.size hs) fun b o h1 h2 => (hc b o (Nat.lt_of_lt_of_le h1 hb.size) h2).trans (hb.cell (p := ⟨b, o, none⟩) h1)
theorem OffQ.step {A C : Nat} {P : World → Prop} {g g' : Option Nat} {w w' : World} (h : OffQ A C P g w) (hg : w.grownBy w' g) (hor : g' = g ∨ g' = some w.heap.size) (hA : ∀ b, g = some b → A ≤ b) : OffQ A C P g' w' := fun x hs hc =>
  h x (Nat.le_trans hg.size hs) fun b o h1 h2 => by
    have hne : some b ≠ g := by
      rcases h2 with h2 | h2
      · exact fun e => by have := hA b e.symm; omega
      · exact h2.2
    refine (hc b o (Nat.lt_of_lt_of_le h1 hg.size) ?_).trans (World.cell?_of_block (w := w) (a := ⟨b, o, none⟩) (hg.block b h1 hne))
    rcases h2 with h2 | h2
    · exact Or.inl h2
    · refine Or.inr ⟨h2.1, ?_⟩
      rcases hor with e | e
      · rw [e]; exact h2.2
      · rw [e]; exact fun e2 => by have := Option.some.inj e2; omega
/-- A literal's predicate as a leaf. -/
def leafV (u : Lv) : Nv := ⟨u.kind, u.attr, u.qi, u.ni, u.ci, u.qw, u.nw, u.cw, u.lo, u.hi, 1, none, 0, 0⟩
def leafT (l : Lt) : Nd := .mk l.kind l.attr l.ints l.words l.lo l.hi 1 []
theorem leaf_off {w W : World} {C : Nat} {u : Lv} {l : Lt} (g : Option Nat) (h : LitIn w u l) (hb : Below w.heap.size w W) : OffQ w.heap.size C (fun x => NdIn x (leafV u) (leafT l)) g W := fun x hs hc => by
  obtain ⟨h1, h2, h3, h4, h5, h6, h7, h8, h9⟩ := h
  have hsz := hb.size
  have hag : ∀ b o, b < w.heap.size → x.cell? ⟨b, o, none⟩ = w.cell? ⟨b, o, none⟩ := fun b o hlt => (hc b o (by omega) (Or.inl hlt)).trans (hb.cell (p := ⟨b, o, none⟩) hlt)
  unfold leafV leafT
  rw [h1, h2, h3, h4, h5, h6]
  exact NdIn.make (kids := []) (h8.agree (by omega) fun ad _ hlt o => hag ad.block o hlt) (h9.agree (by omega) fun ad _ hlt o => hag ad.block o hlt) ⟨[], SlOf.none _, rfl, fun j v x h => by simp at h⟩
theorem chk_litN (l : Lt) : chkN (litN l) = predB l.kind l.attr l.ints l.words l.lo l.hi := by
  have hz : zeroB 0 ⟨#[]⟩ 0 0 0 0 = true := by decide +kernel
  cases hp : predB l.kind l.attr l.ints l.words l.lo l.hi <;> cases hn : l.neg
  all_goals simp [litN, notT, hn, chkN, chkL, nodeB, hp, hz]
theorem chkL_lits (ls : List Lt) : chkL (ls.map litN) = ls.all (fun l => predB l.kind l.attr l.ints l.words l.lo l.hi) := by
  induction ls with
  | nil => rfl
  | cons l ls ih => simp only [List.map_cons, chkL, chk_litN, ih, List.all_cons]
theorem chk_treeC {ls : List Lt} (h : ls ≠ []) : chkN (treeC ls) = ls.all (fun l => predB l.kind l.attr l.ints l.words l.lo l.hi) := by
  unfold treeC
  match ls, h with
  | [l], _ => simp only [List.map_cons, List.map_nil, joinT, chk_litN, List.all_cons, List.all_nil, Bool.and_true]
  | l :: m :: r, _ => rw [chk_joinB (Or.inl rfl) (by simp), chkL_lits]
end Go.Proofs.Ytcjkjhblmalbhaa
namespace Go.Proofs.Ytcjkjhblmalbhaa
open Go.RowKit Go.Sort

def AllIn (ts : List Nd) (us : List Nv) (x : World) : Prop := ∀ (j : Nat) (v : Nv) (t : Nd), us[j]? = some v → ts[j]? = some t → NdIn x v t
theorem tree_fin {A C : Nat} {op : Int} {w x : World} {q : Option Addr} {c n : Nat} {us : List Nv} {ts : List Nd} (ho : OwnK encV 36 8 C w q c us) (hf : OffQ A C (AllIn ts us) (Value.slice q n c).ownBlock w) (hl : us.length = ts.length) (h0 : ts ≠ []) (su : SameUp C w x) (bl : ∀ b o, b < w.heap.size → b < A → x.cell? ⟨b, o, none⟩ = w.cell? ⟨b, o, none⟩) : NdIn x (joinV op q c us) (joinT op ts) :=
  joinV_in (ho.ls.up (fun a e => ho.from a e) su) hl h0 (hf x su.1 fun b o h1 h2 => by
    rcases h2 with h2 | h2
    · exact bl b o h1 h2
    · exact su.2 b o h2.1 h1)
theorem tree_snoc {A C D k : Nat} {W w3 : World} {qm q3 qn : Option Addr} {cm c3 cn : Nat} {us vs : List Nv} {vj : Nv} {cs : List (List Lt)} {ls : List Lt} (hus : us.length = k) (hx : cs[k]? = some ls) (hne : ls ≠ []) (hvs : vs.length = ls.length) (hvj : joinV 3 qn cn vs = vj) (hCD : C ≤ D) (hL : ∀ b, (Value.slice qm k cm).ownBlock = some b → C ≤ b ∧ b < D)
    (hf : OffQ A C (AllIn (cs.map treeC) us) (Value.slice qm k cm).ownBlock W) (ho2 : OwnK encV 36 8 D W qn cn vs) (hf2 : OffQ A D (AllIn (ls.map litN) vs) (Value.slice qn ls.length cn).ownBlock W) (hg : W.grownBy w3 (Value.slice qm k cm).ownBlock) (hor : (Value.slice q3 (k + 1) c3).ownBlock = (Value.slice qm k cm).ownBlock ∨ (Value.slice q3 (k + 1) c3).ownBlock = some W.heap.size) (hA : A ≤ C) :
    OffQ A C (AllIn (cs.map treeC) (us ++ [vj])) (Value.slice q3 (k + 1) c3).ownBlock w3 := by
  have hj : OffQ A C (fun x => NdIn x vj (treeC ls)) (Value.slice qm k cm).ownBlock W := fun x hs hc => by
    rw [← hvj]
    exact tree_fin ho2 hf2 (by rw [List.length_map]; exact hvs) (by simpa using hne) ⟨hs, fun b o h1 h2 => hc b o h2 (Or.inr ⟨by omega, fun e => by have := hL b e.symm; omega⟩)⟩ (fun b o h1 h2 => hc b o h1 (Or.inl h2))
  refine ((hf.and hj).step hg hor (fun b e => Nat.le_trans hA (hL b e).1)).imp fun x h => snoc_all h.1 hus ?_ h.2
  rw [List.getElem?_map, hx]; rfl
theorem lit_snoc {A D p : Nat} {W w3 : World} {qn q3 : Option Addr} {cn c3 : Nat} {vs : List Nv} {v : Nv} {ls : List Lt} {l : Lt} (hvs : vs.length = p) (hx : ls[p]? = some l) (hf : OffQ A D (AllIn (ls.map litN) vs) (Value.slice qn p cn).ownBlock W) (hj : OffQ A D (fun x => NdIn x v (litN l)) (Value.slice qn p cn).ownBlock W) (hg : W.grownBy w3 (Value.slice qn p cn).ownBlock) (hor : (Value.slice q3 (p + 1) c3).ownBlock = (Value.slice qn p cn).ownBlock ∨ (Value.slice q3 (p + 1) c3).ownBlock = some W.heap.size) (hA : ∀ b, (Value.slice qn p cn).ownBlock = some b → A ≤ b) :
    OffQ A D (AllIn (ls.map litN) (vs ++ [v])) (Value.slice q3 (p + 1) c3).ownBlock w3 := by
  refine ((hf.and hj).step hg hor hA).imp fun x h => snoc_all h.1 hvs ?_ h.2
  rw [List.getElem?_map, hx]; rfl
theorem set8_row {w : World} {N : Nat} {T : TypeId} {a0 a1 a2 a3 a4 a5 a6 a7 v0 v1 v2 v3 v4 v5 v6 v7 : Value} (h : w.heap[N]? = some (.cells #[a0, a1, a2, a3, a4, a5, a6, a7] T (0, 0))) :
    ∃ W, ((((((((w.setCell ⟨N, 0, none⟩ v0).setCell ⟨N, 1, none⟩ v1).setCell ⟨N, 2, none⟩ v2).setCell ⟨N, 3, none⟩ v3).setCell ⟨N, 4, none⟩ v4).setCell ⟨N, 5, none⟩ v5).setCell ⟨N, 6, none⟩ v6).setCell ⟨N, 7, none⟩ v7) = W ∧ W.heap[N]? = some (.cells #[v0, v1, v2, v3, v4, v5, v6, v7] T (0, 0)) ∧ (∀ X, X ≠ N → W.heap[X]? = w.heap[X]?) ∧ W.heap.size = w.heap.size := by
  refine ⟨_, rfl, ?_, fun X hX => ?_, by simp⟩
  · have h0 := heap_setCell_same w N 0 _ T v0 h
    have h1 := heap_setCell_same _ N 1 _ T v1 h0
    have h2 := heap_setCell_same _ N 2 _ T v2 h1
    have h3 := heap_setCell_same _ N 3 _ T v3 h2
    have h4 := heap_setCell_same _ N 4 _ T v4 h3
    have h5 := heap_setCell_same _ N 5 _ T v5 h4
    have h6 := heap_setCell_same _ N 6 _ T v6 h5
    have h7 := heap_setCell_same _ N 7 _ T v7 h6
    rw [h7]; simp
  · iterate 8 (refine (Below.heap_setCell _ _ _ _ (by exact hX)).trans ?_)
    rfl
theorem rpred_lit (u : Lv) (l : Lt) (w : World) (h : LitIn w u l) (l1 : l.ints.length ≤ 1000000000) (l2 : l.words.length ≤ 1000000000) :
    Calls Try.prog 26 #[.agg #[.int .i64 u.kind, .string u.attr, .slice u.qi u.ni u.ci, .slice u.qw u.nw u.cw, .int .i64 u.lo, .int .i64 u.hi]] w fun e w' => e = .returned (.bool ((fun l : Lt => predB l.kind l.attr l.ints l.words l.lo l.hi) l)) ∧ Below w.heap.size w w' := by
  obtain ⟨a1, a2, a3, a4, a5, a6, a7, a8, a9⟩ := h
  rw [a1, a2, a3, a4, a5, a6]
  exact refPred_any l.kind l.attr u.qi u.ci l.ints u.qw u.cw l.words l.lo l.hi w a8 a9 (by omega) (by omega)
set_option maxRecDepth 100000 in
set_option maxHeartbeats 8000000 in
theorem refTree_any (q : Option Addr) (c : Nat) (cs : List (List Lt)) (w : World) (hl : CjsOf w q c cs) (hb : ∀ ls ∈ cs, litBound ls ∧ ls.length ≤ 1000000000) (ln : cs.length ≤ 1000000000) :
    Calls Try.prog 10 #[.slice q cs.length c] w fun e w' => (∃ v', e = .returned (.tuple #[v'.val, .int .i64 (treeE cs)]) ∧ NdIn w' v' (treeT cs)) ∧ Below w.heap.size w w' := by
  have a0 : (cs.length : Int) ≤ 1000000000 := by omega
  obtain ⟨X, HX⟩ : ∃ X, w.alloc (.cells #[.int .i64 0, .string ⟨#[]⟩, .slice none 0 0, .slice none 0 0, .int .i64 0, .int .i64 0, .int .i64 0, .slice none 0 0] 36) = X := ⟨_, rfl⟩
  have bX : Below w.heap.size w X := by rw [← HX]; exact (Below.refl _ _).alloc (Nat.le_refl _) _
  have x8 : X.heap[w.heap.size]? = some (.cells #[.int .i64 0, .string ⟨#[]⟩, .slice none 0 0, .slice none 0 0, .int .i64 0, .int .i64 0, .int .i64 0, .slice none 0 0] 36 (0, 0)) := by rw [← HX]; exact box_nw _ _
  have sX : X.heap.size = w.heap.size + 1 := by rw [← HX]; simp
  have HL := hide hl
  have HBD := hide hb
  have X8 := hide x8
  have BX := hide bX
  clear hl hb x8 bX
  go_enter Try.func10, Try.ntmps10
  go_wp2
  go_loopw [4, 5] (fun m i wr => ∃ (k : Nat) (qm : Option Addr) (cm : Nat) (us : List Nv), k ≤ cs.length ∧ i = .int .i64 k ∧ m = .slice qm k cm ∧ us.length = k ∧ treeOk (cs.take k) = true ∧ Hid (OwnK encV 36 8 X.heap.size wr qm cm us) ∧ Hid (OffQ w.heap.size X.heap.size (AllIn (cs.map treeC) us) (Value.slice qm k cm).ownBlock wr) ∧ Below X.heap.size X wr) (fun _ i _ => cs.length - (intOf i).toNat)
  case atStart => exact ⟨0, none, 0, [], by omega, rfl, rfl, rfl, by simp [treeOk], hide (OwnK.nil _ _), hide (fun x _ _ j u ls h => by simp at h), Below.refl _ _⟩
  case round =>
    obtain ⟨k, qm, cm, us, hkk, rfl, rfl, hus, hok, HO, HF, hbel⟩ := hrel
    obtain ⟨U, rfl⟩ : ∃ U, U = wr := ⟨_, rfl⟩
    have HB := hide hbel
    have HUS := hide hus
    have HOK := hide hok
    have hws := hbel.size
    have hbw := below_sub (unhide BX) hbel
    have BW := hide hbw
    by_cases hlt : k < cs.length
    · obtain ⟨ls, hl, hld⟩ := get_at hlt
      clear hld
      obtain ⟨b, off, q1, c1, hq, hbb, hin, g0⟩ := (unhide HL).at hl
      subst hq
      have hbd := unhide HBD ls (List.mem_of_getElem? hl)
      have ki0 : (0 : Int) ≤ (k : Int) := by omega
      have ki1 : (k : Int) < (cs.length : Int) := by omega
      have a1 : (ls.length : Int) ≤ 1000000000 := by omega
      have HLL := hide hl
      have HIN := hide hin
      have G0 := hide g0
      clear hl hin hbel hus hok hbw g0
      go_wp2
      go_loopw [6, 7] (fun m i V => ∃ (p : Nat) (qn : Option Addr) (cn : Nat) (vs : List Nv), p ≤ ls.length ∧ i = .int .i64 p ∧ m = .slice qn p cn ∧ vs.length = p ∧ (ls.take p).all (fun l : Lt => predB l.kind l.attr l.ints l.words l.lo l.hi) = true ∧ Hid (OwnK encV 36 8 U.heap.size V qn cn vs) ∧ Hid (OffQ w.heap.size U.heap.size (AllIn (ls.map litN) vs) (Value.slice qn p cn).ownBlock V) ∧ Below U.heap.size U V) (fun _ i _ => ls.length - (intOf i).toNat)
      case atStart => exact ⟨0, none, 0, [], by omega, rfl, rfl, rfl, by simp, hide (OwnK.nil _ _), hide (fun x _ _ j u ls h => by simp at h), Below.refl _ _⟩
      case round =>
        obtain ⟨p, qn, cn, vs, hpp, rfl, rfl, hvs, hpk, HO2, HF2, hbel2⟩ := hrel
        obtain ⟨V, rfl⟩ : ∃ V, V = wr := ⟨_, rfl⟩
        have HB2 := hide hbel2
        have HVS := hide hvs
        have HPK := hide hpk
        have s2 := hbel2.size
        have bV := below_sub (unhide BW) hbel2
        have xq := ((below_sub (unhide HB) hbel2).block _ (heap_lt (unhide X8))).trans (unhide X8)
        have XQ := hide xq
        have xlt := heap_lt xq
        have gV := (bV.cell (p := ⟨b, off + k, none⟩) hbb).trans (unhide G0)
        by_cases hlt2 : p < ls.length
        · obtain ⟨l, hl2, hld⟩ := get_at hlt2
          clear hld
          obtain ⟨b2, off2, u, hq2, hbb2, hin2, f0, f1, f2, f3, f4, f5, f6⟩ := (unhide HIN).at hl2
          subst hq2
          have d0 := (bV.cell (p := ⟨b2, off2 + p * 7, none⟩) hbb2).trans f0
          have d1 := (bV.cell (p := ⟨b2, off2 + p * 7 + 1, none⟩) hbb2).trans f1
          have d2 := (bV.cell (p := ⟨b2, off2 + p * 7 + 2, none⟩) hbb2).trans f2
          have d3 := (bV.cell (p := ⟨b2, off2 + p * 7 + 3, none⟩) hbb2).trans f3
          have d4 := (bV.cell (p := ⟨b2, off2 + p * 7 + 4, none⟩) hbb2).trans f4
          have d5 := (bV.cell (p := ⟨b2, off2 + p * 7 + 5, none⟩) hbb2).trans f5
          have d6 := (bV.cell (p := ⟨b2, off2 + p * 7 + 6, none⟩) hbb2).trans f6
          have hbd2 := hbd.1 l (List.mem_of_getElem? hl2)
          have hP := rpred_lit u l V (hin2.keep bV) hbd2.1 hbd2.2
          have pi0 : (0 : Int) ≤ (p : Int) := by omega
          have pi1 : (p : Int) < (ls.length : Int) := by omega
          have HL2 := hide hl2
          have HI2 := hide hin2
          have BV := hide bV
          clear hl2 hin2 bV hbel2 hvs hpk f0 f1 f2 f3 f4 f5 f6 xq
          cases hpb : (fun l : Lt => predB l.kind l.attr l.ints l.words l.lo l.hi) l with
          | false =>
            rw [hpb] at hP
            have HE := hide (show treeE cs = 1 ∧ treeT cs = zeroT by
              have h1 : ls ≠ [] := by rintro rfl; simp at hlt2
              have h2 : chkN (treeC ls) = false := by rw [chk_treeC h1, List.all_eq_false]; exact ⟨l, List.mem_of_getElem? (unhide HL2), by simp only [hpb]; decide⟩
              have h := treeOk_no (unhide HLL) h2
              unfold treeE treeT
              rw [h]
              exact ⟨rfl, rfl⟩)
            go_wp2_with (go_at_call 26; refine hP.mono ?_; rintro e w1 ⟨rfl, b1⟩; have B1 := hide b1; have xq1 := (b1.block _ xlt).trans (unhide XQ); have xf1 : ∀ o, w1.frozen? ⟨w.heap.size, o, none⟩ = false := (fun o => frozen_free xq1); (obtain ⟨t0, t1, t2, t3, t4, t5, t6, t7⟩ := of8' xq1); clear b1 xq1)
            rw [(unhide HE).1, (unhide HE).2]
            refine bodyPost_ret (v := .tuple #[.agg #[.int .i64 0, .string ⟨#[]⟩, .slice none 0 0, .slice none 0 0, .int .i64 0, .int .i64 0, .int .i64 0, .slice none 0 0], .int .i64 1]) (by simp [results, Try.results10, go_sem, *]) rfl ⟨⟨⟨0, ⟨#[]⟩, none, 0, 0, none, 0, 0, 0, 0, 0, none, 0, 0⟩, rfl, (zero_from _ 0).toIn⟩, ?_⟩
            exact set8_below (below_sub (unhide BV) (unhide B1)) (Nat.le_refl _) _ _ _ _ _ _ _ _
          | true =>
            rw [hpb] at hP
            have HPB := hide hpb
            clear hpb
            have hng : u.neg = l.neg := (unhide HI2).2.2.2.2.2.2.1
            have hL := hide (fun b e => World.ownsRow.lt (unhide HO2) b e)
            rw [unhide HVS] at hL
            have hkm : p + 1 ≤ maxLen := by unfold maxLen; omega
            have hkb : (p + 1) * 120 ≤ 140737488355328 := by omega
            have HTK := hide (show (ls.take (p + 1)).all (fun l : Lt => predB l.kind l.attr l.ints l.words l.lo l.hi) = true by rw [List.take_add_one, unhide HL2]; simp only [Option.toList_some, List.all_append, List.all_cons, List.all_nil, Bool.and_true]; rw [unhide HPK, Bool.true_and]; exact unhide HPB)
            have HNG := hide hng
            rw [hng] at d6
            go_upto_if 51 with (go_at_call 26; refine hP.mono ?_; rintro e w1 ⟨rfl, b1⟩; obtain ⟨Y, HY⟩ : ∃ Y, w1.alloc (.cells #[.int .i64 u.kind, .string u.attr, .slice u.qi u.ni u.ci, .slice u.qw u.nw u.cw, .int .i64 u.lo, .int .i64 u.hi, .int .i64 1, .slice none 0 0] 36) = Y := ⟨_, rfl⟩; have yk : Y.heap[w1.heap.size]? = some (.cells #[.int .i64 u.kind, .string u.attr, .slice u.qi u.ni u.ci, .slice u.qw u.nw u.cw, .int .i64 u.lo, .int .i64 u.hi, .int .i64 1, .slice none 0 0] 36 (0, 0)) := (by rw [← HY]; exact box_nw _ _); have bY : Below w1.heap.size w1 Y := (by rw [← HY]; exact (Below.refl _ _).alloc (Nat.le_refl _) _); have sY : Y.heap.size = w1.heap.size + 1 := (by rw [← HY]; simp); have bb := below_sub b1 bY; have e0 := (b1.cell (p := ⟨b2, off2 + p * 7, none⟩) (by simp only; omega)).trans d0; have k0 := (bb.cell (p := ⟨b2, off2 + p * 7, none⟩) (by simp only; omega)).trans d0; have e1 := (b1.cell (p := ⟨b2, off2 + p * 7 + 1, none⟩) (by simp only; omega)).trans d1; have k1 := (bb.cell (p := ⟨b2, off2 + p * 7 + 1, none⟩) (by simp only; omega)).trans d1; have e2 := (b1.cell (p := ⟨b2, off2 + p * 7 + 2, none⟩) (by simp only; omega)).trans d2; have k2 := (bb.cell (p := ⟨b2, off2 + p * 7 + 2, none⟩) (by simp only; omega)).trans d2; have e3 := (b1.cell (p := ⟨b2, off2 + p * 7 + 3, none⟩) (by simp only; omega)).trans d3; have k3 := (bb.cell (p := ⟨b2, off2 + p * 7 + 3, none⟩) (by simp only; omega)).trans d3; have e4 := (b1.cell (p := ⟨b2, off2 + p * 7 + 4, none⟩) (by simp only; omega)).trans d4; have k4 := (bb.cell (p := ⟨b2, off2 + p * 7 + 4, none⟩) (by simp only; omega)).trans d4; have e5 := (b1.cell (p := ⟨b2, off2 + p * 7 + 5, none⟩) (by simp only; omega)).trans d5; have k5 := (bb.cell (p := ⟨b2, off2 + p * 7 + 5, none⟩) (by simp only; omega)).trans d5; have e6 := (b1.cell (p := ⟨b2, off2 + p * 7 + 6, none⟩) (by simp only; omega)).trans d6; have k6 := (bb.cell (p := ⟨b2, off2 + p * 7 + 6, none⟩) (by simp only; omega)).trans d6; have gW := (b1.cell (p := ⟨b, off + k, none⟩) (by simp only; omega)).trans gV; have gY := (bb.cell (p := ⟨b, off + k, none⟩) (by simp only; omega)).trans gV; (obtain ⟨y0, y1, y2, y3, y4, y5, y6, y7⟩ := of8' yk); have yf : ∀ o, Y.frozen? ⟨w1.heap.size, o, none⟩ = false := (fun o => frozen_free yk); have BB := hide bb; have YK := hide yk; have s1 := b1.size; clear b1 bY bb yk; subst HY)
            generalize HY : w1.alloc (.cells #[.int .i64 u.kind, .string u.attr, .slice u.qi u.ni u.ci, .slice u.qw u.nw u.cw, .int .i64 u.lo, .int .i64 u.hi, .int .i64 1, .slice none 0 0] 36) = Y at *
            go_cut [8] from 24 to 54 (fun s8 W => s8 = .pointer (some ⟨w1.heap.size, 0, none⟩) ∧ ∃ vN : Nv, W.heap[w1.heap.size]? = some (.cells #[.int .i64 vN.kind, .string vN.attr, .slice vN.qi vN.ni vN.ci, .slice vN.qw vN.nw vN.cw, .int .i64 vN.lo, .int .i64 vN.hi, .int .i64 vN.op, .slice vN.qk vN.nk vN.ck] 36 (0, 0)) ∧ Hid (OffQ w.heap.size U.heap.size (fun x => NdIn x vN (litN l)) (Value.slice qn p cn).ownBlock W) ∧ Below V.heap.size V W)
            case first =>
              cases hn : l.neg with
              | false =>
                go_wp2
                go_meet
                have HLN : litN l = leafT l := by unfold litN leafT; rw [hn]; rfl
                exact ⟨rfl, leafV u, unhide YK, hide (by rw [HLN]; exact leaf_off _ (unhide HI2) (below_sub (unhide BV) (unhide BB))), unhide BB⟩
              | true =>
                have hltN : w1.heap.size < Y.heap.size := by omega
                have hneN : ¬ w1.heap.size = Y.heap.size := by omega
                go_wp2
                go_meet
                have HLN : litN l = notT (leafT l) := by unfold litN leafT; rw [hn]; rfl
                obtain ⟨W, hW, hWN, hWo, hWs⟩ := set8_row (unhide YK) (v0 := .int .i64 0) (v1 := .string ⟨#[]⟩) (v2 := .slice none 0 0) (v3 := .slice none 0 0) (v4 := .int .i64 0) (v5 := .int .i64 0) (v6 := .int .i64 2) (v7 := .slice (some ⟨w1.heap.size + 1, 0, none⟩) 1 1)
                have bW : Below V.heap.size V W := by
                  rw [← hW]; exact set8_below (unhide BB) s1 _ _ _ _ _ _ _ _
                rw [hW]
                obtain ⟨T, hT⟩ : ∃ T, W.alloc (.cells #[.int .i64 u.kind, .string u.attr, .slice u.qi u.ni u.ci, .slice u.qw u.nw u.cw, .int .i64 u.lo, .int .i64 u.hi, .int .i64 1, .slice none 0 0] 36) = T := ⟨_, rfl⟩
                rw [hT]
                have bT : Below V.heap.size V T := by rw [← hT]; exact bW.alloc bW.size _
                have hK : T.heap[w1.heap.size + 1]? = some (.cells #[.int .i64 u.kind, .string u.attr, .slice u.qi u.ni u.ci, .slice u.qw u.nw u.cw, .int .i64 u.lo, .int .i64 u.hi, .int .i64 1, .slice none 0 0] 36 (0, 0)) := by rw [← hT, ← sY, ← hWs]; exact box_nw _ _
                have hN : T.heap[w1.heap.size]? = some (.cells #[.int .i64 0, .string ⟨#[]⟩, .slice none 0 0, .slice none 0 0, .int .i64 0, .int .i64 0, .int .i64 2, .slice (some ⟨w1.heap.size + 1, 0, none⟩) 1 1] 36 (0, 0)) := by rw [← hT]; exact (heap_old (by omega)).trans hWN
                refine ⟨rfl, ⟨0, ⟨#[]⟩, none, 0, 0, none, 0, 0, 0, 0, 2, some ⟨w1.heap.size + 1, 0, none⟩, 1, 1⟩, hN, hide ?_, bT⟩
                rw [HLN]
                intro x hs hc
                have hsl : SlOf encV 8 T (some ⟨w1.heap.size + 1, 0, none⟩) 1 [leafV u] := of_block (vs := [leafV u]) hK (by rw [flat_1]; rfl) (by simp)
                exact NdIn.make (ints := []) (words := []) (kids := [leafT l]) (SlOf.none _) (SlOf.none _) ⟨[leafV u], hsl.agree hs (fun ad e hlt o => by
                  cases e
                  exact hc _ o hlt (Or.inr ⟨by show U.heap.size ≤ w1.heap.size + 1; omega, fun e => by have h2 : w1.heap.size + 1 < V.heap.size := (unhide hL _ e.symm).2; omega⟩)), rfl, fun j v y hj hy => by
                  match j, hj, hy with
                  | 0, hj, hy => cases hj; cases hy; exact leaf_off _ (unhide HI2) (below_sub (unhide BV) bT) x hs hc⟩
            case rest =>
              obtain ⟨rfl, vN, hblk, HOFF, hbW⟩ := hcut
              obtain ⟨W, rfl⟩ : ∃ W, W = wc := ⟨_, rfl⟩
              obtain ⟨n0, n1, n2, n3, n4, n5, n6, n7⟩ := of8' hblk
              have HBW := hide hbW
              have hsW := hbW.size
              clear hbW hblk
              go_wp2_with (at_builtin; have bZ := (Below.refl W.heap.size W).alloc (Nat.le_refl _) (.cells #[.int .i64 vN.kind, .string vN.attr, .slice vN.qi vN.ni vN.ci, .slice vN.qw vN.nw vN.cw, .int .i64 vN.lo, .int .i64 vN.hi, .int .i64 vN.op, .slice vN.qk vN.nk vN.ck] 36); have bVZ := below_sub (unhide HBW) bZ; refine wpList_appG rowV rfl _ _ rfl U.heap.size qn cn vs ⟨W.heap.size, 0, none⟩ 1 [vN] p 1 (p + 1) (unhide HVS) rfl rfl rfl rfl ((unhide HO2).below bVZ) (node_src (box_nw _ _)) hkm hkb (by simp only [size_al]; omega) ?_; intro q3 c3 w3 ho3 hb3 hg3 hor3; have HO3 := hide ho3; have HF3 := hide (lit_snoc (unhide HVS) (unhide HL2) ((unhide HF2).below bVZ) ((unhide HOFF).below bZ) hg3 hor3 (fun b e => by have := unhide hL b e; omega)); have HB3 := hide ((below_sub (unhide HB2) bVZ).trans hb3); clear ho3 hb3 hg3 hor3 bZ bVZ)
              go_roundw
              case rel => exact ⟨p + 1, q3, c3, vs ++ [vN], by omega, by go_num, rfl, by rw [List.length_append, unhide HVS]; rfl, unhide HTK, HO3, HF3, unhide HB3⟩
              case measure => simp [intOf]; omega
        · have pi1 : ¬ (p : Int) < (ls.length : Int) := by omega
          have hpl : p = ls.length := by omega
          subst hpl
          have xf : ∀ o, V.frozen? ⟨w.heap.size, o, none⟩ = false := fun o => frozen_free xq
          obtain ⟨t0, t1, t2, t3, t4, t5, t6, t7⟩ := of8' xq
          have BV := hide bV
          clear bV hbel2 hvs hpk xq
          by_cases hl0 : ls.length = 0
          · have e0 : ((ls.length : Int) == 0) = true := by simp [hl0]
            have HE := hide (show treeE cs = 1 ∧ treeT cs = zeroT by
              have h1 : ls = [] := List.length_eq_zero_iff.1 hl0
              have h2 : chkN (treeC ls) = false := by rw [h1]; exact chk_zero
              have h := treeOk_no (unhide HLL) h2
              unfold treeE treeT
              rw [h]
              exact ⟨rfl, rfl⟩)
            go_wp2
            rw [(unhide HE).1, (unhide HE).2]
            refine bodyPost_ret (v := .tuple #[.agg #[.int .i64 0, .string ⟨#[]⟩, .slice none 0 0, .slice none 0 0, .int .i64 0, .int .i64 0, .int .i64 0, .slice none 0 0], .int .i64 1]) (by simp [results, Try.results10, go_sem, *]) rfl ⟨⟨⟨0, ⟨#[]⟩, none, 0, 0, none, 0, 0, 0, 0, 0, none, 0, 0⟩, rfl, (zero_from _ 0).toIn⟩, ?_⟩
            exact set8_below (unhide BV) (Nat.le_refl _) _ _ _ _ _ _ _ _
          · have e0 : ((ls.length : Int) == 0) = false := by simp [hl0]
            have hJ := refJoin_any 3 qn cn vs V (unhide HO2).ls (by intro e; have := unhide HVS; rw [e] at this; simp at this; omega) (by have := unhide HVS; omega)
            rw [unhide HVS] at hJ
            obtain ⟨vj, hvj⟩ : ∃ vj, joinV 3 qn cn vs = vj := ⟨_, rfl⟩
            rw [hvj] at hJ
            have HVJ := hide hvj
            clear hvj
            simp only [Nv.val] at hJ
            have hne : ls ≠ [] := by intro e; rw [e] at hl0; simp at hl0
            have HT1 := hide (take_all (unhide HLL) (unhide HOK) (show chkN (treeC ls) = true by rw [chk_treeC hne]; have := unhide HPK; rwa [List.take_length] at this))
            have hL := hide (fun b e => World.ownsRow.lt (unhide HO) b e)
            rw [unhide HUS] at hL
            have hkm : k + 1 ≤ maxLen := by unfold maxLen; omega
            have hkb : (k + 1) * 120 ≤ 140737488355328 := by omega
            clear t0 t1 t2 t3 t4 t5 t6 t7 xf
            go_wp2_with (first
              | (go_at_call 27; refine hJ.mono ?_; rintro e w1 ⟨rfl, b1⟩; simp only; have B1 := hide b1; have s1 := b1.size; clear b1)
              | (at_builtin; have bY := (Below.refl w1.heap.size w1).alloc (Nat.le_refl _) (.cells #[.int .i64 vj.kind, .string vj.attr, .slice vj.qi vj.ni vj.ci, .slice vj.qw vj.nw vj.cw, .int .i64 vj.lo, .int .i64 vj.hi, .int .i64 vj.op, .slice vj.qk vj.nk vj.ck] 36); have b1Y := below_sub (unhide B1) bY; refine wpList_appG rowV rfl _ _ rfl X.heap.size qm cm us ⟨w1.heap.size, 0, none⟩ 1 [vj] k 1 (k + 1) (unhide HUS) rfl rfl rfl rfl (((unhide HO).below (unhide HB2)).below b1Y) (node_src (box_nw _ _)) hkm hkb (by simp only [size_al]; omega) ?_; intro q3 c3 w3 ho3 hb3 hg3 hor3; have HO3 := hide ho3; have HF3 := hide (tree_snoc (unhide HUS) (unhide HLL) hne (unhide HVS) (unhide HVJ) hws (unhide hL) (((unhide HF).below (unhide HB2)).below b1Y) ((unhide HO2).below b1Y) ((unhide HF2).below b1Y) hg3 hor3 (by omega)); have HB3 := hide ((below_sub (unhide HB) (below_sub (unhide HB2) b1Y)).trans hb3); clear ho3 hb3 hg3 hor3 bY b1Y))
            exact ⟨⟨k + 1, q3, c3, us ++ [vj], by omega, by go_num, rfl, by rw [List.length_append, unhide HUS]; rfl, unhide HT1, HO3, HF3, unhide HB3⟩, by simp [intOf]; omega⟩
    · have hkl : k = cs.length := by omega
      subst hkl
      have ki1 : ¬ (cs.length : Int) < (cs.length : Int) := by omega
      have xq := (hbel.block _ (heap_lt (unhide X8))).trans (unhide X8)
      have xf : ∀ o, U.frozen? ⟨w.heap.size, o, none⟩ = false := fun o => frozen_free xq
      obtain ⟨t0, t1, t2, t3, t4, t5, t6, t7⟩ := of8' xq
      have XQ := hide xq
      have xlt := heap_lt xq
      rw [List.take_length] at hok
      have HOK2 := hide hok
      clear hbel hus hok hbw xq
      by_cases hc0 : cs.length = 0
      · have e0 : ((cs.length : Int) == 0) = true := by simp [hc0]
        have HE := hide (show treeE cs = 1 ∧ treeT cs = zeroT by
          obtain rfl : cs = [] := List.length_eq_zero_iff.1 hc0
          exact ⟨rfl, rfl⟩)
        go_wp2
        rw [(unhide HE).1, (unhide HE).2]
        refine bodyPost_ret (v := .tuple #[.agg #[.int .i64 0, .string ⟨#[]⟩, .slice none 0 0, .slice none 0 0, .int .i64 0, .int .i64 0, .int .i64 0, .slice none 0 0], .int .i64 1]) (by simp [results, Try.results10, go_sem, *]) rfl ⟨⟨⟨0, ⟨#[]⟩, none, 0, 0, none, 0, 0, 0, 0, 0, none, 0, 0⟩, rfl, (zero_from _ 0).toIn⟩, ?_⟩
        exact set8_below (unhide BW) (Nat.le_refl _) _ _ _ _ _ _ _ _
      · have e0 : ((cs.length : Int) == 0) = false := by simp [hc0]
        have HE := hide (show treeE cs = 0 ∧ treeT cs = joinT 4 (cs.map treeC) by
          have h1 : cs.isEmpty = false := by cases cs with
            | nil => simp at hc0
            | cons a l => rfl
          unfold treeE treeT
          rw [unhide HOK2, h1]
          exact ⟨rfl, rfl⟩)
        have hJ := refJoin_any 4 qm cm us U (unhide HO).ls (by intro e; have := unhide HUS; rw [e] at this; simp at this; omega) (by have := unhide HUS; omega)
        rw [unhide HUS] at hJ
        obtain ⟨vj, hvj⟩ : ∃ vj, joinV 4 qm cm us = vj := ⟨_, rfl⟩
        rw [hvj] at hJ
        have HVJ := hide hvj
        clear hvj
        simp only [Nv.val] at hJ
        go_wp2_with (go_at_call 27; refine hJ.mono ?_; rintro e w1 ⟨rfl, b1⟩; simp only; have B1 := hide b1; have xq1 := (b1.block _ xlt).trans (unhide XQ); have xf1 : ∀ o, w1.frozen? ⟨w.heap.size, o, none⟩ = false := (fun o => frozen_free xq1); (obtain ⟨r0, r1, r2, r3, r4, r5, r6, r7⟩ := of8' xq1); clear b1 xq1)
        rw [(unhide HE).1, (unhide HE).2]
        refine bodyPost_ret (v := .tuple #[.agg #[.int .i64 vj.kind, .string vj.attr, .slice vj.qi vj.ni vj.ci, .slice vj.qw vj.nw vj.cw, .int .i64 vj.lo, .int .i64 vj.hi, .int .i64 vj.op, .slice vj.qk vj.nk vj.ck], .int .i64 0]) (by simp [results, Try.results10, go_sem, *]) rfl ⟨⟨vj, rfl, ?_⟩, set8_below (below_sub (unhide BW) (unhide B1)) (Nat.le_refl _) _ _ _ _ _ _ _ _⟩
        have su := (SameUp.of (B := X.heap.size) (unhide B1)).trans (set8_up (B := X.heap.size) (g := w.heap.size) w1 (by omega) (.int .i64 vj.kind) (.string vj.attr) (.slice vj.qi vj.ni vj.ci) (.slice vj.qw vj.nw vj.cw) (.int .i64 vj.lo) (.int .i64 vj.hi) (.int .i64 vj.op) (.slice vj.qk vj.nk vj.ck))
        have bl := set8_below (B := w.heap.size) (g := w.heap.size) ((unhide B1).mono (by omega)) (Nat.le_refl _) (.int .i64 vj.kind) (.string vj.attr) (.slice vj.qi vj.ni vj.ci) (.slice vj.qw vj.nw vj.cw) (.int .i64 vj.lo) (.int .i64 vj.hi) (.int .i64 vj.op) (.slice vj.qk vj.nk vj.ck)
        have hfin := tree_fin (op := 4) (unhide HO) (unhide HF) (by rw [List.length_map]; exact unhide HUS) (by intro e; have := unhide HUS; have h2 := congrArg List.length e; simp at h2; exact hc0 (by rw [h2]; rfl)) su (fun b o _ h => bl.cell (p := ⟨b, o, none⟩) h)
        rw [unhide HVJ] at hfin
        exact hfin
end Go.Proofs.Ytcjkjhblmalbhaa
