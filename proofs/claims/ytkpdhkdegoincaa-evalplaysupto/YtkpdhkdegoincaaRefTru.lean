/- What the reference's truth, Eval and Which return, for every tree and every event. -/
import Derived.Test.YtkpdhkdegoincaaRefHolds
import Derived.Test.YtkpdhkdegoincaaRefCheck
import Derived.Test.YtkpdhkdegoincaaEvWhich
namespace Go.Proofs.Ytkpdhkdegoincaa
open Go.RowKit Go.Sort

def RtruP (ev : List Pr) (x : Nd) : Prop := ∀ (v : Nv) (w : World) (qe : Option Addr) (ce : Nat), NdIn w v x → SlOf encP 4 w qe ce ev → chkN x = true → wtN x ≤ 1000000000 →
    Calls Try.prog 27 #[v.val, .slice qe ev.length ce] w fun e w' => e = .returned (.bool (truN ev x)) ∧ Below w.heap.size w w'
set_option maxRecDepth 100000 in
set_option maxHeartbeats 4000000 in
theorem rt_pred (kind : Int) (attr : ByteArray) (qi : Option Addr) (ci : Nat) (ints : List Int) (qw : Option Addr) (cw : Nat) (words : List ByteArray) (lo hi op : Int) (qk : Option Addr) (ck : Nat) (kids : List Nd) (qe : Option Addr) (ce : Nat) (ev : List Pr) (w : World) (h3 : SlOf encP 4 w qe ce ev) (hop : op = 1) (h1 : SlOf encI 1 w qi ci ints) (h2 : SlOf encS 1 w qw cw words) (l1 : ints.length ≤ 100000000000000) (l2 : words.length ≤ 100000000000000) (l3 : ev.length ≤ 100000000000000) :
    Calls Try.prog 27 #[.agg #[.int .i64 kind, .string attr, .slice qi ints.length ci, .slice qw words.length cw, .int .i64 lo, .int .i64 hi, .int .i64 op, .slice qk kids.length ck], .slice qe ev.length ce] w fun e w' => e = .returned (.bool (holdsB kind attr ints words lo hi ev)) ∧ Below w.heap.size w w' := by
  obtain ⟨X, HX⟩ : ∃ X, w.alloc (.cells #[.int .i64 kind, .string attr, .slice qi ints.length ci, .slice qw words.length cw, .int .i64 lo, .int .i64 hi, .int .i64 op, .slice qk kids.length ck] 31) = X := ⟨_, rfl⟩
  have x8 : X.heap[w.heap.size]? = some (.cells #[.int .i64 kind, .string attr, .slice qi ints.length ci, .slice qw words.length cw, .int .i64 lo, .int .i64 hi, .int .i64 op, .slice qk kids.length ck] 31 (0, 0)) := by rw [← HX]; exact box_nw _ _
  have bX : Below w.heap.size w X := by rw [← HX]; exact (Below.refl _ _).alloc (Nat.le_refl _) _
  obtain ⟨c0, c1, c2, c3, c4, c5, c6, c7⟩ := of8' x8
  have hz0 := heap_lt x8
  have X8 := hide x8
  have BX := hide bX
  have HE := hide (h3.below bX)
  clear h3 bX x8
  have hC := refHolds_any kind attr qi ci ints qw cw words lo hi qe ce ev X (h1.below (unhide BX)) (h2.below (unhide BX)) l1 l2 (unhide HE) l3
  clear h1 h2
  subst hop
  generalize holdsB kind attr ints words lo hi ev = r at hC ⊢
  go_enter Try.func27, Try.ntmps27
  go_wp2_with (go_at_call 11; refine hC.mono ?_; rintro e w1 ⟨rfl, b1⟩; have B1 := hide b1; clear b1)
  go_ret
  exact ⟨rfl, below_sub (unhide BX) (unhide B1)⟩
set_option maxRecDepth 100000 in
set_option maxHeartbeats 4000000 in
theorem rt_not (kind : Int) (attr : ByteArray) (qi : Option Addr) (ci : Nat) (ints : List Int) (qw : Option Addr) (cw : Nat) (words : List ByteArray) (lo hi op : Int) (qk : Option Addr) (ck : Nat) (kids : List Nd) (qe : Option Addr) (ce : Nat) (ev : List Pr) (w : World) (h3 : SlOf encP 4 w qe ce ev) (x : Nd) (hop : op = 2) (hks : kids = [x]) (hk : NdsOf w qk ck kids) (ih : ∀ x ∈ kids, RtruP ev x) (hc : chkL kids = true) (hwt : wtL kids ≤ 1000000000) :
    Calls Try.prog 27 #[.agg #[.int .i64 kind, .string attr, .slice qi ints.length ci, .slice qw words.length cw, .int .i64 lo, .int .i64 hi, .int .i64 op, .slice qk kids.length ck], .slice qe ev.length ce] w fun e w' => e = .returned (.bool (!(truN ev x))) ∧ Below w.heap.size w w' := by
  obtain ⟨X, HX⟩ : ∃ X, w.alloc (.cells #[.int .i64 kind, .string attr, .slice qi ints.length ci, .slice qw words.length cw, .int .i64 lo, .int .i64 hi, .int .i64 op, .slice qk kids.length ck] 31) = X := ⟨_, rfl⟩
  have x8 : X.heap[w.heap.size]? = some (.cells #[.int .i64 kind, .string attr, .slice qi ints.length ci, .slice qw words.length cw, .int .i64 lo, .int .i64 hi, .int .i64 op, .slice qk kids.length ck] 31 (0, 0)) := by rw [← HX]; exact box_nw _ _
  have bX : Below w.heap.size w X := by rw [← HX]; exact (Below.refl _ _).alloc (Nat.le_refl _) _
  obtain ⟨c0, c1, c2, c3, c4, c5, c6, c7⟩ := of8' x8
  have hz0 := heap_lt x8
  have X8 := hide x8
  have BX := hide bX
  have HE := hide (h3.below bX)
  clear h3 bX x8
  subst hks
  obtain ⟨b, off, v, hq, hin, g0, g1, g2, g3, g4, g5, g6, g7⟩ := hk.on (j := 0) rfl (unhide BX)
  subst hq
  rw [Nat.zero_mul, Nat.add_zero] at g0 g1 g2 g3 g4 g5 g6 g7
  have hxm : x ∈ [x] := by simp
  have hC := ih x hxm v X qe ce hin (unhide HE) (chkL_mem hc hxm) (Nat.le_trans (wtL_mem hxm) hwt)
  simp only [Nv.val] at hC
  clear hk ih hin
  subst hop
  generalize truN ev x = r at hC ⊢
  simp only [List.length_cons, List.length_nil, Nat.zero_add] at c7 HX ⊢
  go_enter Try.func27, Try.ntmps27
  go_wp2_with (go_at_call 27; refine hC.mono ?_; rintro e w1 ⟨rfl, b1⟩; have B1 := hide b1; clear b1)
  go_ret
  exact ⟨rfl, below_sub (unhide BX) (unhide B1)⟩
set_option maxRecDepth 100000 in
set_option maxHeartbeats 4000000 in
theorem rt_and (kind : Int) (attr : ByteArray) (qi : Option Addr) (ci : Nat) (ints : List Int) (qw : Option Addr) (cw : Nat) (words : List ByteArray) (lo hi op : Int) (qk : Option Addr) (ck : Nat) (kids : List Nd) (qe : Option Addr) (ce : Nat) (ev : List Pr) (w : World) (h3 : SlOf encP 4 w qe ce ev) (hop : op = 3) (hk : NdsOf w qk ck kids) (ih : ∀ x ∈ kids, RtruP ev x) (hc : chkL kids = true) (hwt : wtL kids ≤ 1000000000) :
    Calls Try.prog 27 #[.agg #[.int .i64 kind, .string attr, .slice qi ints.length ci, .slice qw words.length cw, .int .i64 lo, .int .i64 hi, .int .i64 op, .slice qk kids.length ck], .slice qe ev.length ce] w fun e w' => e = .returned (.bool (!(kids.any (fun x => !truN ev x)))) ∧ Below w.heap.size w w' := by
  have hlen := Nat.le_trans (Nat.le_trans (len_size kids) (sizeL_wt kids)) hwt
  obtain ⟨X, HX⟩ : ∃ X, w.alloc (.cells #[.int .i64 kind, .string attr, .slice qi ints.length ci, .slice qw words.length cw, .int .i64 lo, .int .i64 hi, .int .i64 op, .slice qk kids.length ck] 31) = X := ⟨_, rfl⟩
  have x8 : X.heap[w.heap.size]? = some (.cells #[.int .i64 kind, .string attr, .slice qi ints.length ci, .slice qw words.length cw, .int .i64 lo, .int .i64 hi, .int .i64 op, .slice qk kids.length ck] 31 (0, 0)) := by rw [← HX]; exact box_nw _ _
  have bX : Below w.heap.size w X := by rw [← HX]; exact (Below.refl _ _).alloc (Nat.le_refl _) _
  obtain ⟨c0, c1, c2, c3, c4, c5, c6, c7⟩ := of8' x8
  have hz0 := heap_lt x8
  have X8 := hide x8
  have BX := hide bX
  have HE := hide (h3.below bX)
  clear h3 bX x8
  have HA := hide hk
  have HI := hide ih
  have HK := hide hc
  have HWT := hide hwt
  have a0 : (kids.length : Int) ≤ 1000000000 := by omega
  have mixed : Try.prog.follows .mixedOrders = true := by kernel_rfl
  have en27 : ∀ args w, (callFunc 27 args).run Try.prog w = .ok (.enter 27 args) w := enters_of Try.func27 (by kernel_rfl) rfl
  clear hk ih hc hwt
  subst hop
  go_enter Try.func27, Try.ntmps27
  go_wp2
  go_loopw [5] (fun i wr => ∃ k : Nat, k ≤ kids.length ∧ i = .int .i64 k ∧ Below X.heap.size X wr ∧ Hid (∀ (j : Nat) (x : Nd), j < k → kids[j]? = some x → (!truN ev x) = false)) (fun i _ => kids.length - (intOf i).toNat)
  case atStart => exact ⟨0, by omega, rfl, Below.refl _ _, hide (fun j x hj => by omega)⟩
  case round =>
    obtain ⟨k, hk, rfl, hbel, HNo⟩ := hrel
    clear c0 c1 c2 c3 c4 c5 c6 c7
    obtain ⟨f0, f1, f2, f3, f4, f5, f6, f7⟩ := of8' ((hbel.block _ hz0).trans (unhide X8))
    have HB := hide hbel
    by_cases hlt : k < kids.length
    · obtain ⟨x, hx, hd⟩ := get_at hlt
      clear hd
      have hw := below_sub (unhide BX) hbel
      obtain ⟨bb, off, v, hq0, hin, g0, g1, g2, g3, g4, g5, g6, g7⟩ := (unhide HA).on hx hw
      subst hq0
      have hxm : x ∈ kids := List.mem_of_getElem? hx
      have ki0 : (0 : Int) ≤ (k : Int) := by omega
      have ki1 : (k : Int) < (kids.length : Int) := by omega
      have q27 := fun (n : Nat) (os : Array Obj) => unhide HI x hxm v (grow (redrawn wr n) os) qe ce (hin.keep (below_regrown wr n os)) ((unhide HE).below (below_sub hbel (below_regrown wr n os))) (chkL_mem (unhide HK) hxm) (Nat.le_trans (wtL_mem hxm) (unhide HWT))
      simp only [Nv.val] at q27
      have F6 : ∀ n os, (grow (redrawn wr n) os).cell? ⟨w.heap.size, 6, none⟩ = some _ := cell_regrown f6
      have F7 : ∀ n os, (grow (redrawn wr n) os).cell? ⟨w.heap.size, 7, none⟩ = some _ := cell_regrown f7
      have G0 : ∀ n os, (grow (redrawn wr n) os).cell? ⟨bb, off + k * 8, none⟩ = some _ := cell_regrown g0
      have G1 : ∀ n os, (grow (redrawn wr n) os).cell? ⟨bb, off + k * 8 + 1, none⟩ = some _ := cell_regrown g1
      have G2 : ∀ n os, (grow (redrawn wr n) os).cell? ⟨bb, off + k * 8 + 2, none⟩ = some _ := cell_regrown g2
      have G3 : ∀ n os, (grow (redrawn wr n) os).cell? ⟨bb, off + k * 8 + 3, none⟩ = some _ := cell_regrown g3
      have G4 : ∀ n os, (grow (redrawn wr n) os).cell? ⟨bb, off + k * 8 + 4, none⟩ = some _ := cell_regrown g4
      have G5 : ∀ n os, (grow (redrawn wr n) os).cell? ⟨bb, off + k * 8 + 5, none⟩ = some _ := cell_regrown g5
      have G6 : ∀ n os, (grow (redrawn wr n) os).cell? ⟨bb, off + k * 8 + 6, none⟩ = some _ := cell_regrown g6
      have G7 : ∀ n os, (grow (redrawn wr n) os).cell? ⟨bb, off + k * 8 + 7, none⟩ = some _ := cell_regrown g7
      have Hx := hide hx
      clear hx hxm hin hbel hw g0 g1 g2 g3 g4 g5 g6 g7 f0 f1 f2 f3 f4 f5 f6
      cases hq : truN ev x with
      | true =>
        rw [hq] at q27
        go_wp2
        refine wp_region_quiet_below (by assumption) (by kernel_rfl) ?_
        repeat (go_big_quiet_step (first | (go_at_fn 27; refine Calls.regrown_of (q27 _ _))))
        refine wpQuiet_nil ?_
        intro _ hw'
        obtain ⟨⟨dq, osq⟩, hw''⟩ := hw'
        subst hw''
        have P6 := F6 dq osq
        go_wp2
        exact ⟨⟨k + 1, by omega, by go_num, below_sub (unhide HB) (below_regrown _ _ _), hide (fun j y hj hy => by
          by_cases e : j = k
          · subst e; rw [unhide Hx] at hy; cases hy; simp [hq]
          · exact unhide HNo j y (by omega) hy)⟩, by simp [intOf]; omega⟩
      | false =>
        rw [hq] at q27
        go_wp2
        refine wp_region_quiet_below (by assumption) (by kernel_rfl) ?_
        repeat (go_big_quiet_step (first | (go_at_fn 27; refine Calls.regrown_of (q27 _ _))))
        refine wpQuiet_nil ?_
        intro _ hw'
        obtain ⟨⟨dq, osq⟩, hw''⟩ := hw'
        subst hw''
        have P6 := F6 dq osq
        go_wp2
        go_ret
        exact ⟨ret_bool (by rw [show kids.any (fun x => !truN ev x) = true from any_yes (unhide Hx) (by simp [hq])]; rfl), below_sub (unhide BX) (below_sub (unhide HB) (below_regrown _ _ _))⟩
    · have ki1 : ¬ (k : Int) < (kids.length : Int) := by omega
      have HZ := hide (show kids.any (fun x => !truN ev x) = false from any_none (fun j x hj hx => unhide HNo j x (by omega) hx))
      go_wp2
      go_ret
      exact ⟨ret_bool (by rw [unhide HZ]; rfl), below_sub (unhide BX) (unhide HB)⟩
set_option maxRecDepth 100000 in
set_option maxHeartbeats 4000000 in
theorem rt_or (kind : Int) (attr : ByteArray) (qi : Option Addr) (ci : Nat) (ints : List Int) (qw : Option Addr) (cw : Nat) (words : List ByteArray) (lo hi op : Int) (qk : Option Addr) (ck : Nat) (kids : List Nd) (qe : Option Addr) (ce : Nat) (ev : List Pr) (w : World) (h3 : SlOf encP 4 w qe ce ev) (hop : op = 4) (hk : NdsOf w qk ck kids) (ih : ∀ x ∈ kids, RtruP ev x) (hc : chkL kids = true) (hwt : wtL kids ≤ 1000000000) :
    Calls Try.prog 27 #[.agg #[.int .i64 kind, .string attr, .slice qi ints.length ci, .slice qw words.length cw, .int .i64 lo, .int .i64 hi, .int .i64 op, .slice qk kids.length ck], .slice qe ev.length ce] w fun e w' => e = .returned (.bool (kids.any (fun x => truN ev x))) ∧ Below w.heap.size w w' := by
  have hlen := Nat.le_trans (Nat.le_trans (len_size kids) (sizeL_wt kids)) hwt
  obtain ⟨X, HX⟩ : ∃ X, w.alloc (.cells #[.int .i64 kind, .string attr, .slice qi ints.length ci, .slice qw words.length cw, .int .i64 lo, .int .i64 hi, .int .i64 op, .slice qk kids.length ck] 31) = X := ⟨_, rfl⟩
  have x8 : X.heap[w.heap.size]? = some (.cells #[.int .i64 kind, .string attr, .slice qi ints.length ci, .slice qw words.length cw, .int .i64 lo, .int .i64 hi, .int .i64 op, .slice qk kids.length ck] 31 (0, 0)) := by rw [← HX]; exact box_nw _ _
  have bX : Below w.heap.size w X := by rw [← HX]; exact (Below.refl _ _).alloc (Nat.le_refl _) _
  obtain ⟨c0, c1, c2, c3, c4, c5, c6, c7⟩ := of8' x8
  have hz0 := heap_lt x8
  have X8 := hide x8
  have BX := hide bX
  have HE := hide (h3.below bX)
  clear h3 bX x8
  have HA := hide hk
  have HI := hide ih
  have HK := hide hc
  have HWT := hide hwt
  have a0 : (kids.length : Int) ≤ 1000000000 := by omega
  have mixed : Try.prog.follows .mixedOrders = true := by kernel_rfl
  have en27 : ∀ args w, (callFunc 27 args).run Try.prog w = .ok (.enter 27 args) w := enters_of Try.func27 (by kernel_rfl) rfl
  clear hk ih hc hwt
  subst hop
  go_enter Try.func27, Try.ntmps27
  go_wp2
  go_loopw [5] (fun i wr => ∃ k : Nat, k ≤ kids.length ∧ i = .int .i64 k ∧ Below X.heap.size X wr ∧ Hid (∀ (j : Nat) (x : Nd), j < k → kids[j]? = some x → (truN ev x) = false)) (fun i _ => kids.length - (intOf i).toNat)
  case atStart => exact ⟨0, by omega, rfl, Below.refl _ _, hide (fun j x hj => by omega)⟩
  case round =>
    obtain ⟨k, hk, rfl, hbel, HNo⟩ := hrel
    clear c0 c1 c2 c3 c4 c5 c6 c7
    obtain ⟨f0, f1, f2, f3, f4, f5, f6, f7⟩ := of8' ((hbel.block _ hz0).trans (unhide X8))
    have HB := hide hbel
    by_cases hlt : k < kids.length
    · obtain ⟨x, hx, hd⟩ := get_at hlt
      clear hd
      have hw := below_sub (unhide BX) hbel
      obtain ⟨bb, off, v, hq0, hin, g0, g1, g2, g3, g4, g5, g6, g7⟩ := (unhide HA).on hx hw
      subst hq0
      have hxm : x ∈ kids := List.mem_of_getElem? hx
      have ki0 : (0 : Int) ≤ (k : Int) := by omega
      have ki1 : (k : Int) < (kids.length : Int) := by omega
      have q27 := fun (n : Nat) (os : Array Obj) => unhide HI x hxm v (grow (redrawn wr n) os) qe ce (hin.keep (below_regrown wr n os)) ((unhide HE).below (below_sub hbel (below_regrown wr n os))) (chkL_mem (unhide HK) hxm) (Nat.le_trans (wtL_mem hxm) (unhide HWT))
      simp only [Nv.val] at q27
      have F6 : ∀ n os, (grow (redrawn wr n) os).cell? ⟨w.heap.size, 6, none⟩ = some _ := cell_regrown f6
      have F7 : ∀ n os, (grow (redrawn wr n) os).cell? ⟨w.heap.size, 7, none⟩ = some _ := cell_regrown f7
      have G0 : ∀ n os, (grow (redrawn wr n) os).cell? ⟨bb, off + k * 8, none⟩ = some _ := cell_regrown g0
      have G1 : ∀ n os, (grow (redrawn wr n) os).cell? ⟨bb, off + k * 8 + 1, none⟩ = some _ := cell_regrown g1
      have G2 : ∀ n os, (grow (redrawn wr n) os).cell? ⟨bb, off + k * 8 + 2, none⟩ = some _ := cell_regrown g2
      have G3 : ∀ n os, (grow (redrawn wr n) os).cell? ⟨bb, off + k * 8 + 3, none⟩ = some _ := cell_regrown g3
      have G4 : ∀ n os, (grow (redrawn wr n) os).cell? ⟨bb, off + k * 8 + 4, none⟩ = some _ := cell_regrown g4
      have G5 : ∀ n os, (grow (redrawn wr n) os).cell? ⟨bb, off + k * 8 + 5, none⟩ = some _ := cell_regrown g5
      have G6 : ∀ n os, (grow (redrawn wr n) os).cell? ⟨bb, off + k * 8 + 6, none⟩ = some _ := cell_regrown g6
      have G7 : ∀ n os, (grow (redrawn wr n) os).cell? ⟨bb, off + k * 8 + 7, none⟩ = some _ := cell_regrown g7
      have Hx := hide hx
      clear hx hxm hin hbel hw g0 g1 g2 g3 g4 g5 g6 g7 f0 f1 f2 f3 f4 f5 f6
      cases hq : truN ev x with
      | true =>
        rw [hq] at q27
        go_wp2
        refine wp_region_quiet_below (by assumption) (by kernel_rfl) ?_
        repeat (go_big_quiet_step (first | (go_at_fn 27; refine Calls.regrown_of (q27 _ _))))
        refine wpQuiet_nil ?_
        intro _ hw'
        obtain ⟨⟨dq, osq⟩, hw''⟩ := hw'
        subst hw''
        have P6 := F6 dq osq
        go_wp2
        go_ret
        exact ⟨ret_bool (by rw [show kids.any (fun x => truN ev x) = true from any_yes (unhide Hx) (by simp [hq])]), below_sub (unhide BX) (below_sub (unhide HB) (below_regrown _ _ _))⟩
      | false =>
        rw [hq] at q27
        go_wp2
        refine wp_region_quiet_below (by assumption) (by kernel_rfl) ?_
        repeat (go_big_quiet_step (first | (go_at_fn 27; refine Calls.regrown_of (q27 _ _))))
        refine wpQuiet_nil ?_
        intro _ hw'
        obtain ⟨⟨dq, osq⟩, hw''⟩ := hw'
        subst hw''
        have P6 := F6 dq osq
        go_wp2
        exact ⟨⟨k + 1, by omega, by go_num, below_sub (unhide HB) (below_regrown _ _ _), hide (fun j y hj hy => by
          by_cases e : j = k
          · subst e; rw [unhide Hx] at hy; cases hy; simp [hq]
          · exact unhide HNo j y (by omega) hy)⟩, by simp [intOf]; omega⟩
    · have ki1 : ¬ (k : Int) < (kids.length : Int) := by omega
      have HZ := hide (show kids.any (fun x => truN ev x) = false from any_none (fun j x hj hx => unhide HNo j x (by omega) hx))
      go_wp2
      go_ret
      exact ⟨ret_bool (by rw [unhide HZ]), below_sub (unhide BX) (unhide HB)⟩
theorem rtruth_any (ev : List Pr) (l3 : ev.length ≤ 100000000000000) : ∀ t, RtruP ev t := by
  intro t
  induction t using Nd.ind with
  | h kind attr ints words lo hi op kids ih =>
    intro v w qe ce hin he hch hwt
    obtain ⟨qi, ci, qw, cw, qk, ck, rfl, h1, h2, hk⟩ := hin.parts
    obtain ⟨l1, l2, l4⟩ := wtN_parts hwt
    simp only [chkN, Bool.and_eq_true] at hch
    obtain ⟨hn, hc⟩ := hch
    simp only [truN, Nv.val]
    unfold nodeB at hn
    by_cases o1 : op = 1
    · rw [if_neg (by omega), if_neg (by omega), if_neg (by omega)]
      exact rt_pred kind attr qi ci ints qw cw words lo hi op qk ck kids qe ce ev w he o1 h1 h2 (by omega) (by omega) l3
    · rw [if_neg o1] at hn
      by_cases o2 : op = 2
      · rw [if_pos o2] at hn
        rw [if_pos o2]
        rw [Bool.and_eq_true] at hn
        obtain ⟨x, rfl⟩ := List.length_eq_one_iff.1 (of_decide_eq_true hn.2)
        simp only [anyT, Bool.or_false]
        exact rt_not kind attr qi ci ints qw cw words lo hi op qk ck [x] qe ce ev w he x o2 rfl hk ih hc l4
      · rw [if_neg o2] at hn
        rw [if_neg o2]
        by_cases o3 : op = 3
        · rw [if_pos o3, allT_eq]
          exact rt_and kind attr qi ci ints qw cw words lo hi op qk ck kids qe ce ev w he o3 hk ih hc l4
        · rw [if_neg o3]
          by_cases o4 : op = 4
          · rw [if_pos o4, anyT_eq]
            exact rt_or kind attr qi ci ints qw cw words lo hi op qk ck kids qe ce ev w he o4 hk ih hc l4
          · rw [if_neg (by omega)] at hn; cases hn
set_option maxRecDepth 100000 in
set_option maxHeartbeats 4000000 in
theorem reval_of (t : Nd) (v : Nv) (qe : Option Addr) (ce : Nat) (ev : List Pr) (w : World)
    (hC : ∀ W, Below w.heap.size w W → Calls Try.prog 18 #[v.val] W fun e w' => e = .returned (.bool (chkN t)) ∧ Below W.heap.size W w')
    (hT : chkN t = true → ∀ W, Below w.heap.size w W → Calls Try.prog 27 #[v.val, .slice qe ev.length ce] W fun e w' => e = .returned (.bool (truN ev t)) ∧ Below W.heap.size W w') :
    Calls Try.prog 9 #[v.val, .slice qe ev.length ce] w fun e w' => e = .returned (.bool (evalN ev t)) ∧ Below w.heap.size w w' := by
  unfold evalN
  simp only [Nv.val] at hC hT ⊢
  obtain ⟨X, HX⟩ : ∃ X, w.alloc (.cells #[.int .i64 v.kind, .string v.attr, .slice v.qi v.ni v.ci, .slice v.qw v.nw v.cw, .int .i64 v.lo, .int .i64 v.hi, .int .i64 v.op, .slice v.qk v.nk v.ck] 31) = X := ⟨_, rfl⟩
  have x8 : X.heap[w.heap.size]? = some (.cells #[.int .i64 v.kind, .string v.attr, .slice v.qi v.ni v.ci, .slice v.qw v.nw v.cw, .int .i64 v.lo, .int .i64 v.hi, .int .i64 v.op, .slice v.qk v.nk v.ck] 31 (0, 0)) := by rw [← HX]; exact box_nw _ _
  have bX : Below w.heap.size w X := by rw [← HX]; exact (Below.refl _ _).alloc (Nat.le_refl _) _
  obtain ⟨c0, c1, c2, c3, c4, c5, c6, c7⟩ := of8' x8
  have hC1 := hC X bX
  have X8 := hide x8
  have BX := hide bX
  clear hC x8 bX
  cases hch : chkN t with
  | false =>
    rw [hch] at hC1
    clear hT
    go_enter Try.func9, Try.ntmps9
    go_wp2_with (go_at_call 18; refine hC1.mono ?_; rintro e w1 ⟨rfl, b1⟩; have B1 := hide b1; clear b1)
    go_ret
    exact ⟨ret_bool (by simp), below_sub (unhide BX) (unhide B1)⟩
  | true =>
    rw [hch] at hC1
    have hT1 := hT hch
    clear hT
    obtain ⟨r, hr⟩ : ∃ r, truN ev t = r := ⟨_, rfl⟩
    rw [hr] at hT1 ⊢
    clear hr
    go_enter Try.func9, Try.ntmps9
    go_wp2_with (first
      | (go_at_call 18; refine hC1.mono ?_; rintro e w1 ⟨rfl, b1⟩; obtain ⟨d0, d1, d2, d3, d4, d5, d6, d7⟩ := of8' ((b1.block _ (heap_lt (unhide X8))).trans (unhide X8)); have B1 := hide (below_sub (unhide BX) b1); clear b1)
      | (go_at_call 27; refine (hT1 _ (unhide B1)).mono ?_; rintro e w2 ⟨rfl, b2⟩; have B2 := hide (below_sub (unhide B1) b2); clear b2))
    go_ret
    exact ⟨ret_bool (by simp), unhide B2⟩
theorem reval_any (t : Nd) (v : Nv) (qe : Option Addr) (ce : Nat) (ev : List Pr) (w : World) (hin : NdIn w v t) (he : SlOf encP 4 w qe ce ev) (hwt : wtN t ≤ 1000000000) (l3 : ev.length ≤ 100000000000000) :
    Calls Try.prog 9 #[v.val, .slice qe ev.length ce] w fun e w' => e = .returned (.bool (evalN ev t)) ∧ Below w.heap.size w w' :=
  reval_of t v qe ce ev w (fun W hb => rchk_any t v W (hin.keep hb) hwt) (fun hc W hb => rtruth_any ev l3 t v W qe ce (hin.keep hb) (he.below hb) hc hwt)
set_option maxRecDepth 100000 in
set_option maxHeartbeats 2000000 in
theorem rwhich_any (ev : List Pr) (qe : Option Addr) (ce : Nat) (q : Option Addr) (c : Nat) (kids : List Nd) (w : World) (he : SlOf encP 4 w qe ce ev) (h : NdsOf w q c kids) (hwt : wtL kids ≤ 1000000000) (l3 : ev.length ≤ 100000000000000) :
    Calls Try.prog 16 #[.slice qe ev.length ce, .slice q kids.length c] w fun e w' => (∃ q' c', e = .returned (.slice q' (whc ev 0 kids).length c') ∧ OwnK encI 3 1 w.heap.size w' q' c' (whc ev 0 kids)) ∧ Below w.heap.size w w' := by
  have HA := hide h
  have HE := hide he
  have hlen := Nat.le_trans (Nat.le_trans (len_size kids) (sizeL_wt kids)) hwt
  have HWT := hide hwt
  have a0 : (kids.length : Int) ≤ 1000000000 := by omega
  clear h he hwt
  go_enter Try.func16, Try.ntmps16
  go_wp2
  go_loopw [5, 6] (fun s i wr => ∃ k : Nat, k ≤ kids.length ∧ i = .int .i64 k ∧ Below w.heap.size w wr ∧ ∃ q' c' n, s = .slice q' n c' ∧ (whc ev 0 (kids.take k)).length = n ∧ OwnK encI 3 1 w.heap.size wr q' c' (whc ev 0 (kids.take k))) (fun _ i _ => kids.length - (intOf i).toNat)
  case atStart => exact ⟨0, by omega, rfl, Below.refl _ _, none, 0, 0, rfl, rfl, OwnK.nil _ _⟩
  case round =>
    obtain ⟨k, hk, rfl, hbel, q', c', n, rfl, hn, hown⟩ := hrel
    have hnk : n ≤ k := by
      have h1 := whc_len ev (kids.take k) 0
      have h2 := List.length_take_le k kids
      omega
    have HO := hide hown
    have HN := hide hn
    clear hown hn
    by_cases hlt : k < kids.length
    · obtain ⟨x, hx, hd⟩ := get_at hlt
      clear hd
      obtain ⟨bb, off, v, hq0, hin, g0, g1, g2, g3, g4, g5, g6, g7⟩ := (unhide HA).on hx hbel
      subst hq0
      have hxm : x ∈ kids := List.mem_of_getElem? hx
      have ki0 : (0 : Int) ≤ (k : Int) := by omega
      have ki1 : (k : Int) < (kids.length : Int) := by omega
      have hT := fun (W : World) (hb : Below wr.heap.size wr W) => reval_any x v qe ce ev W (hin.keep hb) ((unhide HE).below (below_sub hbel hb)) (Nat.le_trans (wtL_mem hxm) (unhide HWT)) l3
      simp only [Nv.val] at hT
      have Hx := hide hx
      have HB := hide hbel
      clear hx hxm hin hbel
      cases hq : evalN ev x with
      | true =>
        rw [hq] at hT
        have HY := hide (whc_yes (unhide Hx) hq)
        go_wp2_with (first
          | (go_at_call 9; refine (hT _ (Below.refl _ _)).mono ?_; rintro e w1 ⟨rfl, b1⟩; have B1 := hide b1; clear b1)
          | (at_builtin; refine wpList_app rowI rfl _ _ rfl w.heap.size q' c' (whc ev 0 (kids.take k)) (some ⟨w1.heap.size, 0, none⟩) 1 [(k : Int)] n 1 (n + 1) (unhide HN) rfl rfl rfl rfl ((unhide HO).below (below_sub (unhide B1) ((Below.refl _ _).alloc (Nat.le_refl _) _))) (int_src (box_nw _ _)) (by unfold maxLen; omega) (by omega) (by simp; have := (unhide HB).size; have := (unhide B1).size; omega) ?_; intro q2 c2 w2 hown2 hb2 _ hg2))
        go_roundw
        case rel => exact ⟨k + 1, by omega, by go_num, ((below_sub (unhide HB) (unhide B1)).alloc (below_sub (unhide HB) (unhide B1)).size _).trans hb2, q2, c2, n + 1, rfl, by rw [unhide HY]; simp [unhide HN], by rw [unhide HY]; exact hown2⟩
        case measure => simp [intOf]; omega
      | false =>
        rw [hq] at hT
        have HY := hide (whc_no (unhide Hx) hq)
        go_wp2_with (go_at_call 9; refine (hT _ (Below.refl _ _)).mono ?_; rintro e w1 ⟨rfl, b1⟩; have B1 := hide b1; clear b1)
        go_roundw
        case rel => exact ⟨k + 1, by omega, by go_num, below_sub (unhide HB) (unhide B1), q', c', n, rfl, by rw [unhide HY]; exact unhide HN, by rw [unhide HY]; exact (unhide HO).below (unhide B1)⟩
        case measure => simp [intOf]; omega
    · have ki1 : ¬ (k : Int) < (kids.length : Int) := by omega
      have HZ := hide (List.take_of_length_le (l := kids) (i := k) (by omega))
      go_wp2
      go_ret
      have hn := unhide HN
      have ho := unhide HO
      rw [unhide HZ] at hn ho
      exact ⟨⟨q', c', by rw [hn]; rfl, ho⟩, hbel⟩
end Go.Proofs.Ytkpdhkdegoincaa
