/- law12.fixed returns true. -/
import Derived.Test.YtjbafggnbfknfaaGreatDoorZak
import Derived.Test.YtjbafggnbfknfaaGreatDoorZab
import Derived.Test.YtjbafggnbfknfaaGreatDoorMt
import Derived.Deep.Cut
namespace Go.Proofs.YtjbafggnbfknfaaGreatDoor
open Go.RowKit Go.Sort Go.Shelf

theorem slDrop {w : World} {b off c : Nat} {l m : List Ky} (h : SlOf encK 5 w (some ⟨b, off, none⟩) c (l ++ m)) (hm : 0 < m.length) : SlOf encK 5 w (some ⟨b, off + l.length * 5, none⟩) (c - l.length) m := by
  have h1 := h.2.1
  have h2 := h.2.2.1
  rw [List.length_append] at h1
  refine ⟨fun h => (by cases h), by omega, by omega, fun _ => ?_⟩
  obtain ⟨b', off', hq, hb, hc⟩ := h.2.2.2 (by rw [List.length_append]; omega)
  cases hq
  refine ⟨b, _, rfl, hb, fun j u hj => ?_⟩
  rw [Nat.add_assoc]
  exact hc (l.length * 5 + j) u (by rw [flat_app encK 5 (by decide), List.getElem?_append_right (by rw [flat_len]; omega), flat_len, Nat.add_sub_cancel_left]; exact hj)
theorem zeroK (w : World) : Calls Tryz.prog 20 #[] w fun e w' => e = .returned (.agg #[.string ⟨#[]⟩, .int .i64 5, .int .i64 0, .int .i64 0, .string ⟨#[]⟩]) ∧ Below w.heap.size w w' := by
  go_enter Tryz.func20, Tryz.ntmps20
  go_wp2
  refine bodyPost_ret (v := .agg #[.string ⟨#[]⟩, .int .i64 5, .int .i64 0, .int .i64 0, .string ⟨#[]⟩]) (by simp [results, Tryz.results20, go_sem]) rfl ⟨rfl, (Below.refl _ _).alloc (Nat.le_refl _) _⟩
theorem cmp01 (w : World) : Calls Tryz.prog 19 #[.agg #[.string ⟨#[99]⟩, .int .i64 2, .int .i64 0, .int .i64 0, .string ⟨#[97, 98]⟩], .agg #[.string ⟨#[99]⟩, .int .i64 4, .int .i64 0, .int .i64 0, .string ⟨#[]⟩]] w fun e w' => e = .returned (.int .i64 (-1)) ∧ Below w.heap.size w w' := by
  have h := compareB kc0 kc1 w
  rw [show cmpK kc0 kc1 = -1 by decide +kernel] at h
  exact h
theorem eqA (w : World) : (binOp .eql 46 (.agg #[.string ⟨#[97]⟩, .int .i64 3, .int .i64 3, .int .i64 268435456, .string ⟨#[]⟩]) (.agg #[.string ⟨#[97]⟩, .int .i64 3, .int .i64 3, .int .i64 268435456, .string ⟨#[]⟩])).run Tryz.prog w = .ok (.bool true) w := by
  have h := eqlP keyA keyA w
  rw [show decide (keyA = keyA) = true from decide_eq_true rfl] at h
  exact h
theorem fieldZ (w : World) : (Instr.field 46 (.agg #[.string ⟨#[]⟩, .int .i64 5, .int .i64 0, .int .i64 0, .string ⟨#[]⟩]) 1).run Tryz.prog w = .ok (.int .i64 5) w := by
  kernel_rfl
theorem sh2 : (shared [kc0, kc1, kc2, kc3] [kc2, kc3]).length = 2 := by decide +kernel
set_option maxRecDepth 100000 in
set_option maxHeartbeats 4000000 in
theorem fixedK (w : World) (hG : G w) : Calls Tryz.prog 6 #[] w fun e w' => e = .returned (.bool true) ∧ Below w.heap.size w w' := by
  have mixed : Tryz.prog.follows .mixedOrders = true := by kernel_rfl
  have en10 : ∀ args w, (callFunc 19 args).run Tryz.prog w = .ok (.enter 19 args) w := enters_of Tryz.func19 (by kernel_rfl) rfl
  have en14 : ∀ args w, (callFunc 20 args).run Tryz.prog w = .ok (.enter 20 args) w := enters_of Tryz.func20 (by kernel_rfl) rfl
  have hof := ofA w hG
  have hsh := fun (g c : Nat) (W : World) (h : SlOf encK 5 W (some ⟨g, 0, none⟩) c [kc0, kc1, kc2, kc3]) => sharedK (some ⟨g, 0, none⟩) c [kc0, kc1, kc2, kc3] (some ⟨g, 10, none⟩) (c - 2) [kc2, kc3] W h (slDrop (l := [kc0, kc1]) (m := [kc2, kc3]) h (by decide)) (by decide) (by decide)
  rw [sh2] at hsh
  clear hG
  go_enter Tryz.func6, Tryz.ntmps6
  go_wp2_with (first
    | (go_at_call 9; refine hof.mono ?_; rintro e w1 ⟨⟨q1, c1, rfl, o1⟩, b1⟩; (obtain ⟨g1, hq1, hg1, hg2, _, _⟩ := o1.some_of (by decide)); subst hq1; have O1 := hide o1; have B1 := hide b1; clear o1 b1)
    | (go_at_call 10; refine (eventC (some ⟨w1.heap.size, 0, none⟩) 1 _ ⟨fun h => (by cases h), Nat.le_refl _, by unfold maxLen; decide, (LsOf.one (by simp) fun c hc => (by
        obtain ⟨y0, y1, y2, y3⟩ := cells_of_pair (x := pairC) (box_nw w1 (.cells #[.string ⟨#[99]⟩, .int .i64 2, .int .i64 0, .string ⟨#[97, 98]⟩] 42))
        have hm : c = 0 ∨ c = 1 ∨ c = 2 ∨ c = 3 := by omega
        rcases hm with rfl | rfl | rfl | rfl
        · exact y0
        · exact y1
        · exact y2
        · exact y3))⟩).mono ?_; rintro e w2 ⟨⟨q2, c2, rfl, o2⟩, b2⟩; (obtain ⟨g2, hq2, hh1, hh2, hcap, hmx⟩ := o2.some_of (by decide)); subst hq2; have O2 := hide o2; have B2 := hide (below_sub ((Below.refl w1.heap.size w1).alloc (Nat.le_refl _) _) b2); have hc4 : 4 ≤ c2 := hcap; have nc : ¬ c2 = 2 := (by omega); have nc2 : (4 : Int) ≤ (c2 : Int) := (by omega); clear o2 b2 hcap)
    | (go_at_call 17; refine (hsh g2 c2 _ (unhide O2).ls).mono ?_; rintro e w3 ⟨⟨q3, c3, rfl, o3⟩, b3⟩; have B3 := hide b3; clear o3 b3))
  have O1' := hide ((unhide O1).below (below_sub (unhide B2) (unhide B3)))
  have O2' := hide ((unhide O2).below (unhide B3))
  obtain ⟨lc0, lc1, lc2, lc3, lc4⟩ := (unhide O1').at2 (k := 0) (x := keyA) rfl
  obtain ⟨mc0, mc1, mc2, mc3, mc4⟩ := (unhide O2').at2 (k := 0) (x := kc0) rfl
  obtain ⟨nc0, nc1, nc2', nc3, nc4⟩ := (unhide O2').at2 (k := 1) (x := kc1) rfl
  obtain ⟨pc0, pc1, pc2, pc3, pc4⟩ := (unhide O2').at2 (k := 2) (x := kc2) rfl
  have BE := hide (below_sub (unhide B1) (below_sub (unhide B2) (unhide B3)))
  have l0 : ∀ n os, (grow (redrawn w3 n) os).cell? ⟨g1, 0, none⟩ = some (.string ⟨#[97]⟩) := cell_regrown (show w3.cell? ⟨g1, 0, none⟩ = some (.string ⟨#[97]⟩) from lc0)
  have l1 : ∀ n os, (grow (redrawn w3 n) os).cell? ⟨g1, 1, none⟩ = some (.int .i64 3) := cell_regrown (show w3.cell? ⟨g1, 1, none⟩ = some (.int .i64 3) from lc1)
  have l2 : ∀ n os, (grow (redrawn w3 n) os).cell? ⟨g1, 2, none⟩ = some (.int .i64 3) := cell_regrown (show w3.cell? ⟨g1, 2, none⟩ = some (.int .i64 3) from lc2)
  have l3 : ∀ n os, (grow (redrawn w3 n) os).cell? ⟨g1, 3, none⟩ = some (.int .i64 268435456) := cell_regrown (show w3.cell? ⟨g1, 3, none⟩ = some (.int .i64 268435456) from lc3)
  have l4 : ∀ n os, (grow (redrawn w3 n) os).cell? ⟨g1, 4, none⟩ = some (.string ⟨#[]⟩) := cell_regrown (show w3.cell? ⟨g1, 4, none⟩ = some (.string ⟨#[]⟩) from lc4)
  have m0 : ∀ n os, (grow (redrawn w3 n) os).cell? ⟨g2, 0, none⟩ = some (.string ⟨#[99]⟩) := cell_regrown (show w3.cell? ⟨g2, 0, none⟩ = some (.string ⟨#[99]⟩) from mc0)
  have m1 : ∀ n os, (grow (redrawn w3 n) os).cell? ⟨g2, 1, none⟩ = some (.int .i64 2) := cell_regrown (show w3.cell? ⟨g2, 1, none⟩ = some (.int .i64 2) from mc1)
  have m2 : ∀ n os, (grow (redrawn w3 n) os).cell? ⟨g2, 2, none⟩ = some (.int .i64 0) := cell_regrown (show w3.cell? ⟨g2, 2, none⟩ = some (.int .i64 0) from mc2)
  have m3 : ∀ n os, (grow (redrawn w3 n) os).cell? ⟨g2, 3, none⟩ = some (.int .i64 0) := cell_regrown (show w3.cell? ⟨g2, 3, none⟩ = some (.int .i64 0) from mc3)
  have m4 : ∀ n os, (grow (redrawn w3 n) os).cell? ⟨g2, 4, none⟩ = some (.string ⟨#[97, 98]⟩) := cell_regrown (show w3.cell? ⟨g2, 4, none⟩ = some (.string ⟨#[97, 98]⟩) from mc4)
  have n0 : ∀ n os, (grow (redrawn w3 n) os).cell? ⟨g2, 5, none⟩ = some (.string ⟨#[99]⟩) := cell_regrown (show w3.cell? ⟨g2, 5, none⟩ = some (.string ⟨#[99]⟩) from nc0)
  have n1 : ∀ n os, (grow (redrawn w3 n) os).cell? ⟨g2, 6, none⟩ = some (.int .i64 4) := cell_regrown (show w3.cell? ⟨g2, 6, none⟩ = some (.int .i64 4) from nc1)
  have n2 : ∀ n os, (grow (redrawn w3 n) os).cell? ⟨g2, 7, none⟩ = some (.int .i64 0) := cell_regrown (show w3.cell? ⟨g2, 7, none⟩ = some (.int .i64 0) from nc2')
  have n3 : ∀ n os, (grow (redrawn w3 n) os).cell? ⟨g2, 8, none⟩ = some (.int .i64 0) := cell_regrown (show w3.cell? ⟨g2, 8, none⟩ = some (.int .i64 0) from nc3)
  have n4 : ∀ n os, (grow (redrawn w3 n) os).cell? ⟨g2, 9, none⟩ = some (.string ⟨#[]⟩) := cell_regrown (show w3.cell? ⟨g2, 9, none⟩ = some (.string ⟨#[]⟩) from nc4)
  have p0 : ∀ n os, (grow (redrawn w3 n) os).cell? ⟨g2, 10, none⟩ = some (.string ⟨#[99]⟩) := cell_regrown (show w3.cell? ⟨g2, 10, none⟩ = some (.string ⟨#[99]⟩) from pc0)
  have p1 : ∀ n os, (grow (redrawn w3 n) os).cell? ⟨g2, 11, none⟩ = some (.int .i64 4) := cell_regrown (show w3.cell? ⟨g2, 11, none⟩ = some (.int .i64 4) from pc1)
  have p2 : ∀ n os, (grow (redrawn w3 n) os).cell? ⟨g2, 12, none⟩ = some (.int .i64 0) := cell_regrown (show w3.cell? ⟨g2, 12, none⟩ = some (.int .i64 0) from pc2)
  have p3 : ∀ n os, (grow (redrawn w3 n) os).cell? ⟨g2, 13, none⟩ = some (.int .i64 0) := cell_regrown (show w3.cell? ⟨g2, 13, none⟩ = some (.int .i64 0) from pc3)
  have p4 : ∀ n os, (grow (redrawn w3 n) os).cell? ⟨g2, 14, none⟩ = some (.string ⟨#[97]⟩) := cell_regrown (show w3.cell? ⟨g2, 14, none⟩ = some (.string ⟨#[97]⟩) from pc4)
  have heq := eqA
  have hfd := fieldZ
  clear lc0 lc1 lc2 lc3 lc4 mc0 mc1 mc2 mc3 mc4 nc0 nc1 nc2' nc3 nc4 pc0 pc1 pc2 pc3 pc4
  refine wp_region_quiet_below (by assumption) (by kernel_rfl) ?_
  repeat (go_big_quiet_step (first | (go_at_fn 20; refine Calls.regrown_of (zeroK _)) | (go_at_fn 19; refine Calls.regrown_of (cmp01 _))))
  refine wpQuiet_nil ?_
  intro _ hw'
  obtain ⟨⟨dq, osq⟩, hw''⟩ := hw'
  subst hw''
  go_wp2
  go_ret
  exact ⟨ret_bool (by simp), below_sub (unhide BE) (below_regrown _ _ _)⟩
end Go.Proofs.YtjbafggnbfknfaaGreatDoor
namespace Go.Proofs.YtjbafggnbfknfaaGreatDoor
open Go.RowKit Go.Sort Go.Shelf

set_option maxHeartbeats 4000000 in
set_option maxRecDepth 100000 in
theorem keyMeets_law (kind : Int) (attr : ByteArray) (qi : Option Addr) (ci : Nat) (ints : List Int) (qw : Option Addr) (cw : Nat) (words : List ByteArray) (lo hi : Int) (qe : Option Addr) (ce : Nat) (ev : List Pr) (w : World) (hG : G w) (h1 : SlOf encI 1 w qi ci ints) (h2 : SlOf encS 1 w qw cw words) (h3 : SlOf encR 4 w qe ce ev) (l1 : ints.length ≤ 100000000000000) (l2 : words.length ≤ 100000000000000) (l3 : ev.length * 3696 ≤ 140737488355328) :
    Calls Tryz.prog 4 #[.agg #[.int .i64 kind, .string attr, .slice qi ints.length ci, .slice qw words.length cw, .int .i64 lo, .int .i64 hi], .slice qe ev.length ce] w fun e w' => e = .returned (.bool true) ∧ Below w.heap.size w w' := by
  obtain ⟨X, HX⟩ : ∃ X, w.alloc (.cells #[.int .i64 kind, .string attr, .slice qi ints.length ci, .slice qw words.length cw, .int .i64 lo, .int .i64 hi] 25) = X := ⟨_, rfl⟩
  have bX : Below w.heap.size w X := by rw [← HX]; exact (Below.refl _ _).alloc (Nat.le_refl _) _
  have x8 : X.heap[w.heap.size]? = some (.cells #[.int .i64 kind, .string attr, .slice qi ints.length ci, .slice qw words.length cw, .int .i64 lo, .int .i64 hi] 25 (0, 0)) := by rw [← HX]; exact World.alloc_heap_new _ _
  have hlt0 : w.heap.size < X.heap.size := (Array.getElem?_eq_some_iff.1 x8).1
  have hmt := meets kind attr ints words lo hi ev
  have fL1 := (of_facts kind attr ints words lo hi).1
  have fE : ((fstR ev).flatMap evKeys).length * 56 ≤ 140737488355328 := by
    have := ev_len (fstR ev)
    have := fstR_len ev
    omega
  have hOf := fun (W : World) (hW : Below w.heap.size w W) => of_any kind attr qi ci ints qw cw words lo hi W (h1.below hW) (h2.below hW) (by omega) (by omega) (hG.below' hW)
  have hEv := fun (W : World) (hW : Below w.heap.size w W) => event_of qe ev.length ce W (fstR ev) (by have := fstR_len ev; omega) (firsts_any qe ce ev W (by omega) (h3.below hW))
  have hHo := fun (W : World) (hW : Below w.heap.size w W) => holds_any kind attr qi ci ints qw cw words lo hi qe ce ev W (h1.below hW) (h2.below hW) (h3.below hW) l1 l2 (by omega)
  obtain ⟨K, hK⟩ : ∃ K, keysOf kind attr ints words lo hi = K := ⟨_, rfl⟩
  obtain ⟨E, hE⟩ : ∃ E, (fstR ev).flatMap evKeys = E := ⟨_, rfl⟩
  obtain ⟨b, hb⟩ : ∃ b, holdsB kind attr ints words lo hi ev = b := ⟨_, rfl⟩
  rw [hK, hE, hb] at hmt
  rw [hK] at fL1
  rw [hE] at fE
  simp only [hK] at hOf
  simp only [hE] at hEv
  simp only [hb] at hHo
  have hSh := fun (W : World) (qa : Option Addr) (ca : Nat) (qb : Option Addr) (cb : Nat) (ha : SlOf encK 5 W qa ca K) (hb : SlOf encK 5 W qb cb E) => sharedK qa ca K qb cb E W ha hb (by omega) fE
  obtain ⟨n, hn⟩ : ∃ n, (shared K E).length = n := ⟨_, rfl⟩
  simp only [hn] at hSh
  rw [hn] at hmt
  have hfX := fixedK X (hG.below' bX)
  have X8 := hide x8
  have BX := hide bX
  have HOF := hide hOf
  have HEV := hide hEv
  have HHO := hide hHo
  have HSH := hide hSh
  clear hK hE hb hn x8 bX hG h1 h2 h3 hOf hEv hHo hSh fE fL1 l3
  go_enter Tryz.func4, Tryz.ntmps4
  go_upto_region 3 with (go_at_call 6; refine hfX.mono ?_; rintro e w1 ⟨rfl, b1⟩; have B1 := hide b1; clear b1)
  clear HX
  have W8 := hide (((unhide B1).block _ hlt0).trans (unhide X8))
  have l8 : w.heap.size < w1.heap.size := (Array.getElem?_eq_some_iff.1 (unhide W8)).1
  have BW := hide (below_sub (unhide BX) (unhide B1))
  obtain ⟨a0, a1, a2, a3, a4, a5⟩ := of6' (unhide W8)
  have c9 := unhide HOF w1 (unhide BW)
  go_upto_region 4 with (first
    | (go_at_call 9; refine c9.mono ?_; rintro e w2 ⟨⟨q9, k9, rfl, o9⟩, b2⟩; have B2 := hide b2; have O9 := hide o9; have BW2 := hide (below_sub (unhide BW) b2); have c10 := unhide HEV w2 (below_sub (unhide BW) b2); clear o9 b2)
    | (go_at_call 10; refine c10.mono ?_; rintro e w3 ⟨⟨q10, k10, rfl, o10⟩, b3⟩; have B3 := hide b3; have c17 := unhide HSH w3 q9 k9 q10 k10 ((unhide O9).ls.below b3) o10.ls; clear o10 b3)
    | (go_at_call 17; refine c17.mono ?_; rintro e w4 ⟨⟨q17, k17, rfl, o17⟩, b4⟩; have B4 := hide b4; clear o17 b4))
  have BA := hide (below_sub (below_sub (unhide B2) (unhide B3)) (unhide B4))
  have BW4 := hide (below_sub (unhide BW) (unhide BA))
  obtain ⟨d0, d1, d2, d3, d4, d5⟩ := of6' (((unhide BA).block _ l8).trans (unhide W8))
  have c18 := unhide HHO w4 (unhide BW4)
  cases b with
  | true =>
    have hn1 : n = 1 := by simpa using hmt
    subst hn1
    clear hmt
    go_wp2_with (go_at_call 18; refine c18.mono ?_; rintro e w5 ⟨rfl, b5⟩; have B5 := hide b5; clear b5)
    go_ret
    exact ⟨rfl, below_sub (unhide BW4) (unhide B5)⟩
  | false =>
    have hn1 : n = 0 := by simpa using hmt
    subst hn1
    clear hmt
    go_wp2_with (go_at_call 18; refine c18.mono ?_; rintro e w5 ⟨rfl, b5⟩; have B5 := hide b5; clear b5)
    go_ret
    exact ⟨rfl, below_sub (unhide BW4) (unhide B5)⟩
end Go.Proofs.YtjbafggnbfknfaaGreatDoor
