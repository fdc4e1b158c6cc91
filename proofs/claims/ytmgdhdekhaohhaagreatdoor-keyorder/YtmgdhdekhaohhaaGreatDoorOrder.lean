/- KeyOrder's loops: the order of keys is total; what two lists share. -/
import Derived.Test.YtmgdhdekhaohhaaGreatDoorShared
import Derived.Lib.QuietBelow
import Derived.BigQuiet
namespace Go.Proofs.YtmgdhdekhaohhaaGreatDoor
open Go.RowKit Go.Sort Go.Shelf

theorem compareB (x y : Ky) (w : World) : Calls Tryz.prog 10 #[.agg #[.string x.attr, .int .i64 x.kind, .int .i64 x.level, .int .i64 x.num, .string x.word], .agg #[.string y.attr, .int .i64 y.kind, .int .i64 y.level, .int .i64 y.num, .string y.word]] w fun e w' => e = .returned (.int .i64 (cmpK x y)) ∧ Below w.heap.size w w' :=
  (compareK x y w).mono fun _ _ ⟨he, q, os, hw⟩ => ⟨he, by rw [hw]; exact below_grown_any (Below.refl _ _) (Nat.le_refl _) q os⟩
theorem re_cell {w W : World} (hB : Below w.heap.size w W) {p : Addr} (hp : p.block < w.heap.size) {v : Value} (hc : w.cell? p = some v) : ∀ n os, (grow (redrawn W n) os).cell? p = some v := cell_regrown ((hB.cell hp).trans hc)
theorem mem_shared {a b : List Ky} {x : Ky} : x ∈ shared a b ↔ x ∈ a ∧ x ∈ b := by
  unfold shared inK
  rw [List.mem_filter, mem_ris]
  simp [mem_ris]
theorem str_shared (a b : List Ky) : Str (shared a b) := (str_ris a).sub List.filter_sublist
theorem shared_comm (a b : List Ky) : shared a b = shared b a := str_ext (str_shared a b) (str_shared b a) fun x => by rw [mem_shared, mem_shared, And.comm]
theorem shared_left (a b : List Ky) : shared (shared a b) a = shared a b := str_ext (str_shared _ _) (str_shared a b) fun x => by rw [mem_shared, mem_shared]; constructor <;> (rintro ⟨h1, h2⟩; simp_all)
theorem shared_right (a b : List Ky) : shared b (shared a b) = shared a b := str_ext (str_shared _ _) (str_shared a b) fun x => by rw [mem_shared, mem_shared]; constructor <;> (rintro ⟨h1, h2⟩; simp_all)
theorem shared_len (a b : List Ky) : (shared a b).length ≤ a.length := Nat.le_trans (List.length_filter_le _ _) (ris_len a)
set_option maxHeartbeats 8000000 in
set_option maxRecDepth 100000 in
theorem keyOrder_loops (qa : Option Addr) (ca : Nat) (a : List Ky) (qb : Option Addr) (cb : Nat) (b : List Ky) (w : World) (hfx : Calls Tryz.prog 5 #[] w fun e w' => e = .returned (.bool true) ∧ Below w.heap.size w w') (ha : SlOf encK 5 w qa ca a) (hb : SlOf encK 5 w qb cb b) (la : a.length * 56 ≤ 140737488355328) (lb : b.length * 56 ≤ 140737488355328) :
    Calls Tryz.prog 4 #[.slice qa a.length ca, .slice qb b.length cb] w fun e w' => e = .returned (.bool true) ∧ Below w.heap.size w w' := by
  have mixed : Tryz.prog.follows .mixedOrders = true := by kernel_rfl
  have en10 : ∀ args w, (callFunc 10 args).run Tryz.prog w = .ok (.enter 10 args) w := enters_of Tryz.func10 (by kernel_rfl) rfl
  have a0 : (a.length : Int) ≤ 2513169434917 := by omega
  have HA := hide ha
  have HBB := hide hb
  clear hb
  go_enter Tryz.func4, Tryz.ntmps4
  go_wp2_with (go_at_call 5; refine hfx.mono ?_; rintro e w1 ⟨rfl, b1⟩; have B1 := hide b1; clear b1)
  go_loopw [5] (fun iv wr => ∃ i : Nat, i ≤ a.length ∧ i ≤ 8 ∧ iv = .int .i64 i ∧ Below w.heap.size w wr) (fun iv _ => 8 - (intOf iv).toNat)
  case atStart => exact ⟨0, by omega, by omega, rfl, unhide B1⟩
  case round =>
    obtain ⟨i, hi, hi8, rfl, hbel⟩ := hrel
    by_cases hlt : i < a.length ∧ i < 8
    · obtain ⟨hl1, hl2⟩ := hlt
      have c1 : (i : Int) < (a.length : Int) := by omega
      have c2 : (i : Int) < 8 := by omega
      have c0 : (0 : Int) ≤ (i : Int) := by omega
      obtain ⟨V, hV⟩ : ∃ V, V = wr := ⟨_, rfl⟩
      subst hV
      have HBV := hide hbel
      clear hbel
      go_wp2
      go_loopw [6] (fun kv wr => ∃ k : Nat, k ≤ a.length ∧ k ≤ 8 ∧ kv = .int .i64 k ∧ Below w.heap.size w wr) (fun kv _ => 8 - (intOf kv).toNat)
      case atStart => exact ⟨0, by omega, by omega, rfl, unhide HBV⟩
      case round =>
        obtain ⟨k, hk, hk8, rfl, hbel⟩ := hrel
        by_cases hlt : k < a.length ∧ k < 8
        · obtain ⟨hk1, hk2⟩ := hlt
          have d1 : (k : Int) < (a.length : Int) := by omega
          have d2 : (k : Int) < 8 := by omega
          have d0 : (0 : Int) ≤ (k : Int) := by omega
          obtain ⟨x, hx, _⟩ := get_at hl1
          obtain ⟨y, hy, _⟩ := get_at hk1
          obtain ⟨ba, oa, hq, hba, xc0, xc1, xc2, xc3, xc4⟩ := postAt (unhide HA) hx
          obtain ⟨ba', oa', hq', _, yc0, yc1, yc2, yc3, yc4⟩ := postAt (unhide HA) hy
          obtain ⟨rfl, rfl⟩ : ba = ba' ∧ oa = oa' := by rw [hq] at hq'; injection hq' with hq'; injection hq' with h1 h2; exact ⟨h1, h2⟩
          have HBK := hide hbel
          subst hq
          clear hx hy hq'
          rcases isCmp_key.rng x y with hc | hc | hc
          · have hc2 : cmpK y x = 1 := by have := isCmp_key.neg x y; omega
            have heq : ∀ W, (binOp .eql 25 (.agg #[.string x.attr, .int .i64 x.kind, .int .i64 x.level, .int .i64 x.num, .string x.word]) (.agg #[.string y.attr, .int .i64 y.kind, .int .i64 y.level, .int .i64 y.num, .string y.word])).run Tryz.prog W = .ok (.bool false) W := fun W => by rw [eqlP, show decide (x = y) = false from decide_eq_false (fun e => by have := (cmp_zero x y).2 e; omega)]
            have x0 := re_cell (hbel) hba xc0
            have x1 := re_cell (hbel) hba xc1
            have x2 := re_cell (hbel) hba xc2
            have x3 := re_cell (hbel) hba xc3
            have x4 := re_cell (hbel) hba xc4
            have y0 := re_cell (hbel) hba yc0
            have y1 := re_cell (hbel) hba yc1
            have y2 := re_cell (hbel) hba yc2
            have y3 := re_cell (hbel) hba yc3
            have y4 := re_cell (hbel) hba yc4
            clear hbel
            go_wp2
            refine wp_region_quiet_below (by assumption) (by kernel_rfl) ?_
            repeat (go_big_quiet_step (first | (go_at_fn 10; refine Calls.regrown_of (compareB _ _ _))))
            refine wpQuiet_nil ?_
            intro _ hw'
            obtain ⟨⟨dq, osq⟩, hw''⟩ := hw'
            subst hw''
            clear x0 x1 x2 x3 x4 y0 y1 y2 y3 y4
            have B2 := hide (below_sub (unhide HBK) (below_regrown wr dq osq))
            generalize grow (redrawn wr dq) osq = V2 at B2 ⊢
            have x0 := re_cell (unhide B2) hba xc0
            have x1 := re_cell (unhide B2) hba xc1
            have x2 := re_cell (unhide B2) hba xc2
            have x3 := re_cell (unhide B2) hba xc3
            have x4 := re_cell (unhide B2) hba xc4
            have y0 := re_cell (unhide B2) hba yc0
            have y1 := re_cell (unhide B2) hba yc1
            have y2 := re_cell (unhide B2) hba yc2
            have y3 := re_cell (unhide B2) hba yc3
            have y4 := re_cell (unhide B2) hba yc4
            go_wp2
            refine wp_region_quiet_below (by assumption) (by kernel_rfl) ?_
            repeat (go_big_quiet_step (first | (go_at_fn 10; refine Calls.regrown_of (compareB _ _ _))))
            refine wpQuiet_nil ?_
            intro _ hw'
            obtain ⟨⟨dq, osq⟩, hw''⟩ := hw'
            subst hw''
            clear x0 x1 x2 x3 x4 y0 y1 y2 y3 y4
            have B3 := hide (below_sub (unhide B2) (below_regrown V2 dq osq))
            generalize grow (redrawn V2 dq) osq = V3 at B3 ⊢
            clear heq
            go_wp2
            go_loopw [8] (fun jv wr => ∃ j : Nat, j ≤ a.length ∧ j ≤ 8 ∧ jv = .int .i64 j ∧ Below w.heap.size w wr) (fun jv _ => 8 - (intOf jv).toNat)
            case atStart => exact ⟨0, by omega, by omega, rfl, unhide B3⟩
            case round =>
              obtain ⟨j, hj, hj8, rfl, hbel⟩ := hrel
              have HBJ := hide hbel
              by_cases hlt : j < a.length ∧ j < 8
              · obtain ⟨hj1, hj2⟩ := hlt
                have f1 : (j : Int) < (a.length : Int) := by omega
                have f2 : (j : Int) < 8 := by omega
                have f0 : (0 : Int) ≤ (j : Int) := by omega
                obtain ⟨z, hz, _⟩ := get_at hj1
                obtain ⟨bz, oz, hqz, _, zc0, zc1, zc2, zc3, zc4⟩ := postAt (unhide HA) hz
                obtain ⟨rfl, rfl⟩ : ba = bz ∧ oa = oz := by injection hqz with hqz; injection hqz with h1 h2; exact ⟨h1, h2⟩
                have x0 := re_cell (hbel) hba xc0
                have x1 := re_cell (hbel) hba xc1
                have x2 := re_cell (hbel) hba xc2
                have x3 := re_cell (hbel) hba xc3
                have x4 := re_cell (hbel) hba xc4
                have y0 := re_cell (hbel) hba yc0
                have y1 := re_cell (hbel) hba yc1
                have y2 := re_cell (hbel) hba yc2
                have y3 := re_cell (hbel) hba yc3
                have y4 := re_cell (hbel) hba yc4
                have z0 := re_cell (hbel) hba zc0
                have z1 := re_cell (hbel) hba zc1
                have z2 := re_cell (hbel) hba zc2
                have z3 := re_cell (hbel) hba zc3
                have z4 := re_cell (hbel) hba zc4
                clear zc0 zc1 zc2 zc3 zc4 hz hqz hbel
                have htr := isCmp_key.trans x y z (by omega)
                rcases isCmp_key.rng y z with hyz | hyz | hyz
                · rcases isCmp_key.rng x z with hxz | hxz | hxz
                  · clear htr
                    go_wp2
                    refine wp_region_quiet_below (by assumption) (by kernel_rfl) ?_
                    repeat (go_big_quiet_step (first | (go_at_fn 10; refine Calls.regrown_of (compareB _ _ _))))
                    refine wpQuiet_nil ?_
                    intro _ hw'
                    obtain ⟨⟨dq, osq⟩, hw''⟩ := hw'
                    subst hw''
                    go_wp2
                    go_roundw
                    case rel => exact ⟨j + 1, by omega, by omega, by go_num, below_sub (unhide HBJ) (below_regrown _ _ _)⟩
                    case measure => simp [intOf]; omega
                  · clear htr
                    go_wp2
                    refine wp_region_quiet_below (by assumption) (by kernel_rfl) ?_
                    repeat (go_big_quiet_step (first | (go_at_fn 10; refine Calls.regrown_of (compareB _ _ _))))
                    refine wpQuiet_nil ?_
                    intro _ hw'
                    obtain ⟨⟨dq, osq⟩, hw''⟩ := hw'
                    subst hw''
                    go_wp2
                    go_roundw
                    case rel => exact ⟨j + 1, by omega, by omega, by go_num, below_sub (unhide HBJ) (below_regrown _ _ _)⟩
                    case measure => simp [intOf]; omega
                  · exact absurd (htr (by omega)) (by omega)
                · rcases isCmp_key.rng x z with hxz | hxz | hxz
                  · clear htr
                    go_wp2
                    refine wp_region_quiet_below (by assumption) (by kernel_rfl) ?_
                    repeat (go_big_quiet_step (first | (go_at_fn 10; refine Calls.regrown_of (compareB _ _ _))))
                    refine wpQuiet_nil ?_
                    intro _ hw'
                    obtain ⟨⟨dq, osq⟩, hw''⟩ := hw'
                    subst hw''
                    go_wp2
                    go_roundw
                    case rel => exact ⟨j + 1, by omega, by omega, by go_num, below_sub (unhide HBJ) (below_regrown _ _ _)⟩
                    case measure => simp [intOf]; omega
                  · clear htr
                    go_wp2
                    refine wp_region_quiet_below (by assumption) (by kernel_rfl) ?_
                    repeat (go_big_quiet_step (first | (go_at_fn 10; refine Calls.regrown_of (compareB _ _ _))))
                    refine wpQuiet_nil ?_
                    intro _ hw'
                    obtain ⟨⟨dq, osq⟩, hw''⟩ := hw'
                    subst hw''
                    go_wp2
                    go_roundw
                    case rel => exact ⟨j + 1, by omega, by omega, by go_num, below_sub (unhide HBJ) (below_regrown _ _ _)⟩
                    case measure => simp [intOf]; omega
                  · exact absurd (htr (by omega)) (by omega)
                · clear htr
                  go_wp2
                  refine wp_region_quiet_below (by assumption) (by kernel_rfl) ?_
                  repeat (go_big_quiet_step (first | (go_at_fn 10; refine Calls.regrown_of (compareB _ _ _))))
                  refine wpQuiet_nil ?_
                  intro _ hw'
                  obtain ⟨⟨dq, osq⟩, hw''⟩ := hw'
                  subst hw''
                  go_wp2
                  go_roundw
                  case rel => exact ⟨j + 1, by omega, by omega, by go_num, below_sub (unhide HBJ) (below_regrown _ _ _)⟩
                  case measure => simp [intOf]; omega
              · by_cases hj1 : j < a.length
                · have f1 : (j : Int) < (a.length : Int) := by omega
                  have f2 : ¬ (j : Int) < 8 := by omega
                  clear hbel
                  go_wp2
                  go_roundw
                  case rel => exact ⟨k + 1, by omega, by omega, by go_num, unhide HBJ⟩
                  case measure => simp [intOf]; omega
                · have f1 : ¬ (j : Int) < (a.length : Int) := by omega
                  clear hbel
                  go_wp2
                  go_roundw
                  case rel => exact ⟨k + 1, by omega, by omega, by go_num, unhide HBJ⟩
                  case measure => simp [intOf]; omega
          · have hc2 : cmpK y x = 0 := by have := isCmp_key.neg x y; omega
            have heq : ∀ W, (binOp .eql 25 (.agg #[.string x.attr, .int .i64 x.kind, .int .i64 x.level, .int .i64 x.num, .string x.word]) (.agg #[.string y.attr, .int .i64 y.kind, .int .i64 y.level, .int .i64 y.num, .string y.word])).run Tryz.prog W = .ok (.bool true) W := fun W => by rw [eqlP, show decide (x = y) = true from decide_eq_true ((cmp_zero x y).1 hc)]
            have x0 := re_cell (hbel) hba xc0
            have x1 := re_cell (hbel) hba xc1
            have x2 := re_cell (hbel) hba xc2
            have x3 := re_cell (hbel) hba xc3
            have x4 := re_cell (hbel) hba xc4
            have y0 := re_cell (hbel) hba yc0
            have y1 := re_cell (hbel) hba yc1
            have y2 := re_cell (hbel) hba yc2
            have y3 := re_cell (hbel) hba yc3
            have y4 := re_cell (hbel) hba yc4
            clear hbel
            go_wp2
            refine wp_region_quiet_below (by assumption) (by kernel_rfl) ?_
            repeat (go_big_quiet_step (first | (go_at_fn 10; refine Calls.regrown_of (compareB _ _ _))))
            refine wpQuiet_nil ?_
            intro _ hw'
            obtain ⟨⟨dq, osq⟩, hw''⟩ := hw'
            subst hw''
            clear x0 x1 x2 x3 x4 y0 y1 y2 y3 y4
            have B2 := hide (below_sub (unhide HBK) (below_regrown wr dq osq))
            generalize grow (redrawn wr dq) osq = V2 at B2 ⊢
            have x0 := re_cell (unhide B2) hba xc0
            have x1 := re_cell (unhide B2) hba xc1
            have x2 := re_cell (unhide B2) hba xc2
            have x3 := re_cell (unhide B2) hba xc3
            have x4 := re_cell (unhide B2) hba xc4
            have y0 := re_cell (unhide B2) hba yc0
            have y1 := re_cell (unhide B2) hba yc1
            have y2 := re_cell (unhide B2) hba yc2
            have y3 := re_cell (unhide B2) hba yc3
            have y4 := re_cell (unhide B2) hba yc4
            go_wp2
            refine wp_region_quiet_below (by assumption) (by kernel_rfl) ?_
            repeat (go_big_quiet_step (first | (go_at_fn 10; refine Calls.regrown_of (compareB _ _ _))))
            refine wpQuiet_nil ?_
            intro _ hw'
            obtain ⟨⟨dq, osq⟩, hw''⟩ := hw'
            subst hw''
            clear x0 x1 x2 x3 x4 y0 y1 y2 y3 y4
            have B3 := hide (below_sub (unhide B2) (below_regrown V2 dq osq))
            generalize grow (redrawn V2 dq) osq = V3 at B3 ⊢
            clear heq
            go_wp2
            go_loopw [8] (fun jv wr => ∃ j : Nat, j ≤ a.length ∧ j ≤ 8 ∧ jv = .int .i64 j ∧ Below w.heap.size w wr) (fun jv _ => 8 - (intOf jv).toNat)
            case atStart => exact ⟨0, by omega, by omega, rfl, unhide B3⟩
            case round =>
              obtain ⟨j, hj, hj8, rfl, hbel⟩ := hrel
              have HBJ := hide hbel
              by_cases hlt : j < a.length ∧ j < 8
              · obtain ⟨hj1, hj2⟩ := hlt
                have f1 : (j : Int) < (a.length : Int) := by omega
                have f2 : (j : Int) < 8 := by omega
                have f0 : (0 : Int) ≤ (j : Int) := by omega
                obtain ⟨z, hz, _⟩ := get_at hj1
                obtain ⟨bz, oz, hqz, _, zc0, zc1, zc2, zc3, zc4⟩ := postAt (unhide HA) hz
                obtain ⟨rfl, rfl⟩ : ba = bz ∧ oa = oz := by injection hqz with hqz; injection hqz with h1 h2; exact ⟨h1, h2⟩
                have x0 := re_cell (hbel) hba xc0
                have x1 := re_cell (hbel) hba xc1
                have x2 := re_cell (hbel) hba xc2
                have x3 := re_cell (hbel) hba xc3
                have x4 := re_cell (hbel) hba xc4
                have y0 := re_cell (hbel) hba yc0
                have y1 := re_cell (hbel) hba yc1
                have y2 := re_cell (hbel) hba yc2
                have y3 := re_cell (hbel) hba yc3
                have y4 := re_cell (hbel) hba yc4
                have z0 := re_cell (hbel) hba zc0
                have z1 := re_cell (hbel) hba zc1
                have z2 := re_cell (hbel) hba zc2
                have z3 := re_cell (hbel) hba zc3
                have z4 := re_cell (hbel) hba zc4
                clear zc0 zc1 zc2 zc3 zc4 hz hqz hbel
                have htr := isCmp_key.trans x y z (by omega)
                rcases isCmp_key.rng y z with hyz | hyz | hyz
                · rcases isCmp_key.rng x z with hxz | hxz | hxz
                  · clear htr
                    go_wp2
                    refine wp_region_quiet_below (by assumption) (by kernel_rfl) ?_
                    repeat (go_big_quiet_step (first | (go_at_fn 10; refine Calls.regrown_of (compareB _ _ _))))
                    refine wpQuiet_nil ?_
                    intro _ hw'
                    obtain ⟨⟨dq, osq⟩, hw''⟩ := hw'
                    subst hw''
                    go_wp2
                    go_roundw
                    case rel => exact ⟨j + 1, by omega, by omega, by go_num, below_sub (unhide HBJ) (below_regrown _ _ _)⟩
                    case measure => simp [intOf]; omega
                  · clear htr
                    go_wp2
                    refine wp_region_quiet_below (by assumption) (by kernel_rfl) ?_
                    repeat (go_big_quiet_step (first | (go_at_fn 10; refine Calls.regrown_of (compareB _ _ _))))
                    refine wpQuiet_nil ?_
                    intro _ hw'
                    obtain ⟨⟨dq, osq⟩, hw''⟩ := hw'
                    subst hw''
                    go_wp2
                    go_roundw
                    case rel => exact ⟨j + 1, by omega, by omega, by go_num, below_sub (unhide HBJ) (below_regrown _ _ _)⟩
                    case measure => simp [intOf]; omega
                  · exact absurd (htr (by omega)) (by omega)
                · rcases isCmp_key.rng x z with hxz | hxz | hxz
                  · clear htr
                    go_wp2
                    refine wp_region_quiet_below (by assumption) (by kernel_rfl) ?_
                    repeat (go_big_quiet_step (first | (go_at_fn 10; refine Calls.regrown_of (compareB _ _ _))))
                    refine wpQuiet_nil ?_
                    intro _ hw'
                    obtain ⟨⟨dq, osq⟩, hw''⟩ := hw'
                    subst hw''
                    go_wp2
                    go_roundw
                    case rel => exact ⟨j + 1, by omega, by omega, by go_num, below_sub (unhide HBJ) (below_regrown _ _ _)⟩
                    case measure => simp [intOf]; omega
                  · clear htr
                    go_wp2
                    refine wp_region_quiet_below (by assumption) (by kernel_rfl) ?_
                    repeat (go_big_quiet_step (first | (go_at_fn 10; refine Calls.regrown_of (compareB _ _ _))))
                    refine wpQuiet_nil ?_
                    intro _ hw'
                    obtain ⟨⟨dq, osq⟩, hw''⟩ := hw'
                    subst hw''
                    go_wp2
                    go_roundw
                    case rel => exact ⟨j + 1, by omega, by omega, by go_num, below_sub (unhide HBJ) (below_regrown _ _ _)⟩
                    case measure => simp [intOf]; omega
                  · exact absurd (htr (by omega)) (by omega)
                · clear htr
                  go_wp2
                  refine wp_region_quiet_below (by assumption) (by kernel_rfl) ?_
                  repeat (go_big_quiet_step (first | (go_at_fn 10; refine Calls.regrown_of (compareB _ _ _))))
                  refine wpQuiet_nil ?_
                  intro _ hw'
                  obtain ⟨⟨dq, osq⟩, hw''⟩ := hw'
                  subst hw''
                  go_wp2
                  go_roundw
                  case rel => exact ⟨j + 1, by omega, by omega, by go_num, below_sub (unhide HBJ) (below_regrown _ _ _)⟩
                  case measure => simp [intOf]; omega
              · by_cases hj1 : j < a.length
                · have f1 : (j : Int) < (a.length : Int) := by omega
                  have f2 : ¬ (j : Int) < 8 := by omega
                  clear hbel
                  go_wp2
                  go_roundw
                  case rel => exact ⟨k + 1, by omega, by omega, by go_num, unhide HBJ⟩
                  case measure => simp [intOf]; omega
                · have f1 : ¬ (j : Int) < (a.length : Int) := by omega
                  clear hbel
                  go_wp2
                  go_roundw
                  case rel => exact ⟨k + 1, by omega, by omega, by go_num, unhide HBJ⟩
                  case measure => simp [intOf]; omega
          · have hc2 : cmpK y x = -1 := by have := isCmp_key.neg x y; omega
            have heq : ∀ W, (binOp .eql 25 (.agg #[.string x.attr, .int .i64 x.kind, .int .i64 x.level, .int .i64 x.num, .string x.word]) (.agg #[.string y.attr, .int .i64 y.kind, .int .i64 y.level, .int .i64 y.num, .string y.word])).run Tryz.prog W = .ok (.bool false) W := fun W => by rw [eqlP, show decide (x = y) = false from decide_eq_false (fun e => by have := (cmp_zero x y).2 e; omega)]
            have x0 := re_cell (hbel) hba xc0
            have x1 := re_cell (hbel) hba xc1
            have x2 := re_cell (hbel) hba xc2
            have x3 := re_cell (hbel) hba xc3
            have x4 := re_cell (hbel) hba xc4
            have y0 := re_cell (hbel) hba yc0
            have y1 := re_cell (hbel) hba yc1
            have y2 := re_cell (hbel) hba yc2
            have y3 := re_cell (hbel) hba yc3
            have y4 := re_cell (hbel) hba yc4
            clear hbel
            go_wp2
            refine wp_region_quiet_below (by assumption) (by kernel_rfl) ?_
            repeat (go_big_quiet_step (first | (go_at_fn 10; refine Calls.regrown_of (compareB _ _ _))))
            refine wpQuiet_nil ?_
            intro _ hw'
            obtain ⟨⟨dq, osq⟩, hw''⟩ := hw'
            subst hw''
            clear x0 x1 x2 x3 x4 y0 y1 y2 y3 y4
            have B2 := hide (below_sub (unhide HBK) (below_regrown wr dq osq))
            generalize grow (redrawn wr dq) osq = V2 at B2 ⊢
            have x0 := re_cell (unhide B2) hba xc0
            have x1 := re_cell (unhide B2) hba xc1
            have x2 := re_cell (unhide B2) hba xc2
            have x3 := re_cell (unhide B2) hba xc3
            have x4 := re_cell (unhide B2) hba xc4
            have y0 := re_cell (unhide B2) hba yc0
            have y1 := re_cell (unhide B2) hba yc1
            have y2 := re_cell (unhide B2) hba yc2
            have y3 := re_cell (unhide B2) hba yc3
            have y4 := re_cell (unhide B2) hba yc4
            go_wp2
            refine wp_region_quiet_below (by assumption) (by kernel_rfl) ?_
            repeat (go_big_quiet_step (first | (go_at_fn 10; refine Calls.regrown_of (compareB _ _ _))))
            refine wpQuiet_nil ?_
            intro _ hw'
            obtain ⟨⟨dq, osq⟩, hw''⟩ := hw'
            subst hw''
            clear x0 x1 x2 x3 x4 y0 y1 y2 y3 y4
            have B3 := hide (below_sub (unhide B2) (below_regrown V2 dq osq))
            generalize grow (redrawn V2 dq) osq = V3 at B3 ⊢
            clear heq
            go_wp2
            go_loopw [8] (fun jv wr => ∃ j : Nat, j ≤ a.length ∧ j ≤ 8 ∧ jv = .int .i64 j ∧ Below w.heap.size w wr) (fun jv _ => 8 - (intOf jv).toNat)
            case atStart => exact ⟨0, by omega, by omega, rfl, unhide B3⟩
            case round =>
              obtain ⟨j, hj, hj8, rfl, hbel⟩ := hrel
              have HBJ := hide hbel
              by_cases hlt : j < a.length ∧ j < 8
              · obtain ⟨hj1, hj2⟩ := hlt
                have f1 : (j : Int) < (a.length : Int) := by omega
                have f2 : (j : Int) < 8 := by omega
                have f0 : (0 : Int) ≤ (j : Int) := by omega
                obtain ⟨z, hz, _⟩ := get_at hj1
                obtain ⟨bz, oz, hqz, _, zc0, zc1, zc2, zc3, zc4⟩ := postAt (unhide HA) hz
                obtain ⟨rfl, rfl⟩ : ba = bz ∧ oa = oz := by injection hqz with hqz; injection hqz with h1 h2; exact ⟨h1, h2⟩
                have x0 := re_cell (hbel) hba xc0
                have x1 := re_cell (hbel) hba xc1
                have x2 := re_cell (hbel) hba xc2
                have x3 := re_cell (hbel) hba xc3
                have x4 := re_cell (hbel) hba xc4
                have y0 := re_cell (hbel) hba yc0
                have y1 := re_cell (hbel) hba yc1
                have y2 := re_cell (hbel) hba yc2
                have y3 := re_cell (hbel) hba yc3
                have y4 := re_cell (hbel) hba yc4
                have z0 := re_cell (hbel) hba zc0
                have z1 := re_cell (hbel) hba zc1
                have z2 := re_cell (hbel) hba zc2
                have z3 := re_cell (hbel) hba zc3
                have z4 := re_cell (hbel) hba zc4
                clear zc0 zc1 zc2 zc3 zc4 hz hqz hbel
                go_wp2
                refine wp_region_quiet_below (by assumption) (by kernel_rfl) ?_
                repeat (go_big_quiet_step (first | (go_at_fn 10; refine Calls.regrown_of (compareB _ _ _))))
                refine wpQuiet_nil ?_
                intro _ hw'
                obtain ⟨⟨dq, osq⟩, hw''⟩ := hw'
                subst hw''
                go_wp2
                go_roundw
                case rel => exact ⟨j + 1, by omega, by omega, by go_num, below_sub (unhide HBJ) (below_regrown _ _ _)⟩
                case measure => simp [intOf]; omega
              · by_cases hj1 : j < a.length
                · have f1 : (j : Int) < (a.length : Int) := by omega
                  have f2 : ¬ (j : Int) < 8 := by omega
                  clear hbel
                  go_wp2
                  go_roundw
                  case rel => exact ⟨k + 1, by omega, by omega, by go_num, unhide HBJ⟩
                  case measure => simp [intOf]; omega
                · have f1 : ¬ (j : Int) < (a.length : Int) := by omega
                  clear hbel
                  go_wp2
                  go_roundw
                  case rel => exact ⟨k + 1, by omega, by omega, by go_num, unhide HBJ⟩
                  case measure => simp [intOf]; omega
        · by_cases hk1 : k < a.length
          · have d1 : (k : Int) < (a.length : Int) := by omega
            have d2 : ¬ (k : Int) < 8 := by omega
            go_wp2
            go_roundw
            case rel => exact ⟨i + 1, by omega, by omega, by go_num, hbel⟩
            case measure => simp [intOf]; omega
          · have d1 : ¬ (k : Int) < (a.length : Int) := by omega
            go_wp2
            go_roundw
            case rel => exact ⟨i + 1, by omega, by omega, by go_num, hbel⟩
            case measure => simp [intOf]; omega
    · by_cases hk1 : i < a.length
      · have d1 : (i : Int) < (a.length : Int) := by omega
        have d2 : ¬ (i : Int) < 8 := by omega
        have hS1 := fun (W : World) (hW : Below w.heap.size w W) => sharedK qa ca a qb cb b W ((unhide HA).below hW) ((unhide HBB).below hW) la lb
        have hS2 := fun (W : World) (hW : Below w.heap.size w W) => sharedK qb cb b qa ca a W ((unhide HBB).below hW) ((unhide HA).below hW) lb la
        have hsl : (shared a b).length * 56 ≤ 140737488355328 := Nat.le_trans (Nat.mul_le_mul_right 56 (shared_len a b)) la
        have hS3 := fun (q : Option Addr) (c : Nat) (W : World) (hW : Below w.heap.size w W) (hs : SlOf encK 5 W q c (shared a b)) => sharedK q c (shared a b) qa ca a W hs ((unhide HA).below hW) hsl la
        have hS4 := fun (q : Option Addr) (c : Nat) (W : World) (hW : Below w.heap.size w W) (hs : SlOf encK 5 W q c (shared a b)) => sharedK qb cb b q c (shared a b) W ((unhide HBB).below hW) hs lb hsl
        rw [shared_comm b a] at hS2
        simp only [shared_left, shared_right] at hS3 hS4
        obtain ⟨S, hS⟩ : ∃ S, shared a b = S := ⟨_, rfl⟩
        rw [hS] at hS1 hS2 hS3 hS4 hsl
        have hM := fun (q : Option Addr) (c : Nat) (q' : Option Addr) (c' : Nat) (W : World) (h1 : SlOf encK 5 W q c S) (h2 : SlOf encK 5 W q' c' S) => sameP q c S q' c' S W h1 h2 (by omega)
        simp only [decide_true] at hM
        have HBX := hide hbel
        clear hS hbel ha
        go_wp2_with (first
          | (go_at_call 9; have mk := B8; refine (hM q8 k8 q3 k3 _ (unhide O8).ls (((unhide O3).below (unhide C8)).ls)).mono ?_; rintro e w9 ⟨rfl, b9⟩; have B9 := hide (below_sub (unhide B8) b9); clear b9 mk)
          | (go_at_call 6; have mk := B7; refine (hS4 q3 k3 _ (unhide B7) (((unhide O3).below (unhide C7)).ls)).mono ?_; rintro e w8 ⟨⟨q8, k8, rfl, o8⟩, b8⟩; have O8 := hide o8; have B8 := hide (below_sub (unhide B7) b8); have C8 := hide (below_sub (unhide C7) b8); clear o8 b8 mk)
          | (go_at_call 9; have mk := B6; refine (hM q6 k6 q3 k3 _ (unhide O6).ls (((unhide O3).below (unhide C6)).ls)).mono ?_; rintro e w7 ⟨rfl, b7⟩; have B7 := hide (below_sub (unhide B6) b7); have C7 := hide (below_sub (unhide C6) b7); clear b7 mk)
          | (go_at_call 6; have mk := B5; refine (hS3 q3 k3 _ (unhide B5) (((unhide O3).below (unhide C5)).ls)).mono ?_; rintro e w6 ⟨⟨q6, k6, rfl, o6⟩, b6⟩; have O6 := hide o6; have B6 := hide (below_sub (unhide B5) b6); have C6 := hide (below_sub (unhide C5) b6); clear o6 b6 mk)
          | (go_at_call 9; refine (hM q3 k3 q4 k4 _ (((unhide O3).below (unhide C4)).ls) (unhide O4).ls).mono ?_; rintro e w5 ⟨rfl, b5⟩; have B5 := hide (below_sub (unhide B4) b5); have C5 := hide (below_sub (unhide C4) b5); clear b5)
          | (go_at_call 6; have mk := B3; refine (hS2 _ (unhide B3)).mono ?_; rintro e w4 ⟨⟨q4, k4, rfl, o4⟩, b4⟩; have O4 := hide o4; have B4 := hide (below_sub (unhide B3) b4); have C4 := hide b4; clear o4 b4 mk)
          | (go_at_call 6; refine (hS1 _ (unhide HBX)).mono ?_; rintro e w3 ⟨⟨q3, k3, rfl, o3⟩, b3⟩; have O3 := hide o3; have B3 := hide (below_sub (unhide HBX) b3); clear o3 b3))
        go_ret
        exact ⟨ret_bool (by simp), unhide B9⟩
      · have d1 : ¬ (i : Int) < (a.length : Int) := by omega
        have hS1 := fun (W : World) (hW : Below w.heap.size w W) => sharedK qa ca a qb cb b W ((unhide HA).below hW) ((unhide HBB).below hW) la lb
        have hS2 := fun (W : World) (hW : Below w.heap.size w W) => sharedK qb cb b qa ca a W ((unhide HBB).below hW) ((unhide HA).below hW) lb la
        have hsl : (shared a b).length * 56 ≤ 140737488355328 := Nat.le_trans (Nat.mul_le_mul_right 56 (shared_len a b)) la
        have hS3 := fun (q : Option Addr) (c : Nat) (W : World) (hW : Below w.heap.size w W) (hs : SlOf encK 5 W q c (shared a b)) => sharedK q c (shared a b) qa ca a W hs ((unhide HA).below hW) hsl la
        have hS4 := fun (q : Option Addr) (c : Nat) (W : World) (hW : Below w.heap.size w W) (hs : SlOf encK 5 W q c (shared a b)) => sharedK qb cb b q c (shared a b) W ((unhide HBB).below hW) hs lb hsl
        rw [shared_comm b a] at hS2
        simp only [shared_left, shared_right] at hS3 hS4
        obtain ⟨S, hS⟩ : ∃ S, shared a b = S := ⟨_, rfl⟩
        rw [hS] at hS1 hS2 hS3 hS4 hsl
        have hM := fun (q : Option Addr) (c : Nat) (q' : Option Addr) (c' : Nat) (W : World) (h1 : SlOf encK 5 W q c S) (h2 : SlOf encK 5 W q' c' S) => sameP q c S q' c' S W h1 h2 (by omega)
        simp only [decide_true] at hM
        have HBX := hide hbel
        clear hS hbel ha
        go_wp2_with (first
          | (go_at_call 9; have mk := B8; refine (hM q8 k8 q3 k3 _ (unhide O8).ls (((unhide O3).below (unhide C8)).ls)).mono ?_; rintro e w9 ⟨rfl, b9⟩; have B9 := hide (below_sub (unhide B8) b9); clear b9 mk)
          | (go_at_call 6; have mk := B7; refine (hS4 q3 k3 _ (unhide B7) (((unhide O3).below (unhide C7)).ls)).mono ?_; rintro e w8 ⟨⟨q8, k8, rfl, o8⟩, b8⟩; have O8 := hide o8; have B8 := hide (below_sub (unhide B7) b8); have C8 := hide (below_sub (unhide C7) b8); clear o8 b8 mk)
          | (go_at_call 9; have mk := B6; refine (hM q6 k6 q3 k3 _ (unhide O6).ls (((unhide O3).below (unhide C6)).ls)).mono ?_; rintro e w7 ⟨rfl, b7⟩; have B7 := hide (below_sub (unhide B6) b7); have C7 := hide (below_sub (unhide C6) b7); clear b7 mk)
          | (go_at_call 6; have mk := B5; refine (hS3 q3 k3 _ (unhide B5) (((unhide O3).below (unhide C5)).ls)).mono ?_; rintro e w6 ⟨⟨q6, k6, rfl, o6⟩, b6⟩; have O6 := hide o6; have B6 := hide (below_sub (unhide B5) b6); have C6 := hide (below_sub (unhide C5) b6); clear o6 b6 mk)
          | (go_at_call 9; refine (hM q3 k3 q4 k4 _ (((unhide O3).below (unhide C4)).ls) (unhide O4).ls).mono ?_; rintro e w5 ⟨rfl, b5⟩; have B5 := hide (below_sub (unhide B4) b5); have C5 := hide (below_sub (unhide C4) b5); clear b5)
          | (go_at_call 6; have mk := B3; refine (hS2 _ (unhide B3)).mono ?_; rintro e w4 ⟨⟨q4, k4, rfl, o4⟩, b4⟩; have O4 := hide o4; have B4 := hide (below_sub (unhide B3) b4); have C4 := hide b4; clear o4 b4 mk)
          | (go_at_call 6; refine (hS1 _ (unhide HBX)).mono ?_; rintro e w3 ⟨⟨q3, k3, rfl, o3⟩, b3⟩; have O3 := hide o3; have B3 := hide (below_sub (unhide HBX) b3); clear o3 b3))
        go_ret
        exact ⟨ret_bool (by simp), unhide B9⟩
end Go.Proofs.YtmgdhdekhaohhaaGreatDoor
