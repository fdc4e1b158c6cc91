/- The calls whose answers the document fixes: they are answered so. -/
import Derived.Test.YtjclojeihjgnkaaDoorCommon
namespace Go.Proofs.YtjclojeihjgnkaaDoor
open Go.RowKit

/-- '==' of two spans. -/
theorem eqlS (a b c d : Int) (w : World) : (binOp .eql 23 (.agg #[.int .i64 a, .int .i64 b]) (.agg #[.int .i64 c, .int .i64 d])).run Tryd.prog w = .ok (.bool (decide (a = c ∧ b = d))) w := by
  have u3 := Tryd.underlying3
  have a3 := Tryd.isAgg3
  have z3 := Tryd.sizeOf3
  have hS : Tryd.prog.underlying 23 = some (.struct (Tryd.prog.fieldsOf 23)) := by kernel_rfl
  have hp : Tryd.prog.stoodInHeld 23 = false := by kernel_rfl
  rw [run_eql_struct, show (10000 : Nat) = 9999 + 1 from rfl, run_equalIn_agg w 9999 23 _ _ hS hp]
  simp only [Program.fieldsOf, Tryd.underlying23]
  go_simp
  by_cases h1 : a = c <;> by_cases h2 : b = d <;> simp [h1, h2]

theorem cover16 : coverZ 1 6 = [(0, 2147483649), (1, 1073741825), (1, 1073741826), (0, 2147483654)] := by decide +kernel
theorem com01 : comZ [0, 1] = some (1, 1073741824) := by decide +kernel

theorem ok_c : okN 1 1073741824 := ⟨31, by decide, by decide⟩
theorem ok_5 : okN 0 5 := ⟨32, by decide, by decide⟩
theorem ok_3 : okN 3 268435456 := ⟨29, by decide, by decide⟩
theorem not_33 : ¬ okS 33 0 := by
  rintro ⟨l, i, hl, _, k, hk, _⟩
  omega
theorem below_al {w w1 : World} {o : Obj} (hb : Below (w.alloc o).heap.size (w.alloc o) w1) : Below w.heap.size w w1 := ((Below.refl _ _).alloc (Nat.le_refl _) _).trans (hb.mono (by simp))
theorem ls01 (w : World) : LsOf encI 1 (w.alloc (.cells #[.int .i64 0, .int .i64 1] 3)) (some ⟨w.heap.size, 0, none⟩) [0, 1] := fun _ =>
  ⟨w.heap.size, 0, rfl, by simp, fun j u hj => by
    have hs := (List.getElem?_eq_some_iff.1 hj).1
    simp at hs
    have hm : j = 0 ∨ j = 1 := by omega
    rcases hm with e | e
    · subst e
      have h2 := flat_at (enc := encI) (k := 1) (l := [0, 1]) (j := 0) (x := 0) rfl 0 (by omega)
      have h3 := hj.symm.trans h2
      injection h3 with h3
      rw [h3]
      simp [encI]
    · subst e
      have h2 := flat_at (enc := encI) (k := 1) (l := [0, 1]) (j := 1) (x := 1) rfl 0 (by omega)
      have h3 := hj.symm.trans h2
      injection h3 with h3
      rw [h3]
      simp [encI]⟩

set_option maxHeartbeats 1000000 in
theorem fixed_any (w : World) (hG : G w) : Calls Tryd.prog 9 #[] w fun e w' => e = .returned (.bool true) ∧ Below w.heap.size w w' := by
  have hcov : ∀ w, G w → Calls Tryd.prog 22 #[.int .i64 1, .int .i64 6] w fun e w' => ∃ q cap, e = .returned (.slice q 4 cap) ∧ OwnK encP 23 2 w.heap.size w' q cap [(0, 2147483649), (1, 1073741825), (1, 1073741826), (0, 2147483654)] ∧ Below w.heap.size w w' := by
    have h := cover_any 1 6
    rw [cover16] at h
    exact h
  have hpath := path_any 0 2147483648 (by decide) (by decide)
  have hcom : ∀ (w : World), Calls Tryd.prog 19 #[.slice (some ⟨w.heap.size, 0, none⟩) 2 2] (w.alloc (.cells #[.int .i64 0, .int .i64 1] 3)) fun e w' => e = .returned (.tuple #[.agg #[.int .i64 1, .int .i64 1073741824], .bool true]) ∧ Below w.heap.size w w' := fun w => by
    have h := com_any 0 [1] (some ⟨w.heap.size, 0, none⟩) 2 _ (by decide) (ls01 w)
    rw [com01] at h
    exact h.mono fun e w' ⟨he, hb⟩ => ⟨he, below_al hb⟩
  have hpar : ∀ w, Calls Tryd.prog 12 #[.agg #[.int .i64 0, .int .i64 5]] w fun e w' => e = .returned (.tuple #[.agg #[.int .i64 1, .int .i64 2], .bool true]) ∧ Below w.heap.size w w' := parent_good 0 5 ok_5 (by decide)
  have hbou : ∀ w, Calls Tryd.prog 10 #[.agg #[.int .i64 3, .int .i64 268435456]] w fun e w' => e = .returned (.tuple #[.int .i64 0, .int .i64 7]) ∧ Below w.heap.size w w' := by
    have h := bounds_good 3 268435456 ok_3
    rw [show loS 3 268435456 = 0 by decide, show hiS 3 268435456 = 7 by decide] at h
    exact h
  have hhas : ∀ w, Calls Tryd.prog 16 #[.agg #[.int .i64 1, .int .i64 1073741824], .int .i64 1] w fun e w' => e = .returned (.bool true) ∧ Below w.heap.size w w' := by
    have h := has_good 1 1073741824 ok_c 1
    rw [show (decide (loS 1 1073741824 ≤ 1) && decide (1 ≤ hiS 1 1073741824)) = true by decide] at h
    exact h
  have hchk : ∀ w, Calls Tryd.prog 14 #[.agg #[.int .i64 1, .int .i64 1073741824]] w fun e w' => e = .returned (.int .i64 0) ∧ Below w.heap.size w w' := check_good 1 1073741824 ok_c
  have hchb : ∀ w, Calls Tryd.prog 14 #[.agg #[.int .i64 33, .int .i64 0]] w fun e w' => e = .returned (.int .i64 1) ∧ Below w.heap.size w w' := check_bad 33 0 not_33 (by omega) (by omega)
  have HG := hide hG
  clear hG
  have q1e := eqlS 1 1073741825 1 1073741825
  have q2e := eqlS 1 2 1 2
  go_enter Tryd.func9, Tryd.ntmps9
  go_wp2_with (first
    | (go_at_call 22; refine (hcov _ (unhide HG)).mono ?_; rintro e w1 ⟨q1, c1, rfl, o1, b1⟩; obtain ⟨bb, off, rfl, hbb, hcc⟩ := LsOf.at (o1.ls).2.2.2 (j := 1) (x := (1, 1073741825)) rfl; have O1 := hide (And.intro hbb (cells2 hcc)); have B1 := hide b1; clear o1 b1 hbb hcc)
    | (go_at_call 23; refine (hpath _).mono ?_; rintro e w2 ⟨rfl, o2, b2⟩; have O2 := hide o2; have B2 := hide b2; clear o2 b2)
    | (go_at_call 19; refine (hcom _).mono ?_; rintro e w3 ⟨rfl, b3⟩; have B3 := hide b3; clear b3)
    | (go_at_call 12; refine (hpar _).mono ?_; rintro e w4 ⟨rfl, b4⟩; have B4 := hide (box_cells b4); clear b4)
    | (go_at_call 10; refine (hbou _).mono ?_; rintro e w5 ⟨rfl, b5⟩; obtain ⟨u0, u1, b45, s45⟩ := box_cells b5; obtain ⟨v0, v1, b34, s34⟩ := unhide B4; have v0' := (b45.cell (p := ⟨w3.heap.size, 0, none⟩) (by exact s34)).trans v0; have v1' := (b45.cell (p := ⟨w3.heap.size, 1, none⟩) (by exact s34)).trans v1; have b25 := below_sub (unhide B3) (below_sub b34 b45); have b15 := below_sub (unhide B2) b25; obtain ⟨k0, k1⟩ := (unhide O1).2; have k0' : w5.cell? ⟨bb, off + 2, none⟩ = some (.int .i64 1) := ((b15.cell (p := ⟨bb, off + 2, none⟩) (unhide O1).1).trans k0); have k1' : w5.cell? ⟨bb, off + 2 + 1, none⟩ = some (.int .i64 1073741825) := ((b15.cell (p := ⟨bb, off + 2 + 1, none⟩) (unhide O1).1).trans k1); have pp : w5.cell? ⟨w1.heap.size, 64, none⟩ = some (.int .i64 32) := (((unhide O2).below b25).1 32 (by omega)).1; have B5 := hide (And.intro (below_sub (unhide B1) b15) s34); have B45 := hide b45; clear b5 b25 b15 k0 k1 v0 v1 b34 b45)
    | (go_at_call 16; refine (hhas _).mono ?_; rintro e w6 ⟨rfl, b6⟩; have hs : w3.heap.size < w5.heap.size := (Nat.lt_of_lt_of_le (unhide B5).2 (unhide B45).size); have v0'' := (b6.cell (p := ⟨w3.heap.size, 0, none⟩) (by exact hs)).trans v0'; have v1'' := (b6.cell (p := ⟨w3.heap.size, 1, none⟩) (by exact hs)).trans v1'; have B6 := hide (below_sub (unhide B5).1 b6); clear b6 hs)
    | (go_at_call 14; with_reducible refine (hchk _).mono ?_; rintro e w7 ⟨rfl, b7⟩; have B7 := hide (below_sub (unhide B6) b7); clear b7)
    | (go_at_call 14; with_reducible refine (hchb _).mono ?_; rintro e w8 ⟨rfl, b8⟩; have B8 := hide (below_sub (unhide B7) b8); clear b8))
  go_ret
  exact ⟨rfl, unhide B8⟩
end Go.Proofs.YtjclojeihjgnkaaDoor
