/- '==' of posts; lists of posts held against one another; stores into rows of posts. -/
import Derived.Test.YtedakipjfpdajaaGreatDoorZaa
import Derived.Lib.SliceRun
namespace Go.Proofs.YtedakipjfpdajaaGreatDoor
open Go.RowKit Go.Sort Go.Shelf

theorem key_eq (x y : Ky) : decide (x = y) = (decide (x.attr.toList = y.attr.toList) && (decide (x.kind = y.kind) && (decide (x.level = y.level) && (decide (x.num = y.num) && decide (x.word.toList = y.word.toList))))) := by
  by_cases h : x = y
  · subst h; simp
  · rw [decide_eq_false h]
    symm
    rw [Bool.eq_false_iff]
    intro hh
    simp only [Bool.and_eq_true, decide_eq_true_eq, ByteArray.toList_eq] at hh
    exact h (kParts_inj.1 (by simp only [kParts, Prod.mk.injEq]; exact hh))
theorem eqlP (x y : Ky) (w : World) : (binOp .eql 46 (.agg #[.string x.attr, .int .i64 x.kind, .int .i64 x.level, .int .i64 x.num, .string x.word]) (.agg #[.string y.attr, .int .i64 y.kind, .int .i64 y.level, .int .i64 y.num, .string y.word])).run Tryz.prog w = .ok (.bool (decide (x = y))) w := by
  have u3 := Tryz.underlying3
  have a3 := Tryz.isAgg3
  have z3 := Tryz.sizeOf3
  have u9 := Tryz.underlying9
  have a9 := Tryz.isAgg9
  have z9 := Tryz.sizeOf9
  have hS : Tryz.prog.underlying 46 = some (.struct (Tryz.prog.fieldsOf 46)) := by kernel_rfl
  have hp : Tryz.prog.stoodInHeld 46 = false := by kernel_rfl
  rw [run_eql_struct, show (10000 : Nat) = 9999 + 1 from rfl, run_equalIn_agg w 9999 46 _ _ hS hp]
  simp only [Program.fieldsOf, Tryz.underlying46]
  go_simp
  rw [key_eq x y]
  by_cases h1 : x.attr.toList = y.attr.toList <;> by_cases h2 : x.kind = y.kind <;> by_cases h3 : x.level = y.level <;> by_cases h4 : x.num = y.num <;> by_cases h5 : x.word.toList = y.word.toList <;> simp [h1, h2, h3, h4, h5]
theorem neqP (x y : Ky) (w : World) : (binOp .neq 46 (.agg #[.string x.attr, .int .i64 x.kind, .int .i64 x.level, .int .i64 x.num, .string x.word]) (.agg #[.string y.attr, .int .i64 y.kind, .int .i64 y.level, .int .i64 y.num, .string y.word])).run Tryz.prog w = .ok (.bool (!decide (x = y))) w := by
  have u3 := Tryz.underlying3
  have a3 := Tryz.isAgg3
  have z3 := Tryz.sizeOf3
  have u9 := Tryz.underlying9
  have a9 := Tryz.isAgg9
  have z9 := Tryz.sizeOf9
  have hS : Tryz.prog.underlying 46 = some (.struct (Tryz.prog.fieldsOf 46)) := by kernel_rfl
  have hp : Tryz.prog.stoodInHeld 46 = false := by kernel_rfl
  rw [run_neq_struct, show (10000 : Nat) = 9999 + 1 from rfl, run_equalIn_agg w 9999 46 _ _ hS hp]
  simp only [Program.fieldsOf, Tryz.underlying46]
  go_simp
  rw [key_eq x y]
  by_cases h1 : x.attr.toList = y.attr.toList <;> by_cases h2 : x.kind = y.kind <;> by_cases h3 : x.level = y.level <;> by_cases h4 : x.num = y.num <;> by_cases h5 : x.word.toList = y.word.toList <;> simp [h1, h2, h3, h4, h5]
theorem pre_snoc {α : Type} {l m : List α} {k : Nat} {x : α} (h : l.take k = m.take k) (hx : l[k]? = some x) (hy : m[k]? = some x) : l.take (k + 1) = m.take (k + 1) := by
  rw [take_snoc_of hx, take_snoc_of hy, h]
theorem pre_ne {α : Type} {l m : List α} {k : Nat} {x y : α} (hx : l[k]? = some x) (hy : m[k]? = some y) (h : x ≠ y) : l ≠ m := fun e => by subst e; rw [hx] at hy; cases hy; exact h rfl
set_option maxHeartbeats 1000000 in
set_option maxRecDepth 100000 in
/-- same: the same posts? -/
theorem sameP (q : Option Addr) (c : Nat) (l : List Ky) (q' : Option Addr) (c' : Nat) (m : List Ky) (w : World) (h1 : SlOf encK 5 w q c l) (h2 : SlOf encK 5 w q' c' m) (hl : l.length ≤ 100000000000000) :
    Calls Tryz.prog 12 #[.slice q l.length c, .slice q' m.length c'] w fun e w' => e = .returned (.bool (decide (l = m))) ∧ Below w.heap.size w w' := by
  by_cases hlm : l.length = m.length
  · rw [← hlm]
    have H1 := hide h1
    have H2 := hide h2
    have hnn : ((l.length : Int) != (l.length : Int)) = false := by simp
    have a0 : (l.length : Int) ≤ 100000000000000 := by omega
    have HLM := hide hlm
    clear h1 h2 hlm
    go_enter Tryz.func12, Tryz.ntmps12
    go_wp2
    go_loopw [13] (fun i wr => ∃ k : Nat, k ≤ l.length ∧ i = .int .i64 k ∧ l.take k = m.take k ∧ Below w.heap.size w wr) (fun i _ => l.length - (intOf i).toNat)
    case atStart => exact ⟨0, by omega, rfl, rfl, Below.refl _ _⟩
    case round =>
      obtain ⟨k, hk, rfl, hpre, hbel⟩ := hrel
      have HB := hide hbel
      have HP := hide hpre
      by_cases hlt : k < l.length
      · obtain ⟨x, hx, _⟩ := get_at hlt
        obtain ⟨y, hy, _⟩ := get_at (l := m) (k := k) (by have := unhide HLM; omega)
        obtain ⟨b, off, hq, _, g0, g1, g2, g3, g4⟩ := postAt ((unhide H1).below hbel) hx
        obtain ⟨b', off', hq', _, k0, k1, k2, k3, k4⟩ := postAt ((unhide H2).below hbel) hy
        subst hq
        subst hq'
        have ki0 : (0 : Int) ≤ (k : Int) := by omega
        have ki1 : (k : Int) < (l.length : Int) := by omega
        have hne := fun W => neqP x y W
        by_cases hxy : x = y
        · have HN := hide (pre_snoc hpre hx (by rw [hxy]; exact hy))
          rw [show decide (x = y) = true from decide_eq_true hxy] at hne
          clear hx hy hbel hpre hxy
          go_wp2
          go_region_held3 (fun w' => (w'.cell? ⟨b, off + k * 5, none⟩ = some (.string x.attr) ∧ w'.cell? ⟨b, off + k * 5 + 1, none⟩ = some (.int .i64 x.kind) ∧ w'.cell? ⟨b, off + k * 5 + 2, none⟩ = some (.int .i64 x.level) ∧ w'.cell? ⟨b, off + k * 5 + 3, none⟩ = some (.int .i64 x.num) ∧ w'.cell? ⟨b, off + k * 5 + 4, none⟩ = some (.string x.word)) ∧ w'.cell? ⟨b', off' + k * 5, none⟩ = some (.string y.attr) ∧ w'.cell? ⟨b', off' + k * 5 + 1, none⟩ = some (.int .i64 y.kind) ∧ w'.cell? ⟨b', off' + k * 5 + 2, none⟩ = some (.int .i64 y.level) ∧ w'.cell? ⟨b', off' + k * 5 + 3, none⟩ = some (.int .i64 y.num) ∧ w'.cell? ⟨b', off' + k * 5 + 4, none⟩ = some (.string y.word)) (go_keep) (fail)
          all_goals
            go_wp2
            go_roundw
            case rel => exact ⟨k + 1, by omega, by go_num, unhide HN, (unhide HB).drew⟩
            case measure => simp [intOf]; omega
        · have HN := hide (pre_ne hx hy hxy)
          rw [show decide (x = y) = false from decide_eq_false hxy] at hne
          clear hx hy hbel hpre hxy
          go_wp2
          go_region_held3 (fun w' => (w'.cell? ⟨b, off + k * 5, none⟩ = some (.string x.attr) ∧ w'.cell? ⟨b, off + k * 5 + 1, none⟩ = some (.int .i64 x.kind) ∧ w'.cell? ⟨b, off + k * 5 + 2, none⟩ = some (.int .i64 x.level) ∧ w'.cell? ⟨b, off + k * 5 + 3, none⟩ = some (.int .i64 x.num) ∧ w'.cell? ⟨b, off + k * 5 + 4, none⟩ = some (.string x.word)) ∧ w'.cell? ⟨b', off' + k * 5, none⟩ = some (.string y.attr) ∧ w'.cell? ⟨b', off' + k * 5 + 1, none⟩ = some (.int .i64 y.kind) ∧ w'.cell? ⟨b', off' + k * 5 + 2, none⟩ = some (.int .i64 y.level) ∧ w'.cell? ⟨b', off' + k * 5 + 3, none⟩ = some (.int .i64 y.num) ∧ w'.cell? ⟨b', off' + k * 5 + 4, none⟩ = some (.string y.word)) (go_keep) (fail)
          all_goals
            go_wp2
            go_ret
            exact ⟨ret_bool (by simp [unhide HN]), (unhide HB).drew⟩
      · have ki1 : ¬ (k : Int) < (l.length : Int) := by omega
        have HN := hide (show l = m by rw [← List.take_of_length_le (l := l) (i := k) (by omega), hpre, List.take_of_length_le (by have := unhide HLM; omega)])
        clear hpre
        go_wp2
        go_ret
        exact ⟨ret_bool (by simp [unhide HN]), unhide HB⟩
  · have hnn : ((l.length : Int) != (m.length : Int)) = true := by rw [bne_iff_ne]; omega
    have HN := hide (show l ≠ m from fun e => hlm (by rw [e]))
    clear h1 h2
    go_enter Tryz.func12, Tryz.ntmps12
    go_wp2
    go_ret
    exact ⟨ret_bool (by simp [unhide HN]), Below.refl _ _⟩
end Go.Proofs.YtedakipjfpdajaaGreatDoor
