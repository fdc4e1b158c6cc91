/- '==' of posts; lists of posts held against one another; stores into rows of posts. -/
import Derived.Test.YtelgpmjafaopmaaCmp
import Derived.Lib.SliceRun
namespace Go.Proofs.Ytelgpmjafaopmaa
open Go.RowKit Go.Sort Go.Shelf

theorem eqlP (x y : Pt) (w : World) : (binOp .eql 43 (.agg #[.int .i64 x.1, .bool x.2]) (.agg #[.int .i64 y.1, .bool y.2])).run Try.prog w = .ok (.bool (decide (x = y))) w := by
  have u3 := Try.underlying3
  have a3 := Try.isAgg3
  have z3 := Try.sizeOf3
  have u4 := Try.underlying4
  have a4 := Try.isAgg4
  have z4 := Try.sizeOf4
  have hS : Try.prog.underlying 43 = some (.struct (Try.prog.fieldsOf 43)) := by kernel_rfl
  have hp : Try.prog.stoodInHeld 43 = false := by kernel_rfl
  rw [run_eql_struct, show (10000 : Nat) = 9999 + 1 from rfl, run_equalIn_agg w 9999 43 _ _ hS hp]
  simp only [Program.fieldsOf, Try.underlying43]
  go_simp
  obtain ⟨x1, x2⟩ := x
  obtain ⟨y1, y2⟩ := y
  by_cases h1 : x1 = y1 <;> by_cases h2 : x2 = y2 <;> simp [h1, h2]
theorem neqP (x y : Pt) (w : World) : (binOp .neq 43 (.agg #[.int .i64 x.1, .bool x.2]) (.agg #[.int .i64 y.1, .bool y.2])).run Try.prog w = .ok (.bool (!decide (x = y))) w := by
  have u3 := Try.underlying3
  have a3 := Try.isAgg3
  have z3 := Try.sizeOf3
  have u4 := Try.underlying4
  have a4 := Try.isAgg4
  have z4 := Try.sizeOf4
  have hS : Try.prog.underlying 43 = some (.struct (Try.prog.fieldsOf 43)) := by kernel_rfl
  have hp : Try.prog.stoodInHeld 43 = false := by kernel_rfl
  rw [run_neq_struct, show (10000 : Nat) = 9999 + 1 from rfl, run_equalIn_agg w 9999 43 _ _ hS hp]
  simp only [Program.fieldsOf, Try.underlying43]
  go_simp
  obtain ⟨x1, x2⟩ := x
  obtain ⟨y1, y2⟩ := y
  by_cases h1 : x1 = y1 <;> by_cases h2 : x2 = y2 <;> simp [h1, h2]
theorem pre_snoc {α : Type} {l m : List α} {k : Nat} {x : α} (h : l.take k = m.take k) (hx : l[k]? = some x) (hy : m[k]? = some x) : l.take (k + 1) = m.take (k + 1) := by
  rw [take_snoc_of hx, take_snoc_of hy, h]
theorem pre_ne {α : Type} {l m : List α} {k : Nat} {x y : α} (hx : l[k]? = some x) (hy : m[k]? = some y) (h : x ≠ y) : l ≠ m := fun e => by subst e; rw [hx] at hy; cases hy; exact h rfl
set_option maxHeartbeats 1000000 in
set_option maxRecDepth 100000 in
/-- same: the same posts? -/
theorem sameP (q : Option Addr) (c : Nat) (l : List Pt) (q' : Option Addr) (c' : Nat) (m : List Pt) (w : World) (h1 : SlOf encP 2 w q c l) (h2 : SlOf encP 2 w q' c' m) (hl : l.length ≤ 100000000000000) :
    Calls Try.prog 12 #[.slice q l.length c, .slice q' m.length c'] w fun e w' => e = .returned (.bool (decide (l = m))) ∧ Below w.heap.size w w' := by
  by_cases hlm : l.length = m.length
  · rw [← hlm]
    have H1 := hide h1
    have H2 := hide h2
    have hnn : ((l.length : Int) != (l.length : Int)) = false := by simp
    have a0 : (l.length : Int) ≤ 100000000000000 := by omega
    have HLM := hide hlm
    clear h1 h2 hlm
    go_enter Try.func12, Try.ntmps12
    go_wp2
    go_loopw [13] (fun i wr => ∃ k : Nat, k ≤ l.length ∧ i = .int .i64 k ∧ l.take k = m.take k ∧ Below w.heap.size w wr) (fun i _ => l.length - (intOf i).toNat)
    case atStart => exact ⟨0, by omega, rfl, rfl, Below.refl _ _⟩
    case round =>
      obtain ⟨k, hk, rfl, hpre, hbel⟩ := hrel
      have HB := hide hbel
      have HP := hide hpre
      by_cases hlt : k < l.length
      · obtain ⟨x, hx, _⟩ := get_at hlt
        obtain ⟨y, hy, _⟩ := get_at (l := m) (k := k) (by have := unhide HLM; omega)
        obtain ⟨b, off, hq, _, g1, g1'⟩ := postAt ((unhide H1).below hbel) hx
        obtain ⟨b', off', hq', _, g2, g2'⟩ := postAt ((unhide H2).below hbel) hy
        subst hq
        subst hq'
        have ki0 : (0 : Int) ≤ (k : Int) := by omega
        have ki1 : (k : Int) < (l.length : Int) := by omega
        have hne := fun W => neqP x y W
        by_cases hxy : x = y
        · have HN := hide (pre_snoc hpre hx (by rw [hxy]; exact hy))
          rw [show decide (x = y) = true from decide_eq_true hxy] at hne
          clear hx hy hbel hpre hxy
          go_wp2
          go_region_held3 (fun w' => (w'.cell? ⟨b, off + k * 2, none⟩ = some (.int .i64 x.1) ∧ w'.cell? ⟨b, off + k * 2 + 1, none⟩ = some (.bool x.2)) ∧ w'.cell? ⟨b', off' + k * 2, none⟩ = some (.int .i64 y.1) ∧ w'.cell? ⟨b', off' + k * 2 + 1, none⟩ = some (.bool y.2)) (go_keep) (fail)
          all_goals
            go_wp2
            go_roundw
            case rel => exact ⟨k + 1, by omega, by go_num, unhide HN, (unhide HB).drew⟩
            case measure => simp [intOf]; omega
        · have HN := hide (pre_ne hx hy hxy)
          rw [show decide (x = y) = false from decide_eq_false hxy] at hne
          clear hx hy hbel hpre hxy
          go_wp2
          go_region_held3 (fun w' => (w'.cell? ⟨b, off + k * 2, none⟩ = some (.int .i64 x.1) ∧ w'.cell? ⟨b, off + k * 2 + 1, none⟩ = some (.bool x.2)) ∧ w'.cell? ⟨b', off' + k * 2, none⟩ = some (.int .i64 y.1) ∧ w'.cell? ⟨b', off' + k * 2 + 1, none⟩ = some (.bool y.2)) (go_keep) (fail)
          all_goals
            go_wp2
            go_ret
            exact ⟨ret_bool (by simp [unhide HN]), (unhide HB).drew⟩
      · have ki1 : ¬ (k : Int) < (l.length : Int) := by omega
        have HN := hide (show l = m by rw [← List.take_of_length_le (l := l) (i := k) (by omega), hpre, List.take_of_length_le (by have := unhide HLM; omega)])
        clear hpre
        go_wp2
        go_ret
        exact ⟨ret_bool (by simp [unhide HN]), unhide HB⟩
  · have hnn : ((l.length : Int) != (m.length : Int)) = true := by rw [bne_iff_ne]; omega
    have HN := hide (show l ≠ m from fun e => hlm (by rw [e]))
    clear h1 h2
    go_enter Try.func12, Try.ntmps12
    go_wp2
    go_ret
    exact ⟨ret_bool (by simp [unhide HN]), Below.refl _ _⟩
end Go.Proofs.Ytelgpmjafaopmaa
