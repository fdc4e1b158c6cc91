/- The queue's calls: New, Put, Take; slices.Clone and slices.Delete beside them. -/
import Derived.Test.YtfenkiplofnolaaQ0
namespace Go.Proofs.Ytfenkiplofnolaa
open Go.RowKit Go.Sort

set_option maxHeartbeats 1000000 in
set_option maxRecDepth 100000 in
/-- slices.Clone. -/
theorem cloneI (p : Option Addr) (c : Nat) (zs : List Int) (hz : zs.length * 8 ≤ 140737488355328) (w : World) (hc : SlOf encI 1 w p c zs) :
    Calls Try.prog 33 #[.slice p zs.length c] w fun e w' => (∃ q cap, e = .returned (.slice q zs.length cap) ∧ OwnK encI 3 1 w.heap.size w' q cap zs) ∧ Below w.heap.size w w' := by
  have qn : ∀ (w : World) (a : Option Addr) (n c n' c' : Nat), (binOp .eql 30 (.slice a n c) (.slice none n' c')).run Try.prog w = .ok (.bool a.isNone) w := fun w a n c n' c' => Lib.run_eql_slice_nil w _ _ a n c n' c' Try.underlying30
  cases p with
  | none =>
    obtain ⟨h0, rfl⟩ := hc.1 rfl
    obtain rfl : zs = [] := List.length_eq_zero_iff.1 h0
    clear hc
    go_enter Try.func33, Try.ntmps33
    go_wp2
    go_ret
    exact ⟨⟨none, 0, rfl, OwnK.nil _ _⟩, Below.refl _ _⟩
  | some a =>
    have HS := hide hc
    clear hc
    go_enter Try.func33, Try.ntmps33
    go_wp2_with (at_builtin; refine wpList_app rowI rfl _ _ rfl w.heap.size (some ⟨w.heap.size, 0, none⟩) 0 [] (some a) c zs 0 zs.length zs.length rfl rfl (by simp) rfl rfl (OwnK.made _ _ (Nat.le_refl _)) ((unhide HS).below ((Below.refl _ _).alloc (Nat.le_refl _) _)).src (by unfold maxLen; omega) (by omega) (by simp) ?_; intro q8 cp8 w8 hown8 hb8 _ _; have Hown8 := hide hown8; have B8 := hide (((Below.refl w.heap.size w).alloc (Nat.le_refl _) (.cells #[] 3)).trans hb8); clear hown8 hb8)
    go_ret
    exact ⟨⟨q8, cp8, rfl, unhide Hown8⟩, unhide B8⟩
set_option maxHeartbeats 2000000 in
set_option maxRecDepth 100000 in
/-- slices.Delete of the first ones. -/
theorem delI (q : Option Addr) (cap : Nat) (l : List Int) (n : Nat) (hn : n ≤ l.length) (hl : l.length ≤ 16) (w : World) (h : OwnK encI 3 1 0 w q cap l) :
    Calls Try.prog 34 #[.slice q l.length cap, .int .i64 0, .int .i64 (n : Int)] w fun e w' => e = .returned (.slice q (l.length - n) cap) ∧ OwnK encI 3 1 0 w' q cap (l.drop n) ∧ w.grownBy w' (q.map (·.block)) := by
  have n1 : (n : Int) ≤ (l.length : Int) := by omega
  have n0 : (0 : Int) ≤ (n : Int) := by omega
  have hlc := h.ls.2.1
  have n2 : (l.length : Int) ≤ (cap : Int) := by omega
  by_cases h0 : n = 0
  · subst h0
    have H := hide h
    clear h hn
    go_enter Try.func34, Try.ntmps34
    go_wp2
    all_goals
      go_ret
      exact ⟨rfl, unhide H, ⟨rfl, rfl, rfl, Nat.le_refl _, fun _ _ _ => rfl⟩⟩
  · obtain ⟨g, rfl, hBg, hgw, _, hcm⟩ := h.some_of (by omega)
    have hz : ¬ (0 : Int) = (n : Int) := by omega
    have hz' : ((0 : Int) == (n : Int)) = false := by simpa using hz
    obtain ⟨N, hN⟩ : ∃ N, l.length - n = N := ⟨_, rfl⟩
    have hdl : (l.drop n).length = N := by rw [List.length_drop]; omega
    have hs0 := fun W => slice_lI (some ⟨g, 0, none⟩) cap l.length n hn hlc W
    have ofr : OwnK encI 3 1 0 w (some ⟨g, 0, none⟩) cap (l.take 0) := h.front (by decide) (Nat.zero_le _)
    rw [List.take_zero] at ofr
    have osr := (drop_sl (by decide) h.ls n hn).src
    rw [hN] at hs0
    have H := hide h
    have HF := hide ofr
    have HS := hide osr
    have HDL := hide hdl
    have HN := hide hN
    have HP0 := hide (show 0 < n by omega)
    have c1 : ¬ cap = 0 := by omega
    have c2 : (0 : Int) ≤ (cap : Int) := by omega
    have hNl : (N : Int) ≤ (l.length : Int) := by omega
    clear h ofr osr hdl hz h0 hN
    go_enter Try.func34, Try.ntmps34
    go_wp2
    go_region_law (first
      | (refine step_appK rowI (by rfl) _ _ (by rfl) 0 (some ⟨g, 0, none⟩) cap [] (cutK 1 (some ⟨g, 0, none⟩) cap n) (cap - n) (l.drop n) 0 N N rfl (unhide HDL) (Nat.zero_add _) (by rfl) (by rfl) (own_heap (by rfl) (unhide HF)) (src_heap (by rfl) (unhide HS)) (by unfold maxLen; omega) (by omega) (Nat.zero_le _) ?_; intro q5 c5 w5 o5 b5 s5; have O5 := hide o5; have S5 := hide s5; clear o5 b5 s5))
    all_goals
      have hst := unhide S5
      have hNN := unhide HN
      obtain ⟨hgr, hq⟩ := hst
      have hqq : q5 = some ⟨g, 0, none⟩ ∧ c5 = cap := by
        rcases hq with ⟨e1, e2⟩ | ⟨e1, _⟩
        · exact ⟨e1, e2 (by omega)⟩
        · exact absurd (show N ≤ cap by omega) e1
      obtain ⟨rfl, rfl⟩ := hqq
      have hlt : N < l.length := by have := unhide HP0; omega
      obtain ⟨D, hD⟩ : ∃ D, l.length - N = D := ⟨_, rfl⟩
      have hs1 := fun W => slice_lhI (some ⟨g, 0, none⟩) c5 N N l.length (by omega) hlc W
      rw [cutK_ne 1 _ (show ¬ c5 = N by omega), show ((some ⟨g, 0, none⟩ : Option Addr).map (·.add (N * 1))) = some ⟨g, N * 1, none⟩ from (by rw [Option.map_some, add_plain, Nat.zero_add]), hD] at hs1
      have o5 : OwnK encI 3 1 0 w5 (some ⟨g, 0, none⟩) c5 (l.drop n) := by have := unhide O5; rwa [List.nil_append] at this
      have hcl := fun ty => clearI w5 ty g (N * 1) D (c5 - N) (by omega) (fun j hj => o5.cellSome _ (by omega)) (fun j _ => o5.free _)
      simp only [Nat.mul_one] at hs1 hcl
      generalize hvs : (Builtin.zeroCells #[.int .i64 0] D).toList = vs at hcl
      have O6 := hide o5
      have GR := hide hgr
      clear hq hgr o5 S5 O5 hvs hs0 hlt HF HS H
      go_wp2
      go_ret
      have o7 := (unhide O6).cut (by decide) (n := N) (by have := unhide HDL; omega) vs
      rw [List.take_of_length_le (by have := unhide HDL; omega)] at o7
      have g7 := grown_cells (g := g) vs (N * 1) w5
      simp only [Nat.mul_one] at o7 g7
      have g6 := unhide GR
      exact ⟨by rw [← hNN]; rfl, o7, ⟨g7.os.trans g6.os, g7.tape.trans g6.tape, g7.output.trans g6.output, Nat.le_trans g6.size g7.size, fun i hi hne => (g7.block i (Nat.lt_of_lt_of_le hi g6.size) hne).trans (g6.block i hi hne)⟩⟩
end Go.Proofs.Ytfenkiplofnolaa
