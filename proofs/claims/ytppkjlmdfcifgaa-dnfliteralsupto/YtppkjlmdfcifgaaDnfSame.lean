/- trommelmem.SameLits and the law's same, of lists that hold the same literals. -/
import Derived.Test.YtppkjlmdfcifgaaDnfHolds
import Derived.Test.YtppkjlmdfcifgaaKept
import Derived.Shelf.Abstract
import Derived.Lib.QuietBelow
namespace Go.Proofs.Ytppkjlmdfcifgaa
open Go.RowKit Go.Sort

theorem LitsOf.at7 {w : World} {q : Option Addr} {c : Nat} {ls : List Lt} {j : Nat} {l : Lt} (h : LitsOf w q c ls) (hj : ls[j]? = some l) :
    ∃ b off u, q = some ⟨b, off, none⟩ ∧ b < w.heap.size ∧ SlOf encI 1 w (Lv.qi u) u.ci l.ints ∧ SlOf encS 1 w u.qw u.cw l.words ∧ w.cell? ⟨b, off + j * 7, none⟩ = some (.int .i64 l.kind) ∧ w.cell? ⟨b, off + j * 7 + 1, none⟩ = some (.string l.attr) ∧ w.cell? ⟨b, off + j * 7 + 2, none⟩ = some (.slice u.qi l.ints.length u.ci) ∧ w.cell? ⟨b, off + j * 7 + 3, none⟩ = some (.slice u.qw l.words.length u.cw) ∧ w.cell? ⟨b, off + j * 7 + 4, none⟩ = some (.int .i64 l.lo) ∧ w.cell? ⟨b, off + j * 7 + 5, none⟩ = some (.int .i64 l.hi) ∧ w.cell? ⟨b, off + j * 7 + 6, none⟩ = some (.bool l.neg) := by
  obtain ⟨b, off, u, hq, hb, ⟨h1, h2, h3, h4, h5, h6, h7, h8, h9⟩, g0, g1, g2, g3, g4, g5, g6⟩ := h.at hj
  rw [h1] at g0
  rw [h2] at g1
  rw [h3] at g2
  rw [h4] at g3
  rw [h5] at g4
  rw [h6] at g5
  rw [h7] at g6
  exact ⟨b, off, u, hq, hb, h8, h9, g0, g1, g2, g3, g4, g5, g6⟩
set_option maxRecDepth 100000 in
set_option maxHeartbeats 4000000 in
theorem sameLits_eq (q : Option Addr) (c : Nat) (q' : Option Addr) (c' : Nat) (ls : List Lt) (w : World) (h1 : LitsOf w q c ls) (h2 : LitsOf w q' c' ls) (hb : litBound ls) (ln : ls.length ≤ 1000000000) :
    Calls Try.prog 70 #[.slice q ls.length c, .slice q' ls.length c'] w fun e w' => e = .returned (.bool true) ∧ Below w.heap.size w w' := by
  have mixed : Try.prog.follows .mixedOrders = true := by kernel_rfl
  have en68 : ∀ args w, (callFunc 68 args).run Try.prog w = .ok (.enter 68 args) w := enters_of Try.func68 (by kernel_rfl) rfl
  have H1 := hide h1
  have H2 := hide h2
  have HBD := hide hb
  have hnn : ((ls.length : Int) != (ls.length : Int)) = false := by simp
  have a0 : (ls.length : Int) ≤ 1000000000 := by omega
  clear h1 h2 hb
  go_enter Try.func70, Try.ntmps70
  go_wp2
  go_loopw [13] (fun i wr => ∃ k : Nat, k ≤ ls.length ∧ i = .int .i64 k ∧ Below w.heap.size w wr) (fun i _ => ls.length - (intOf i).toNat)
  case atStart => exact ⟨0, by omega, rfl, Below.refl _ _⟩
  case round =>
    obtain ⟨k, hk, rfl, hbel⟩ := hrel
    have HB := hide hbel
    by_cases hlt : k < ls.length
    · obtain ⟨l, hx, hd⟩ := get_at hlt
      clear hd
      obtain ⟨b, off, u, hq, hbb, s1, t1, g0, g1, g2, g3, g4, g5, g6⟩ := ((unhide H1).below hbel).at7 hx
      obtain ⟨b', off', u', hq', hbb', s2, t2, f0, f1, f2, f3, f4, f5, f6⟩ := ((unhide H2).below hbel).at7 hx
      subst hq hq'
      obtain ⟨m1, m2⟩ := unhide HBD l (List.mem_of_getElem? hx)
      have ki0 : (0 : Int) ≤ (k : Int) := by omega
      have ki1 : (k : Int) < (ls.length : Int) := by omega
      have hn2 : (l.neg != l.neg) = false := by simp
      have q68 := fun (n : Nat) (os : Array Obj) => samePred_eq l.kind l.attr l.ints l.words l.lo l.hi u.qi u.ci u.qw u.cw u'.qi u'.ci u'.qw u'.cw (grow (redrawn wr n) os) (s1.below (below_regrown wr n os)) (s2.below (below_regrown wr n os)) (t1.below (below_regrown wr n os)) (t2.below (below_regrown wr n os)) (by omega) (by omega)
      have G0 : ∀ n os, (grow (redrawn wr n) os).cell? ⟨b, off + k * 7, none⟩ = some _ := cell_regrown g0
      have F0 : ∀ n os, (grow (redrawn wr n) os).cell? ⟨b', off' + k * 7, none⟩ = some _ := cell_regrown f0
      have G1 : ∀ n os, (grow (redrawn wr n) os).cell? ⟨b, off + k * 7 + 1, none⟩ = some _ := cell_regrown g1
      have F1 : ∀ n os, (grow (redrawn wr n) os).cell? ⟨b', off' + k * 7 + 1, none⟩ = some _ := cell_regrown f1
      have G2 : ∀ n os, (grow (redrawn wr n) os).cell? ⟨b, off + k * 7 + 2, none⟩ = some _ := cell_regrown g2
      have F2 : ∀ n os, (grow (redrawn wr n) os).cell? ⟨b', off' + k * 7 + 2, none⟩ = some _ := cell_regrown f2
      have G3 : ∀ n os, (grow (redrawn wr n) os).cell? ⟨b, off + k * 7 + 3, none⟩ = some _ := cell_regrown g3
      have F3 : ∀ n os, (grow (redrawn wr n) os).cell? ⟨b', off' + k * 7 + 3, none⟩ = some _ := cell_regrown f3
      have G4 : ∀ n os, (grow (redrawn wr n) os).cell? ⟨b, off + k * 7 + 4, none⟩ = some _ := cell_regrown g4
      have F4 : ∀ n os, (grow (redrawn wr n) os).cell? ⟨b', off' + k * 7 + 4, none⟩ = some _ := cell_regrown f4
      have G5 : ∀ n os, (grow (redrawn wr n) os).cell? ⟨b, off + k * 7 + 5, none⟩ = some _ := cell_regrown g5
      have F5 : ∀ n os, (grow (redrawn wr n) os).cell? ⟨b', off' + k * 7 + 5, none⟩ = some _ := cell_regrown f5
      have G6 : ∀ n os, (grow (redrawn wr n) os).cell? ⟨b, off + k * 7 + 6, none⟩ = some _ := cell_regrown g6
      have F6 : ∀ n os, (grow (redrawn wr n) os).cell? ⟨b', off' + k * 7 + 6, none⟩ = some _ := cell_regrown f6
      clear s1 s2 t1 t2 g0 g1 g2 g3 g4 g5 g6 f0 f1 f2 f3 f4 f5 f6 hbel hx
      go_wp2
      refine wp_region_quiet_below (by assumption) (by kernel_rfl) ?_
      repeat (go_big_quiet_step (first | (go_at_fn 68; refine Calls.regrown_of (q68 _ _))))
      refine wpQuiet_nil ?_
      intro _ hw'
      obtain ⟨⟨dq, osq⟩, hw''⟩ := hw'
      subst hw''
      go_wp2
      exact ⟨⟨k + 1, by omega, by go_num, below_sub (unhide HB) (below_regrown _ _ _)⟩, by simp [intOf]; omega⟩
    · have ki1 : ¬ (k : Int) < (ls.length : Int) := by omega
      go_wp2
      go_ret
      exact ⟨rfl, unhide HB⟩
set_option maxRecDepth 100000 in
set_option maxHeartbeats 4000000 in
theorem sameCj_eq (q : Option Addr) (c : Nat) (q' : Option Addr) (c' : Nat) (cs : List (List Lt)) (w : World) (h1 : CjsOf w q c cs) (h2 : CjsOf w q' c' cs) (hb : ∀ ls ∈ cs, litBound ls ∧ ls.length ≤ 1000000000) (ln : cs.length ≤ 1000000000) :
    Calls Try.prog 58 #[.slice q cs.length c, .slice q' cs.length c'] w fun e w' => e = .returned (.bool true) ∧ Below w.heap.size w w' := by
  have mixed : Try.prog.follows .mixedOrders = true := by kernel_rfl
  have en70 : ∀ args w, (callFunc 70 args).run Try.prog w = .ok (.enter 70 args) w := enters_of Try.func70 (by kernel_rfl) rfl
  have H1 := hide h1
  have H2 := hide h2
  have HBD := hide hb
  have hnn : ((cs.length : Int) != (cs.length : Int)) = false := by simp
  have a0 : (cs.length : Int) ≤ 1000000000 := by omega
  clear h1 h2 hb
  go_enter Try.func58, Try.ntmps58
  go_wp2
  go_loopw [13] (fun i wr => ∃ k : Nat, k ≤ cs.length ∧ i = .int .i64 k ∧ Below w.heap.size w wr) (fun i _ => cs.length - (intOf i).toNat)
  case atStart => exact ⟨0, by omega, rfl, Below.refl _ _⟩
  case round =>
    obtain ⟨k, hk, rfl, hbel⟩ := hrel
    have HB := hide hbel
    by_cases hlt : k < cs.length
    · obtain ⟨ls, hx, hd⟩ := get_at hlt
      clear hd
      obtain ⟨b, off, q1, c1, hq, hbb, l1, g0⟩ := ((unhide H1).below hbel).at hx
      obtain ⟨b', off', q2, c2, hq', hbb', l2, f0⟩ := ((unhide H2).below hbel).at hx
      subst hq hq'
      obtain ⟨m1, m2⟩ := unhide HBD ls (List.mem_of_getElem? hx)
      have ki0 : (0 : Int) ≤ (k : Int) := by omega
      have ki1 : (k : Int) < (cs.length : Int) := by omega
      have q70 := fun (n : Nat) (os : Array Obj) => sameLits_eq q1 c1 q2 c2 ls (grow (redrawn wr n) os) (l1.below (below_regrown wr n os)) (l2.below (below_regrown wr n os)) m1 m2
      have G0 : ∀ n os, (grow (redrawn wr n) os).cell? ⟨b, off + k, none⟩ = some _ := cell_regrown g0
      have F0 : ∀ n os, (grow (redrawn wr n) os).cell? ⟨b', off' + k, none⟩ = some _ := cell_regrown f0
      clear l1 l2 g0 f0 hbel hx m1
      go_wp2
      refine wp_region_quiet_below (by assumption) (by kernel_rfl) ?_
      repeat (go_big_quiet_step (first | (go_at_fn 70; refine Calls.regrown_of (q70 _ _))))
      refine wpQuiet_nil ?_
      intro _ hw'
      obtain ⟨⟨dq, osq⟩, hw''⟩ := hw'
      subst hw''
      go_wp2
      exact ⟨⟨k + 1, by omega, by go_num, below_sub (unhide HB) (below_regrown _ _ _)⟩, by simp [intOf]; omega⟩
    · have ki1 : ¬ (k : Int) < (cs.length : Int) := by omega
      go_wp2
      go_ret
      exact ⟨rfl, unhide HB⟩
end Go.Proofs.Ytppkjlmdfcifgaa
