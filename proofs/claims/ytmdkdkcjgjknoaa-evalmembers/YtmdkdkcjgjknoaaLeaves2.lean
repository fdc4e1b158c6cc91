/- The builders of predicates and Check, of lists as long as memory holds. -/
import Derived.Test.YtmdkdkcjgjknoaaLeaves
import Derived.Test.YtmdkdkcjgjknoaaCheck
namespace Go.Proofs.Ytmdkdkcjgjknoaa
open Go.RowKit Go.Sort

set_option maxRecDepth 100000 in
set_option maxHeartbeats 1000000 in
theorem cloneI2 (q : Option Addr) (c : Nat) (l : List Int) (w : World) (h : SlOf encI 1 w q c l) (hl : l.length * 8 + 64 ≤ 140737488355328) :
    Calls Try.prog 51 #[.slice q l.length c] w fun e w' => ∃ q' c', e = .returned (.slice q' l.length c') ∧ OwnK encI 3 1 w.heap.size w' q' c' l ∧ Below w.heap.size w w' := by
  cases q with
  | none =>
    obtain ⟨h0, rfl⟩ := h.1 rfl
    obtain rfl : l = [] := List.length_eq_zero_iff.1 h0
    have heq := fun (w : World) => Lib.run_eql_slice_nil (P := Try.prog) w 26 3 none 0 0 0 0 Try.underlying26
    clear h h0
    go_enter Try.func51, Try.ntmps51
    go_wp2
    go_ret
    exact ⟨none, 0, rfl, OwnK.nil _ _, Below.refl _ _⟩
  | some a =>
    have HS := hide h
    have heq := fun (w : World) => Lib.run_eql_slice_nil (P := Try.prog) w 26 3 (some a) l.length c 0 0 Try.underlying26
    clear h
    go_enter Try.func51, Try.ntmps51
    go_wp2_with (at_builtin; refine wpList_app rowI rfl _ _ rfl w.heap.size (some ⟨w.heap.size, 0, none⟩) 0 [] (some a) c l 0 l.length l.length rfl rfl (by omega) rfl rfl (OwnK.made _ _ (Nat.le_refl _)) ((unhide HS).below ((Below.refl _ _).alloc (Nat.le_refl _) _)).src (by unfold maxLen; omega) (by omega) (by simp) ?_; intro q2 c2 w2 hown2 hb2 _ hg2)
    go_ret
    exact ⟨q2, c2, rfl, by simpa using hown2, ((Below.refl _ _).alloc (Nat.le_refl _) _).trans hb2⟩
set_option maxRecDepth 100000 in
set_option maxHeartbeats 1000000 in
theorem cloneS2 (q : Option Addr) (c : Nat) (l : List ByteArray) (w : World) (h : SlOf encS 1 w q c l) (hl : l.length * 16 + 64 ≤ 140737488355328) :
    Calls Try.prog 53 #[.slice q l.length c] w fun e w' => ∃ q' c', e = .returned (.slice q' l.length c') ∧ OwnK encS 9 1 w.heap.size w' q' c' l ∧ Below w.heap.size w w' := by
  cases q with
  | none =>
    obtain ⟨h0, rfl⟩ := h.1 rfl
    obtain rfl : l = [] := List.length_eq_zero_iff.1 h0
    have heq := fun (w : World) => Lib.run_eql_slice_nil (P := Try.prog) w 27 9 none 0 0 0 0 Try.underlying27
    clear h h0
    go_enter Try.func53, Try.ntmps53
    go_wp2
    go_ret
    exact ⟨none, 0, rfl, OwnK.nil _ _, Below.refl _ _⟩
  | some a =>
    have HS := hide h
    have heq := fun (w : World) => Lib.run_eql_slice_nil (P := Try.prog) w 27 9 (some a) l.length c 0 0 Try.underlying27
    clear h
    go_enter Try.func53, Try.ntmps53
    go_wp2_with (at_builtin; refine wpList_app rowS rfl _ _ rfl w.heap.size (some ⟨w.heap.size, 0, none⟩) 0 [] (some a) c l 0 l.length l.length rfl rfl (by omega) rfl rfl (OwnK.made _ _ (Nat.le_refl _)) ((unhide HS).below ((Below.refl _ _).alloc (Nat.le_refl _) _)).src (by unfold maxLen; omega) (by omega) (by simp) ?_; intro q2 c2 w2 hown2 hb2 _ hg2)
    go_ret
    exact ⟨q2, c2, rfl, by simpa using hown2, ((Below.refl _ _).alloc (Nat.le_refl _) _).trans hb2⟩
set_option maxHeartbeats 2000000 in
theorem ints_big (attr : ByteArray) (q : Option Addr) (c : Nat) (l : List Int) (w : World) (h : SlOf encI 1 w q c l) (hl : l.length * 8 + 64 ≤ 140737488355328) :
    Calls Try.prog 25 #[.string attr, .slice q l.length c] w fun e w' => NewT w.heap.size w' (.mk 1 attr l [] 0 0 1 []) e ∧ Below w.heap.size w w' := by
  have hc := cloneI2 q c l _ (h.below ((Below.refl w.heap.size w).alloc (Nat.le_refl _) (.cells #[.int .i64 0, .string ⟨#[]⟩, .slice none 0 0, .slice none 0 0, .int .i64 0, .int .i64 0, .int .i64 0, .slice none 0 0] 31))) hl
  clear h hl
  have B0 := hide ((Below.refl w.heap.size w).alloc (Nat.le_refl _) (.cells #[.int .i64 0, .string ⟨#[]⟩, .slice none 0 0, .slice none 0 0, .int .i64 0, .int .i64 0, .int .i64 0, .slice none 0 0] 31))
  go_enter Try.func25, Try.ntmps25
  go_wp2_with (first
    | (go_at_call 51; refine hc.mono ?_; rintro e w1 ⟨q1, k1, rfl, o1, b1⟩; have O1 := hide o1; have B1 := hide b1; clear o1 b1)
    | (go_at_call 50; refine (leaf_any _ _ _ _ _ _ _ _ _ _ _).mono ?_; rintro e w2 ⟨rfl, b2⟩; obtain ⟨z1, ⟨r0, r1, r2, r3, r4, r5, r6, r7⟩, rf⟩ := boxR (below_sub (unhide B1) b2); have B2 := hide b2; clear b2))
  refine bodyPost_ret (v := .agg #[.int .i64 1, .string attr, .slice q1 l.length k1, .slice none 0 0, .int .i64 0, .int .i64 0, .int .i64 1, .slice none 0 0]) (by simp [results, Try.results25, go_sem, *]) rfl ?_
  have s1 := (unhide B1).size
  simp at s1
  have f1 : ∀ a, q1 = some a → w.heap.size + 1 ≤ a.block := fun a e => by have := (unhide O1).from a e; simp at this; omega
  refine ⟨⟨⟨1, attr, q1, l.length, k1, none, 0, 0, 0, 0, 1, none, 0, 0⟩, rfl, ?_⟩, set8_below (below_sub (below_sub (unhide B0) (unhide B1)) (unhide B2)) (Nat.le_refl _) _ _ _ _ _ _ _ _⟩
  exact (NdFrom.make (kids := []) (vs := []) ((unhide O1).ls.up f1 ((SameUp.of (unhide B2)).trans (set8_up (B := w.heap.size + 1) (g := w.heap.size) _ (Nat.lt_succ_self _) _ _ _ _ _ _ _ _))) f1 (SlOf.none _) no_from (SlOf.none _) no_from rfl (fun j v x h => by simp at h)).mono (Nat.le_succ _)
set_option maxHeartbeats 2000000 in
theorem words_big (attr : ByteArray) (q : Option Addr) (c : Nat) (l : List ByteArray) (w : World) (h : SlOf encS 1 w q c l) (hl : l.length * 16 + 64 ≤ 140737488355328) :
    Calls Try.prog 28 #[.string attr, .slice q l.length c] w fun e w' => NewT w.heap.size w' (.mk 2 attr [] l 0 0 1 []) e ∧ Below w.heap.size w w' := by
  have hc := cloneS2 q c l _ (h.below ((Below.refl w.heap.size w).alloc (Nat.le_refl _) (.cells #[.int .i64 0, .string ⟨#[]⟩, .slice none 0 0, .slice none 0 0, .int .i64 0, .int .i64 0, .int .i64 0, .slice none 0 0] 31))) hl
  clear h hl
  have B0 := hide ((Below.refl w.heap.size w).alloc (Nat.le_refl _) (.cells #[.int .i64 0, .string ⟨#[]⟩, .slice none 0 0, .slice none 0 0, .int .i64 0, .int .i64 0, .int .i64 0, .slice none 0 0] 31))
  go_enter Try.func28, Try.ntmps28
  go_wp2_with (first
    | (go_at_call 53; refine hc.mono ?_; rintro e w1 ⟨q1, k1, rfl, o1, b1⟩; have O1 := hide o1; have B1 := hide b1; clear o1 b1)
    | (go_at_call 50; refine (leaf_any _ _ _ _ _ _ _ _ _ _ _).mono ?_; rintro e w2 ⟨rfl, b2⟩; obtain ⟨z1, ⟨r0, r1, r2, r3, r4, r5, r6, r7⟩, rf⟩ := boxR (below_sub (unhide B1) b2); have B2 := hide b2; clear b2))
  refine bodyPost_ret (v := .agg #[.int .i64 2, .string attr, .slice none 0 0, .slice q1 l.length k1, .int .i64 0, .int .i64 0, .int .i64 1, .slice none 0 0]) (by simp [results, Try.results28, go_sem, *]) rfl ?_
  have s1 := (unhide B1).size
  simp at s1
  have f1 : ∀ a, q1 = some a → w.heap.size + 1 ≤ a.block := fun a e => by have := (unhide O1).from a e; simp at this; omega
  refine ⟨⟨⟨2, attr, none, 0, 0, q1, l.length, k1, 0, 0, 1, none, 0, 0⟩, rfl, ?_⟩, set8_below (below_sub (below_sub (unhide B0) (unhide B1)) (unhide B2)) (Nat.le_refl _) _ _ _ _ _ _ _ _⟩
  exact (NdFrom.make (kids := []) (vs := []) (SlOf.none _) no_from ((unhide O1).ls.up f1 ((SameUp.of (unhide B2)).trans (set8_up (B := w.heap.size + 1) (g := w.heap.size) _ (Nat.lt_succ_self _) _ _ _ _ _ _ _ _))) f1 (SlOf.none _) no_from rfl (fun j v x h => by simp at h)).mono (Nat.le_succ _)
theorem code_f : (code false) = code false := rfl
set_option maxHeartbeats 4000000 in
theorem check_leaf (kind : Int) (attr : ByteArray) (qi : Option Addr) (ci : Nat) (ints : List Int) (qw : Option Addr) (cw : Nat) (words : List ByteArray) (lo hi : Int) (w : World) (h1 : SlOf encI 1 w qi ci ints) (h2 : SlOf encS 1 w qw cw words) (l1 : ints.length ≤ 100000000000000) (l2 : words.length ≤ 100000000000000) :
    Calls Try.prog 27 #[.agg #[.int .i64 kind, .string attr, .slice qi ints.length ci, .slice qw words.length cw, .int .i64 lo, .int .i64 hi, .int .i64 1, .slice none 0 0]] w fun e w' => e = .returned (.int .i64 (code (predB kind attr ints words lo hi))) ∧ Below w.heap.size w w' := by
  have B0 := hide ((Below.refl w.heap.size w).alloc (Nat.le_refl _) (.cells #[.int .i64 kind, .string attr, .slice qi ints.length ci, .slice qw words.length cw, .int .i64 lo, .int .i64 hi, .int .i64 1, .slice none 0 0] 31))
  have hp := pred_any kind attr qi ci ints qw cw words lo hi _ (h1.below (unhide B0)) (h2.below (unhide B0)) (by omega) (by omega)
  clear h1 h2
  cases hq : predB kind attr ints words lo hi with
  | false =>
    rw [hq] at hp
    simp only [code, Bool.false_eq_true, if_false] at hp ⊢
    clear hq
    go_enter Try.func27, Try.ntmps27
    go_wp2_with (go_at_call 35; refine hp.mono ?_; rintro e w1 ⟨rfl, b1⟩; obtain ⟨z1, d6, d7⟩ := box8 b1; have B1 := hide b1; clear b1)
    go_ret
    exact ⟨rfl, below_sub (unhide B0) (unhide B1)⟩
  | true =>
    rw [hq] at hp
    simp only [code, if_true] at hp ⊢
    clear hq
    go_enter Try.func27, Try.ntmps27
    go_wp2_with (go_at_call 35; refine hp.mono ?_; rintro e w1 ⟨rfl, b1⟩; obtain ⟨z1, d6, d7⟩ := box8 b1; have B1 := hide b1; clear b1)
    go_loopw [49] (fun i wr => i = .int .i64 0 ∧ Below w.heap.size w wr) (fun _ _ => 0)
    case atStart => exact ⟨rfl, below_sub (unhide B0) (unhide B1)⟩
    case round =>
      obtain ⟨rfl, hbel⟩ := hrel
      have HB := hide hbel
      clear hbel
      go_wp2
      go_ret
      exact ⟨rfl, unhide HB⟩
end Go.Proofs.Ytmdkdkcjgjknoaa
