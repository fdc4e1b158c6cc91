/- What the reference's pred and Print return, for every tree in form: what the program writes. -/
import Derived.Test.YtmdkdkcjgjknoaaDoorRefMembers
namespace Go.Proofs.YtmdkdkcjgjknoaaDoor
open Go.RowKit Go.Sort

theorem name_size {s : ByteArray} (h : nameOk s = true) : s.size ≤ 32 := by
  unfold nameOk at h
  simp only [Bool.and_eq_true, decide_eq_true_eq] at h
  exact h.1.1.2
theorem memL_len (ints : List Int) (words : List ByteArray) : (memL ints words).length ≤ 23 * ints.length + 4 * wordsWt words := by
  have hi := jl_len (f := itI) (g := fun _ => 23) (sep := [44, 32]) ints 0 (fun x _ => by have := itI_len x; simp only [List.length_cons, List.length_nil]; omega)
  have hw := jl_len (f := itW) (g := fun s => 4 * s.size + 4) (sep := [44, 32]) words 0 (fun x _ => by have := itW_len x; simp only [List.length_cons, List.length_nil]; omega)
  rw [sum_ints] at hi
  have := sum_words words
  simp only [memL, List.length_append]; omega
set_option maxRecDepth 100000 in
set_option maxHeartbeats 4000000 in
theorem refPred_1 (attr : ByteArray) (qi : Option Addr) (ci : Nat) (ints : List Int) (qw : Option Addr) (cw : Nat) (words : List ByteArray) (lo hi : Int) (w : World) (h1 : SlOf encI 1 w qi ci ints) (h2 : SlOf encS 1 w qw cw words) (i1 : ∀ x ∈ ints, numOk x = true) (i2 : ∀ x ∈ words, wordOk x = true) (l1 : ints.length ≤ 1000000000) (l2 : wordsWt words ≤ 1000000000) (ha : attr.size ≤ 32) :
    Calls Tryd.prog 63 #[.agg #[.int .i64 1, .string attr, .slice qi ints.length ci, .slice qw words.length cw, .int .i64 lo, .int .i64 hi]] w fun e w' => e = .returned (.string ⟨(attr.data.toList ++ [32, 123] ++ memL ints words ++ [125]).toArray⟩) ∧ Below w.heap.size w w' := by
  obtain ⟨X, HX⟩ : ∃ X, w.alloc (.cells #[.int .i64 1, .string attr, .slice qi ints.length ci, .slice qw words.length cw, .int .i64 lo, .int .i64 hi] 25) = X := ⟨_, rfl⟩
  have hX0 : X.heap[w.heap.size]? = some (.cells #[.int .i64 1, .string attr, .slice qi ints.length ci, .slice qw words.length cw, .int .i64 lo, .int .i64 hi] 25 (0, 0)) := by rw [← HX]; exact box_nw _ _
  have hwX : Below w.heap.size w X := by rw [← HX]; exact (Below.refl _ _).alloc (Nat.le_refl _) _
  obtain ⟨x0, x1, x2, x3, x4, x5⟩ := of6 hX0
  have hz0 := heap_lt hX0
  have HX0 := hide hX0
  have HWX := hide hwX
  have hwl := words_len words
  have hml := memL_len ints words
  have mixed : Tryd.prog.follows .mixedOrders = true := by kernel_rfl
  have en82 : ∀ args w, (callFunc 82 args).run Tryd.prog w = .ok (.enter 82 args) w := enters_of Tryd.func82 (by kernel_rfl) rfl
  have hm := fun (n : Nat) (os : Array Obj) => members_any 1 attr qi ci ints qw cw words lo hi (grow (redrawn X n) os) ((h1.below hwX).below (below_regrown X n os)) ((h2.below hwX).below (below_regrown X n os)) i1 i2 l1 (by omega) (by omega)
  clear h1 h2 i1 i2 hX0 hwX
  obtain ⟨m, hm0⟩ : ∃ m : ByteArray, m = ⟨(memL ints words).toArray⟩ := ⟨_, rfl⟩
  have hms : m.size ≤ 27000000000 := by rw [list_size, hm0]; simp; omega
  rw [← hm0] at hm
  have HM := hide hm0
  have c1 : (⟨#[32, 123]⟩ : ByteArray).size = 2 := rfl
  have c2 : (⟨#[125]⟩ : ByteArray).size = 1 := rfl
  have s1 : (attr ++ (⟨#[32, 123]⟩ : ByteArray)).size = attr.size + 2 := by rw [ByteArray.size_append, c1]
  have s2 : (attr ++ (⟨#[32, 123]⟩ : ByteArray) ++ m).size = attr.size + 2 + m.size := by rw [ByteArray.size_append, s1]
  have hadd1 := fun W => run_string_add_sum (P := Tryd.prog) W attr ⟨#[32, 123]⟩ (by rw [c1]; omega)
  have hadd2 := fun W => run_string_add_sum (P := Tryd.prog) W (attr ++ ⟨#[32, 123]⟩) m (by rw [s1]; omega)
  have hadd3 := fun W => run_string_add_sum (P := Tryd.prog) W (attr ++ ⟨#[32, 123]⟩ ++ m) ⟨#[125]⟩ (by rw [s2, c2]; omega)
  clear hm0 hms c1 c2 s1 s2 hml ha l1 l2 hwl
  have d0 : ∀ n os, (grow (redrawn X n) os).cell? ⟨w.heap.size, 0, none⟩ = some (.int .i64 1) := cell_regrown x0
  have d1 : ∀ n os, (grow (redrawn X n) os).cell? ⟨w.heap.size, 1, none⟩ = some (.string attr) := cell_regrown x1
  have d2 : ∀ n os, (grow (redrawn X n) os).cell? ⟨w.heap.size, 2, none⟩ = some (.slice qi ints.length ci) := cell_regrown x2
  have d3 : ∀ n os, (grow (redrawn X n) os).cell? ⟨w.heap.size, 3, none⟩ = some (.slice qw words.length cw) := cell_regrown x3
  have d4 : ∀ n os, (grow (redrawn X n) os).cell? ⟨w.heap.size, 4, none⟩ = some (.int .i64 lo) := cell_regrown x4
  have d5 : ∀ n os, (grow (redrawn X n) os).cell? ⟨w.heap.size, 5, none⟩ = some (.int .i64 hi) := cell_regrown x5
  go_enter Tryd.func63, Tryd.ntmps63
  go_wp2
  refine wp_region_quiet_below (by assumption) (by kernel_rfl) ?_
  repeat (go_big_quiet_step (first | (go_at_fn 82; refine Calls.regrown_of (hm _ _))))
  refine wpQuiet_nil ?_
  intro _ hw'
  obtain ⟨⟨dq, osq⟩, hw''⟩ := hw'
  subst hw''
  go_wp2
  go_ret
  exact ⟨ret_ba (WideShapes.bytes_inj (by rw [app_list, app_list, app_list, unhide HM])), below_sub (unhide HWX) (below_regrown X dq osq)⟩
set_option maxRecDepth 100000 in
set_option maxHeartbeats 4000000 in
theorem refPred_2 (attr : ByteArray) (qi : Option Addr) (ci : Nat) (ints : List Int) (qw : Option Addr) (cw : Nat) (words : List ByteArray) (lo hi : Int) (w : World) (h1 : SlOf encI 1 w qi ci ints) (h2 : SlOf encS 1 w qw cw words) (i1 : ∀ x ∈ ints, numOk x = true) (i2 : ∀ x ∈ words, wordOk x = true) (l1 : ints.length ≤ 1000000000) (l2 : wordsWt words ≤ 1000000000) (ha : attr.size ≤ 32) :
    Calls Tryd.prog 63 #[.agg #[.int .i64 2, .string attr, .slice qi ints.length ci, .slice qw words.length cw, .int .i64 lo, .int .i64 hi]] w fun e w' => e = .returned (.string ⟨(attr.data.toList ++ [32, 123] ++ memL ints words ++ [125]).toArray⟩) ∧ Below w.heap.size w w' := by
  obtain ⟨X, HX⟩ : ∃ X, w.alloc (.cells #[.int .i64 2, .string attr, .slice qi ints.length ci, .slice qw words.length cw, .int .i64 lo, .int .i64 hi] 25) = X := ⟨_, rfl⟩
  have hX0 : X.heap[w.heap.size]? = some (.cells #[.int .i64 2, .string attr, .slice qi ints.length ci, .slice qw words.length cw, .int .i64 lo, .int .i64 hi] 25 (0, 0)) := by rw [← HX]; exact box_nw _ _
  have hwX : Below w.heap.size w X := by rw [← HX]; exact (Below.refl _ _).alloc (Nat.le_refl _) _
  obtain ⟨x0, x1, x2, x3, x4, x5⟩ := of6 hX0
  have hz0 := heap_lt hX0
  have HX0 := hide hX0
  have HWX := hide hwX
  have hwl := words_len words
  have hml := memL_len ints words
  have mixed : Tryd.prog.follows .mixedOrders = true := by kernel_rfl
  have en82 : ∀ args w, (callFunc 82 args).run Tryd.prog w = .ok (.enter 82 args) w := enters_of Tryd.func82 (by kernel_rfl) rfl
  have hm := fun (n : Nat) (os : Array Obj) => members_any 2 attr qi ci ints qw cw words lo hi (grow (redrawn X n) os) ((h1.below hwX).below (below_regrown X n os)) ((h2.below hwX).below (below_regrown X n os)) i1 i2 l1 (by omega) (by omega)
  clear h1 h2 i1 i2 hX0 hwX
  obtain ⟨m, hm0⟩ : ∃ m : ByteArray, m = ⟨(memL ints words).toArray⟩ := ⟨_, rfl⟩
  have hms : m.size ≤ 27000000000 := by rw [list_size, hm0]; simp; omega
  rw [← hm0] at hm
  have HM := hide hm0
  have c1 : (⟨#[32, 123]⟩ : ByteArray).size = 2 := rfl
  have c2 : (⟨#[125]⟩ : ByteArray).size = 1 := rfl
  have s1 : (attr ++ (⟨#[32, 123]⟩ : ByteArray)).size = attr.size + 2 := by rw [ByteArray.size_append, c1]
  have s2 : (attr ++ (⟨#[32, 123]⟩ : ByteArray) ++ m).size = attr.size + 2 + m.size := by rw [ByteArray.size_append, s1]
  have hadd1 := fun W => run_string_add_sum (P := Tryd.prog) W attr ⟨#[32, 123]⟩ (by rw [c1]; omega)
  have hadd2 := fun W => run_string_add_sum (P := Tryd.prog) W (attr ++ ⟨#[32, 123]⟩) m (by rw [s1]; omega)
  have hadd3 := fun W => run_string_add_sum (P := Tryd.prog) W (attr ++ ⟨#[32, 123]⟩ ++ m) ⟨#[125]⟩ (by rw [s2, c2]; omega)
  clear hm0 hms c1 c2 s1 s2 hml ha l1 l2 hwl
  have d0 : ∀ n os, (grow (redrawn X n) os).cell? ⟨w.heap.size, 0, none⟩ = some (.int .i64 2) := cell_regrown x0
  have d1 : ∀ n os, (grow (redrawn X n) os).cell? ⟨w.heap.size, 1, none⟩ = some (.string attr) := cell_regrown x1
  have d2 : ∀ n os, (grow (redrawn X n) os).cell? ⟨w.heap.size, 2, none⟩ = some (.slice qi ints.length ci) := cell_regrown x2
  have d3 : ∀ n os, (grow (redrawn X n) os).cell? ⟨w.heap.size, 3, none⟩ = some (.slice qw words.length cw) := cell_regrown x3
  have d4 : ∀ n os, (grow (redrawn X n) os).cell? ⟨w.heap.size, 4, none⟩ = some (.int .i64 lo) := cell_regrown x4
  have d5 : ∀ n os, (grow (redrawn X n) os).cell? ⟨w.heap.size, 5, none⟩ = some (.int .i64 hi) := cell_regrown x5
  go_enter Tryd.func63, Tryd.ntmps63
  go_wp2
  refine wp_region_quiet_below (by assumption) (by kernel_rfl) ?_
  repeat (go_big_quiet_step (first | (go_at_fn 82; refine Calls.regrown_of (hm _ _))))
  refine wpQuiet_nil ?_
  intro _ hw'
  obtain ⟨⟨dq, osq⟩, hw''⟩ := hw'
  subst hw''
  go_wp2
  go_ret
  exact ⟨ret_ba (WideShapes.bytes_inj (by rw [app_list, app_list, app_list, unhide HM])), below_sub (unhide HWX) (below_regrown X dq osq)⟩
set_option maxRecDepth 100000 in
set_option maxHeartbeats 4000000 in
theorem refPred_4 (attr : ByteArray) (qi : Option Addr) (ci : Nat) (ints : List Int) (qw : Option Addr) (cw : Nat) (words : List ByteArray) (lo hi : Int) (w : World) (h1 : SlOf encI 1 w qi ci ints) (h2 : SlOf encS 1 w qw cw words) (i1 : ∀ x ∈ ints, numOk x = true) (i2 : ∀ x ∈ words, wordOk x = true) (l1 : ints.length ≤ 1000000000) (l2 : wordsWt words ≤ 1000000000) (ha : attr.size ≤ 32) :
    Calls Tryd.prog 63 #[.agg #[.int .i64 4, .string attr, .slice qi ints.length ci, .slice qw words.length cw, .int .i64 lo, .int .i64 hi]] w fun e w' => e = .returned (.string ⟨(attr.data.toList ++ [32] ++ memL ints words ++ [42]).toArray⟩) ∧ Below w.heap.size w w' := by
  obtain ⟨X, HX⟩ : ∃ X, w.alloc (.cells #[.int .i64 4, .string attr, .slice qi ints.length ci, .slice qw words.length cw, .int .i64 lo, .int .i64 hi] 25) = X := ⟨_, rfl⟩
  have hX0 : X.heap[w.heap.size]? = some (.cells #[.int .i64 4, .string attr, .slice qi ints.length ci, .slice qw words.length cw, .int .i64 lo, .int .i64 hi] 25 (0, 0)) := by rw [← HX]; exact box_nw _ _
  have hwX : Below w.heap.size w X := by rw [← HX]; exact (Below.refl _ _).alloc (Nat.le_refl _) _
  obtain ⟨x0, x1, x2, x3, x4, x5⟩ := of6 hX0
  have hz0 := heap_lt hX0
  have HX0 := hide hX0
  have HWX := hide hwX
  have hwl := words_len words
  have hml := memL_len ints words
  have mixed : Tryd.prog.follows .mixedOrders = true := by kernel_rfl
  have en82 : ∀ args w, (callFunc 82 args).run Tryd.prog w = .ok (.enter 82 args) w := enters_of Tryd.func82 (by kernel_rfl) rfl
  have hm := fun (n : Nat) (os : Array Obj) => members_any 4 attr qi ci ints qw cw words lo hi (grow (redrawn X n) os) ((h1.below hwX).below (below_regrown X n os)) ((h2.below hwX).below (below_regrown X n os)) i1 i2 l1 (by omega) (by omega)
  clear h1 h2 i1 i2 hX0 hwX
  obtain ⟨m, hm0⟩ : ∃ m : ByteArray, m = ⟨(memL ints words).toArray⟩ := ⟨_, rfl⟩
  have hms : m.size ≤ 27000000000 := by rw [list_size, hm0]; simp; omega
  rw [← hm0] at hm
  have HM := hide hm0
  have c1 : (⟨#[32]⟩ : ByteArray).size = 1 := rfl
  have c2 : (⟨#[42]⟩ : ByteArray).size = 1 := rfl
  have s1 : (attr ++ (⟨#[32]⟩ : ByteArray)).size = attr.size + 1 := by rw [ByteArray.size_append, c1]
  have s2 : (attr ++ (⟨#[32]⟩ : ByteArray) ++ m).size = attr.size + 1 + m.size := by rw [ByteArray.size_append, s1]
  have hadd1 := fun W => run_string_add_sum (P := Tryd.prog) W attr ⟨#[32]⟩ (by rw [c1]; omega)
  have hadd2 := fun W => run_string_add_sum (P := Tryd.prog) W (attr ++ ⟨#[32]⟩) m (by rw [s1]; omega)
  have hadd3 := fun W => run_string_add_sum (P := Tryd.prog) W (attr ++ ⟨#[32]⟩ ++ m) ⟨#[42]⟩ (by rw [s2, c2]; omega)
  clear hm0 hms c1 c2 s1 s2 hml ha l1 l2 hwl
  have d0 : ∀ n os, (grow (redrawn X n) os).cell? ⟨w.heap.size, 0, none⟩ = some (.int .i64 4) := cell_regrown x0
  have d1 : ∀ n os, (grow (redrawn X n) os).cell? ⟨w.heap.size, 1, none⟩ = some (.string attr) := cell_regrown x1
  have d2 : ∀ n os, (grow (redrawn X n) os).cell? ⟨w.heap.size, 2, none⟩ = some (.slice qi ints.length ci) := cell_regrown x2
  have d3 : ∀ n os, (grow (redrawn X n) os).cell? ⟨w.heap.size, 3, none⟩ = some (.slice qw words.length cw) := cell_regrown x3
  have d4 : ∀ n os, (grow (redrawn X n) os).cell? ⟨w.heap.size, 4, none⟩ = some (.int .i64 lo) := cell_regrown x4
  have d5 : ∀ n os, (grow (redrawn X n) os).cell? ⟨w.heap.size, 5, none⟩ = some (.int .i64 hi) := cell_regrown x5
  go_enter Tryd.func63, Tryd.ntmps63
  go_wp2
  refine wp_region_quiet_below (by assumption) (by kernel_rfl) ?_
  repeat (go_big_quiet_step (first | (go_at_fn 82; refine Calls.regrown_of (hm _ _))))
  refine wpQuiet_nil ?_
  intro _ hw'
  obtain ⟨⟨dq, osq⟩, hw''⟩ := hw'
  subst hw''
  go_wp2
  go_ret
  exact ⟨ret_ba (WideShapes.bytes_inj (by rw [app_list, app_list, app_list, unhide HM])), below_sub (unhide HWX) (below_regrown X dq osq)⟩
set_option maxRecDepth 100000 in
set_option maxHeartbeats 4000000 in
theorem refPred_3 (attr : ByteArray) (qi : Option Addr) (ci : Nat) (ints : List Int) (qw : Option Addr) (cw : Nat) (words : List ByteArray) (lo hi : Int) (w : World) (hl : numOk lo = true) (hh : numOk hi = true) (ha : attr.size ≤ 32) :
    Calls Tryd.prog 63 #[.agg #[.int .i64 3, .string attr, .slice qi ints.length ci, .slice qw words.length cw, .int .i64 lo, .int .i64 hi]] w fun e w' => e = .returned (.string ⟨(attr.data.toList ++ [32, 91] ++ Lib.itoa lo ++ [44, 32] ++ Lib.itoa hi ++ [93]).toArray⟩) ∧ Below w.heap.size w w' := by
  obtain ⟨X, HX⟩ : ∃ X, w.alloc (.cells #[.int .i64 3, .string attr, .slice qi ints.length ci, .slice qw words.length cw, .int .i64 lo, .int .i64 hi] 25) = X := ⟨_, rfl⟩
  have hX0 : X.heap[w.heap.size]? = some (.cells #[.int .i64 3, .string attr, .slice qi ints.length ci, .slice qw words.length cw, .int .i64 lo, .int .i64 hi] 25 (0, 0)) := by rw [← HX]; exact box_nw _ _
  have hwX : Below w.heap.size w X := by rw [← HX]; exact (Below.refl _ _).alloc (Nat.le_refl _) _
  obtain ⟨x0, x1, x2, x3, x4, x5⟩ := of6 hX0
  have hz0 := heap_lt hX0
  have HX0 := hide hX0
  have HWX := hide hwX
  have s1 : (itoaB lo).size ≤ 21 := by rw [list_size, itoa_list, ← itI_eq hl]; exact itI_len lo
  have s2 : (itoaB hi).size ≤ 21 := by rw [list_size, itoa_list, ← itI_eq hh]; exact itI_len hi
  unfold numOk at hl hh
  simp only [Bool.and_eq_true, decide_eq_true_eq] at hl hh
  have mixed : Tryd.prog.follows .mixedOrders = true := by kernel_rfl
  have en81 : ∀ args w, (callFunc 81 args).run Tryd.prog w = .ok (.enter 81 args) w := enters_of Tryd.func81 (by kernel_rfl) rfl
  have hd1 := fun w => decimal_any lo w (by omega) (by omega)
  have hd2 := fun w => decimal_any hi w (by omega) (by omega)
  have hadd1 := fun W => run_string_add_sum (P := Tryd.prog) W attr ⟨#[32, 91]⟩ (by have : (⟨#[32, 91]⟩ : ByteArray).size = 2 := rfl; omega)
  have hadd2 := fun W => run_string_add_sum (P := Tryd.prog) W (attr ++ ⟨#[32, 91]⟩) (itoaB lo) (by have : (⟨#[32, 91]⟩ : ByteArray).size = 2 := rfl; simp only [ByteArray.size_append]; omega)
  have hadd3 := fun W => run_string_add_sum (P := Tryd.prog) W (attr ++ ⟨#[32, 91]⟩ ++ itoaB lo) ⟨#[44, 32]⟩ (by have : (⟨#[32, 91]⟩ : ByteArray).size = 2 := rfl; have : (⟨#[44, 32]⟩ : ByteArray).size = 2 := rfl; simp only [ByteArray.size_append]; omega)
  have hadd4 := fun W => run_string_add_sum (P := Tryd.prog) W (attr ++ ⟨#[32, 91]⟩ ++ itoaB lo ++ ⟨#[44, 32]⟩) (itoaB hi) (by have : (⟨#[32, 91]⟩ : ByteArray).size = 2 := rfl; have : (⟨#[44, 32]⟩ : ByteArray).size = 2 := rfl; simp only [ByteArray.size_append]; omega)
  have hadd5 := fun W => run_string_add_sum (P := Tryd.prog) W (attr ++ ⟨#[32, 91]⟩ ++ itoaB lo ++ ⟨#[44, 32]⟩ ++ itoaB hi) ⟨#[93]⟩ (by have : (⟨#[32, 91]⟩ : ByteArray).size = 2 := rfl; have : (⟨#[44, 32]⟩ : ByteArray).size = 2 := rfl; have : (⟨#[93]⟩ : ByteArray).size = 1 := rfl; simp only [ByteArray.size_append]; omega)
  clear hl hh s1 s2 ha hX0 hwX
  have d0 : ∀ n os, (grow (redrawn X n) os).cell? ⟨w.heap.size, 0, none⟩ = some (.int .i64 3) := cell_regrown x0
  have d1 : ∀ n os, (grow (redrawn X n) os).cell? ⟨w.heap.size, 1, none⟩ = some (.string attr) := cell_regrown x1
  have d2 : ∀ n os, (grow (redrawn X n) os).cell? ⟨w.heap.size, 2, none⟩ = some (.slice qi ints.length ci) := cell_regrown x2
  have d3 : ∀ n os, (grow (redrawn X n) os).cell? ⟨w.heap.size, 3, none⟩ = some (.slice qw words.length cw) := cell_regrown x3
  have d4 : ∀ n os, (grow (redrawn X n) os).cell? ⟨w.heap.size, 4, none⟩ = some (.int .i64 lo) := cell_regrown x4
  have d5 : ∀ n os, (grow (redrawn X n) os).cell? ⟨w.heap.size, 5, none⟩ = some (.int .i64 hi) := cell_regrown x5
  go_enter Tryd.func63, Tryd.ntmps63
  go_wp2
  refine wp_region_quiet_below (by assumption) (by kernel_rfl) ?_
  repeat (go_big_quiet_step (fail))
  go_big_quiet_want
  go_big_quiet_op
  go_big_quiet_call ((go_at_fn 81; refine Calls.regrown_of (hd1 _)))
  repeat (go_big_quiet_step (fail))
  go_big_quiet_want
  go_big_quiet_op
  go_big_quiet_call ((go_at_fn 81; refine Calls.regrown_of (hd2 _)))
  repeat (go_big_quiet_step (fail))
  refine wpQuiet_nil ?_
  intro _ hw'
  obtain ⟨⟨dq, osq⟩, hw''⟩ := hw'
  subst hw''
  go_wp2
  go_ret
  exact ⟨ret_ba (WideShapes.bytes_inj (by rw [app_list, app_list, app_list, app_list, app_list, itoa_list, itoa_list])), below_sub (unhide HWX) (below_regrown X dq osq)⟩
theorem refPredT_any (kind : Int) (attr : ByteArray) (qi : Option Addr) (ci : Nat) (ints : List Int) (qw : Option Addr) (cw : Nat) (words : List ByteArray) (lo hi : Int) (w : World) (h1 : SlOf encI 1 w qi ci ints) (h2 : SlOf encS 1 w qw cw words) (l1 : ints.length ≤ 1000000000) (l2 : wordsWt words ≤ 1000000000) (hp : predB kind attr ints words lo hi = true) :
    Calls Tryd.prog 63 #[.agg #[.int .i64 kind, .string attr, .slice qi ints.length ci, .slice qw words.length cw, .int .i64 lo, .int .i64 hi]] w fun e w' => e = .returned (.string ⟨(predL kind attr ints words lo hi).toArray⟩) ∧ Below w.heap.size w w' := by
  obtain ⟨hn, hc⟩ := predB_is hp
  have ha := name_size hn
  have e0 : memL ints [] = jl [44, 32] 0 (ints.map itI) := by simp [memL, jl]
  rcases hc with ⟨rfl, i1, _, rfl, _, _⟩ | ⟨rfl, i2, _, rfl, _, _⟩ | ⟨rfl, hl, hh, _, _⟩ | ⟨rfl, ⟨x, rfl, hx⟩, rfl, _, _⟩
  · have := refPred_1 attr qi ci ints qw cw [] lo hi w h1 h2 i1 (by simp) l1 l2 ha
    rw [predL_eq, body1]
    simpa [memL, jl] using this
  · have := refPred_2 attr qi ci [] qw cw words lo hi w h1 h2 (by simp) i2 l1 l2 ha
    rw [predL_eq, body2]
    simpa [memL, jl] using this
  · have := refPred_3 attr qi ci ints qw cw words lo hi w hl hh ha
    rw [predL_eq, body3]
    simpa [jl_zero, jt, itI_eq hl, itI_eq hh] using this
  · have := refPred_4 attr qi ci [] qw cw [x] lo hi w h1 h2 (by simp) (by simpa using hx) l1 l2 ha
    rw [predL_eq, body4]
    simpa [memL, jl] using this
theorem kids_len (ks : List Nd) (o : Int) (sep : List UInt8) (hs : sep.length ≤ 3) : (jl sep 0 (ks.map (kidL o))).length ≤ 70 * wtL ks := by
  rw [← sum_wt]
  refine jl_len ks 0 fun x _ => ?_
  have := text_len x
  unfold kidL wrapB
  split
  · simp only [List.length_append, List.length_cons, List.length_nil]; omega
  · omega
def PrintP (x : Nd) : Prop := ∀ (v : Nv) (w : World), NdIn w v x → chkN x = true → wtN x ≤ 1000000000 → Calls Tryd.prog 39 #[v.val] w fun e w' => e = .returned (.string ⟨(textN x).toArray⟩) ∧ Below w.heap.size w w'
set_option maxRecDepth 100000 in
set_option maxHeartbeats 8000000 in
theorem print_2 (kind : Int) (attr : ByteArray) (qi : Option Addr) (ci : Nat) (ints : List Int) (qw : Option Addr) (cw : Nat) (words : List ByteArray) (lo hi : Int) (qk : Option Addr) (ck : Nat) (kids : List Nd) (w : World) (hk : NdsOf w qk ck kids) (ih : ∀ x ∈ kids, PrintP x) (hchk : ∀ x ∈ kids, chkN x = true) (l3 : wtL kids ≤ 1000000000) :
    Calls Tryd.prog 39 #[.agg #[.int .i64 kind, .string attr, .slice qi ints.length ci, .slice qw words.length cw, .int .i64 lo, .int .i64 hi, .int .i64 2, .slice qk kids.length ck]] w fun e w' => e = .returned (.string ⟨([33] ++ jl [32, 38, 32] 0 (kids.map (kidL 2))).toArray⟩) ∧ Below w.heap.size w w' := by
  have hlen := Nat.le_trans (Nat.le_trans (len_size kids) (sizeL_wt kids)) l3
  have a0 : (kids.length : Int) ≤ 1000000000 := by omega
  have hkl := kids_len kids 2 [32, 38, 32] (by decide)
  obtain ⟨X, HX⟩ : ∃ X, w.alloc (.cells #[.int .i64 kind, .string attr, .slice qi ints.length ci, .slice qw words.length cw, .int .i64 lo, .int .i64 hi, .int .i64 2, .slice qk kids.length ck] 28) = X := ⟨_, rfl⟩
  have hX0 : X.heap[w.heap.size]? = some (.cells #[.int .i64 kind, .string attr, .slice qi ints.length ci, .slice qw words.length cw, .int .i64 lo, .int .i64 hi, .int .i64 2, .slice qk kids.length ck] 28 (0, 0)) := by rw [← HX]; exact box_nw _ _
  have hwX : Below w.heap.size w X := by rw [← HX]; exact (Below.refl _ _).alloc (Nat.le_refl _) _
  obtain ⟨x0, x1, x2, x3, x4, x5, x6, x7⟩ := of8' hX0
  have hz0 := heap_lt hX0
  have HX0 := hide hX0
  have HWX := hide hwX
  have HK := hide (hk.below hwX)
  have IH := hide ih
  have HC := hide hchk
  clear ih hk hX0 hwX hchk
  go_enter Tryd.func39, Tryd.ntmps39
  go_wp2
  go_loopw [3, 5] (fun s i wr => ∃ (k : Nat) (t : ByteArray), k ≤ kids.length ∧ i = .int .i64 k ∧ s = .string t ∧ t.data.toList = [33] ++ jl [32, 38, 32] 0 ((kids.take k).map (kidL 2)) ∧ Below X.heap.size X wr) (fun _ i _ => kids.length - (intOf i).toNat)
  case atStart => exact ⟨0, ⟨#[33]⟩, by omega, rfl, rfl, by simp [jl], Below.refl _ _⟩
  case round =>
    obtain ⟨k, t, hkk, rfl, rfl, ht, hbel⟩ := hrel
    obtain ⟨t0, t1, t2, t3, t4, t5, t6, t7⟩ := of8' ((hbel.block _ hz0).trans (unhide HX0))
    have hpl := jl_part (kidL 2) [32, 38, 32] kids k
    have htl : t.size = 1 + (jl [32, 38, 32] 0 ((kids.take k).map (kidL 2))).length := by rw [list_size, ht, List.length_append]; rfl
    by_cases hlt : k < kids.length
    · obtain ⟨x, hx, hxd⟩ := get_at hlt
      clear hxd
      obtain ⟨b, off, v', hq, hin, g0, g1, g2, g3, g4, g5, g6, g7⟩ := (unhide HK).on hx hbel
      subst hq
      have hxm : x ∈ kids := List.mem_of_getElem? hx
      have hxw := wtL_mem hxm
      have hop := hin.op_eq
      have ki0 : (0 : Int) ≤ (k : Int) := by omega
      have ki1 : (k : Int) < (kids.length : Int) := by omega
      have hC := fun (W : World) (hW : Below wr.heap.size wr W) => unhide IH x hxm v' W (hin.keep hW) (unhide HC x hxm) (by omega)
      simp only [Nv.val] at hC
      have HS := hide (jl_take (kidL 2) [32, 38, 32] hx)
      have hxl := text_len x
      obtain ⟨m, hm0⟩ : ∃ m : ByteArray, m = ⟨(textN x).toArray⟩ := ⟨_, rfl⟩
      rw [← hm0] at hC
      have hms : m.size ≤ 70000000000 := by rw [list_size, hm0]; simp; omega
      have hmd : m.data.toList = textN x := by rw [hm0]
      have HM := hide hmd
      have HT := hide ht
      have HB := hide hbel
      have hlt0 : w.heap.size < wr.heap.size := Nat.lt_of_lt_of_le hz0 hbel.size
      have hne0 : ¬ w.heap.size = wr.heap.size := Nat.ne_of_lt hlt0
      have hts : t.size ≤ 70000000010 := by omega
      have cs : (⟨#[32, 38, 32]⟩ : ByteArray).size = 3 := rfl
      have cp : (⟨#[40]⟩ : ByteArray).size = 1 := rfl
      have cq : (⟨#[41]⟩ : ByteArray).size = 1 := rfl
      clear hin hx hxm hbel ht hpl htl hlt hm0 hmd hxl
      have fin : ∀ (u : ByteArray) (z : List UInt8), u.data.toList = t.data.toList ++ (if 0 < k then [32, 38, 32] else []) ++ z → z = kidL 2 x → u.data.toList = [33] ++ jl [32, 38, 32] 0 ((kids.take (k + 1)).map (kidL 2)) := fun u z h1 h2 => by
        rw [unhide HS, h1, unhide HT, h2]; simp only [List.append_assoc]
      have FIN := hide fin
      clear fin
      have hbr : brack 2 v'.op = true ∨ brack 2 v'.op = false := by cases brack 2 v'.op <;> simp
      obtain ⟨T, hT⟩ : ∃ T : ByteArray, T = (if 0 < k then t ++ ⟨#[32, 38, 32]⟩ else t) := ⟨_, rfl⟩
      have hTs : T.size ≤ 70000000020 := by rw [hT]; split; rw [ByteArray.size_append, cs]; omega; omega
      have hTd : T.data.toList = t.data.toList ++ (if 0 < k then [32, 38, 32] else []) := by rw [hT]; split; rw [app_list]; simp
      have HTD := hide hTd
      have hadd0 := fun W => run_string_add_sum (P := Tryd.prog) W t ⟨#[32, 38, 32]⟩ (by rw [cs]; omega)
      have hadd1 := fun W => run_string_add_sum (P := Tryd.prog) W T m (by omega)
      have hadd2 := fun W => run_string_add_sum (P := Tryd.prog) W T ⟨#[40]⟩ (by rw [cp]; omega)
      have hadd3 := fun W => run_string_add_sum (P := Tryd.prog) W (T ++ ⟨#[40]⟩) m (by rw [ByteArray.size_append, cp]; omega)
      have hadd4 := fun W => run_string_add_sum (P := Tryd.prog) W (T ++ ⟨#[40]⟩ ++ m) ⟨#[41]⟩ (by rw [ByteArray.size_append, ByteArray.size_append, cp, cq]; omega)
      clear hTs hTd cs cp cq hms hts
      have hyes : brack 2 v'.op = true → [40] ++ textN x ++ [41] = kidL 2 x := fun h => by rw [kidL_yes (by rw [← hop]; exact h)]
      have hno : brack 2 v'.op = false → textN x = kidL 2 x := fun h => by rw [kidL_no (by rw [← hop]; exact h)]
      have HYES := hide hyes
      have HNO := hide hno
      clear hyes hno hop hbr
      have hcase : (v'.op = 4 ∧ brack 2 v'.op = true) ∨ (¬ v'.op = 4 ∧ v'.op = 3 ∧ brack 2 v'.op = true) ∨ (¬ v'.op = 4 ∧ ¬ v'.op = 3 ∧ brack 2 v'.op = false) := by
        by_cases h4 : v'.op = 4
        · exact Or.inl ⟨h4, by simp [brack, h4]⟩
        · by_cases h3 : v'.op = 3
          · exact Or.inr (Or.inl ⟨h4, h3, by simp [brack, h3]⟩)
          · exact Or.inr (Or.inr ⟨h4, h3, by simp [brack, h3, h4]⟩)
      generalize hvo : v'.op = o at *
      clear hvo
      by_cases hk0 : 0 < k
      · have hk1 : (0 : Int) < (k : Int) := by omega
        rw [if_pos hk0] at hT HTD FIN
        subst hT
        rcases hcase with ⟨rfl, hb⟩ | ⟨h4, rfl, hb⟩ | ⟨h4, h3, hb⟩
        · skip
          go_wp2_with (go_at_call 39; refine (hC _ (by exact (Below.refl _ _).alloc (Nat.le_refl _) _)).mono ?_; rintro e w1 ⟨rfl, b1⟩; have B1 := hide b1; clear b1)
          go_roundw
          case rel => exact ⟨k + 1, _, by omega, by go_num, rfl, unhide FIN _ _ (by rw [app_list, app_list, app_list, unhide HTD, unhide HM] <;> simp) (unhide HYES hb), below_sub (unhide HB) (below_sub ((Below.refl _ _).alloc (Nat.le_refl _) _) (unhide B1))⟩
          case measure => simp [intOf]; omega
        · skip
          go_wp2_with (go_at_call 39; refine (hC _ (by exact (Below.refl _ _).alloc (Nat.le_refl _) _)).mono ?_; rintro e w1 ⟨rfl, b1⟩; have B1 := hide b1; clear b1)
          go_roundw
          case rel => exact ⟨k + 1, _, by omega, by go_num, rfl, unhide FIN _ _ (by rw [app_list, app_list, app_list, unhide HTD, unhide HM] <;> simp) (unhide HYES hb), below_sub (unhide HB) (below_sub ((Below.refl _ _).alloc (Nat.le_refl _) _) (unhide B1))⟩
          case measure => simp [intOf]; omega
        · have q4 : (o == 4) = false := by simpa using h4
          have q3 : (o == 3) = false := by simpa using h3
          go_wp2_with (go_at_call 39; refine (hC _ (by exact (Below.refl _ _).alloc (Nat.le_refl _) _)).mono ?_; rintro e w1 ⟨rfl, b1⟩; have B1 := hide b1; clear b1)
          go_roundw
          case rel => exact ⟨k + 1, _, by omega, by go_num, rfl, unhide FIN _ _ (by rw [app_list, unhide HTD, unhide HM] <;> simp) (unhide HNO hb), below_sub (unhide HB) (below_sub ((Below.refl _ _).alloc (Nat.le_refl _) _) (unhide B1))⟩
          case measure => simp [intOf]; omega
      · have hk1 : ¬ (0 : Int) < (k : Int) := by omega
        rw [if_neg hk0] at hT HTD FIN
        subst hT
        rcases hcase with ⟨rfl, hb⟩ | ⟨h4, rfl, hb⟩ | ⟨h4, h3, hb⟩
        · skip
          go_wp2_with (go_at_call 39; refine (hC _ (by exact (Below.refl _ _).alloc (Nat.le_refl _) _)).mono ?_; rintro e w1 ⟨rfl, b1⟩; have B1 := hide b1; clear b1)
          go_roundw
          case rel => exact ⟨k + 1, _, by omega, by go_num, rfl, unhide FIN _ _ (by rw [app_list, app_list, app_list, unhide HTD, unhide HM] <;> simp) (unhide HYES hb), below_sub (unhide HB) (below_sub ((Below.refl _ _).alloc (Nat.le_refl _) _) (unhide B1))⟩
          case measure => simp [intOf]; omega
        · skip
          go_wp2_with (go_at_call 39; refine (hC _ (by exact (Below.refl _ _).alloc (Nat.le_refl _) _)).mono ?_; rintro e w1 ⟨rfl, b1⟩; have B1 := hide b1; clear b1)
          go_roundw
          case rel => exact ⟨k + 1, _, by omega, by go_num, rfl, unhide FIN _ _ (by rw [app_list, app_list, app_list, unhide HTD, unhide HM] <;> simp) (unhide HYES hb), below_sub (unhide HB) (below_sub ((Below.refl _ _).alloc (Nat.le_refl _) _) (unhide B1))⟩
          case measure => simp [intOf]; omega
        · have q4 : (o == 4) = false := by simpa using h4
          have q3 : (o == 3) = false := by simpa using h3
          go_wp2_with (go_at_call 39; refine (hC _ (by exact (Below.refl _ _).alloc (Nat.le_refl _) _)).mono ?_; rintro e w1 ⟨rfl, b1⟩; have B1 := hide b1; clear b1)
          go_roundw
          case rel => exact ⟨k + 1, _, by omega, by go_num, rfl, unhide FIN _ _ (by rw [app_list, unhide HTD, unhide HM] <;> simp) (unhide HNO hb), below_sub (unhide HB) (below_sub ((Below.refl _ _).alloc (Nat.le_refl _) _) (unhide B1))⟩
          case measure => simp [intOf]; omega
    · have hke : k = kids.length := by omega
      subst hke
      rw [List.take_of_length_le (Nat.le_refl _)] at ht
      have ki1 : ¬ (kids.length : Int) < (kids.length : Int) := by omega
      have HT := hide ht
      have HB := hide hbel
      clear ht hbel hpl htl hlt hkk
      go_wp2
      go_ret
      exact ⟨ret_ba (WideShapes.bytes_inj (by rw [unhide HT] <;> simp)), below_sub (unhide HWX) (unhide HB)⟩
set_option maxRecDepth 100000 in
set_option maxHeartbeats 8000000 in
theorem print_3 (kind : Int) (attr : ByteArray) (qi : Option Addr) (ci : Nat) (ints : List Int) (qw : Option Addr) (cw : Nat) (words : List ByteArray) (lo hi : Int) (qk : Option Addr) (ck : Nat) (kids : List Nd) (w : World) (hk : NdsOf w qk ck kids) (ih : ∀ x ∈ kids, PrintP x) (hchk : ∀ x ∈ kids, chkN x = true) (l3 : wtL kids ≤ 1000000000) :
    Calls Tryd.prog 39 #[.agg #[.int .i64 kind, .string attr, .slice qi ints.length ci, .slice qw words.length cw, .int .i64 lo, .int .i64 hi, .int .i64 3, .slice qk kids.length ck]] w fun e w' => e = .returned (.string ⟨(([] : List UInt8) ++ jl [32, 38, 32] 0 (kids.map (kidL 3))).toArray⟩) ∧ Below w.heap.size w w' := by
  have hlen := Nat.le_trans (Nat.le_trans (len_size kids) (sizeL_wt kids)) l3
  have a0 : (kids.length : Int) ≤ 1000000000 := by omega
  have hkl := kids_len kids 3 [32, 38, 32] (by decide)
  obtain ⟨X, HX⟩ : ∃ X, w.alloc (.cells #[.int .i64 kind, .string attr, .slice qi ints.length ci, .slice qw words.length cw, .int .i64 lo, .int .i64 hi, .int .i64 3, .slice qk kids.length ck] 28) = X := ⟨_, rfl⟩
  have hX0 : X.heap[w.heap.size]? = some (.cells #[.int .i64 kind, .string attr, .slice qi ints.length ci, .slice qw words.length cw, .int .i64 lo, .int .i64 hi, .int .i64 3, .slice qk kids.length ck] 28 (0, 0)) := by rw [← HX]; exact box_nw _ _
  have hwX : Below w.heap.size w X := by rw [← HX]; exact (Below.refl _ _).alloc (Nat.le_refl _) _
  obtain ⟨x0, x1, x2, x3, x4, x5, x6, x7⟩ := of8' hX0
  have hz0 := heap_lt hX0
  have HX0 := hide hX0
  have HWX := hide hwX
  have HK := hide (hk.below hwX)
  have IH := hide ih
  have HC := hide hchk
  clear ih hk hX0 hwX hchk
  go_enter Tryd.func39, Tryd.ntmps39
  go_wp2
  go_loopw [3, 5] (fun s i wr => ∃ (k : Nat) (t : ByteArray), k ≤ kids.length ∧ i = .int .i64 k ∧ s = .string t ∧ t.data.toList = ([] : List UInt8) ++ jl [32, 38, 32] 0 ((kids.take k).map (kidL 3)) ∧ Below X.heap.size X wr) (fun _ i _ => kids.length - (intOf i).toNat)
  case atStart => exact ⟨0, ⟨#[]⟩, by omega, rfl, rfl, by simp [jl], Below.refl _ _⟩
  case round =>
    obtain ⟨k, t, hkk, rfl, rfl, ht, hbel⟩ := hrel
    obtain ⟨t0, t1, t2, t3, t4, t5, t6, t7⟩ := of8' ((hbel.block _ hz0).trans (unhide HX0))
    have hpl := jl_part (kidL 3) [32, 38, 32] kids k
    have htl : t.size = 0 + (jl [32, 38, 32] 0 ((kids.take k).map (kidL 3))).length := by rw [list_size, ht, List.length_append]; rfl
    by_cases hlt : k < kids.length
    · obtain ⟨x, hx, hxd⟩ := get_at hlt
      clear hxd
      obtain ⟨b, off, v', hq, hin, g0, g1, g2, g3, g4, g5, g6, g7⟩ := (unhide HK).on hx hbel
      subst hq
      have hxm : x ∈ kids := List.mem_of_getElem? hx
      have hxw := wtL_mem hxm
      have hop := hin.op_eq
      have ki0 : (0 : Int) ≤ (k : Int) := by omega
      have ki1 : (k : Int) < (kids.length : Int) := by omega
      have hC := fun (W : World) (hW : Below wr.heap.size wr W) => unhide IH x hxm v' W (hin.keep hW) (unhide HC x hxm) (by omega)
      simp only [Nv.val] at hC
      have HS := hide (jl_take (kidL 3) [32, 38, 32] hx)
      have hxl := text_len x
      obtain ⟨m, hm0⟩ : ∃ m : ByteArray, m = ⟨(textN x).toArray⟩ := ⟨_, rfl⟩
      rw [← hm0] at hC
      have hms : m.size ≤ 70000000000 := by rw [list_size, hm0]; simp; omega
      have hmd : m.data.toList = textN x := by rw [hm0]
      have HM := hide hmd
      have HT := hide ht
      have HB := hide hbel
      have hlt0 : w.heap.size < wr.heap.size := Nat.lt_of_lt_of_le hz0 hbel.size
      have hne0 : ¬ w.heap.size = wr.heap.size := Nat.ne_of_lt hlt0
      have hts : t.size ≤ 70000000010 := by omega
      have cs : (⟨#[32, 38, 32]⟩ : ByteArray).size = 3 := rfl
      have cp : (⟨#[40]⟩ : ByteArray).size = 1 := rfl
      have cq : (⟨#[41]⟩ : ByteArray).size = 1 := rfl
      clear hin hx hxm hbel ht hpl htl hlt hm0 hmd hxl
      have fin : ∀ (u : ByteArray) (z : List UInt8), u.data.toList = t.data.toList ++ (if 0 < k then [32, 38, 32] else []) ++ z → z = kidL 3 x → u.data.toList = ([] : List UInt8) ++ jl [32, 38, 32] 0 ((kids.take (k + 1)).map (kidL 3)) := fun u z h1 h2 => by
        rw [unhide HS, h1, unhide HT, h2]; simp only [List.append_assoc]
      have FIN := hide fin
      clear fin
      have hbr : brack 3 v'.op = true ∨ brack 3 v'.op = false := by cases brack 3 v'.op <;> simp
      obtain ⟨T, hT⟩ : ∃ T : ByteArray, T = (if 0 < k then t ++ ⟨#[32, 38, 32]⟩ else t) := ⟨_, rfl⟩
      have hTs : T.size ≤ 70000000020 := by rw [hT]; split; rw [ByteArray.size_append, cs]; omega; omega
      have hTd : T.data.toList = t.data.toList ++ (if 0 < k then [32, 38, 32] else []) := by rw [hT]; split; rw [app_list]; simp
      have HTD := hide hTd
      have hadd0 := fun W => run_string_add_sum (P := Tryd.prog) W t ⟨#[32, 38, 32]⟩ (by rw [cs]; omega)
      have hadd1 := fun W => run_string_add_sum (P := Tryd.prog) W T m (by omega)
      have hadd2 := fun W => run_string_add_sum (P := Tryd.prog) W T ⟨#[40]⟩ (by rw [cp]; omega)
      have hadd3 := fun W => run_string_add_sum (P := Tryd.prog) W (T ++ ⟨#[40]⟩) m (by rw [ByteArray.size_append, cp]; omega)
      have hadd4 := fun W => run_string_add_sum (P := Tryd.prog) W (T ++ ⟨#[40]⟩ ++ m) ⟨#[41]⟩ (by rw [ByteArray.size_append, ByteArray.size_append, cp, cq]; omega)
      clear hTs hTd cs cp cq hms hts
      have hyes : brack 3 v'.op = true → [40] ++ textN x ++ [41] = kidL 3 x := fun h => by rw [kidL_yes (by rw [← hop]; exact h)]
      have hno : brack 3 v'.op = false → textN x = kidL 3 x := fun h => by rw [kidL_no (by rw [← hop]; exact h)]
      have HYES := hide hyes
      have HNO := hide hno
      clear hyes hno hop hbr
      have hcase : (v'.op = 4 ∧ brack 3 v'.op = true) ∨ (¬ v'.op = 4 ∧ v'.op = 3 ∧ brack 3 v'.op = true) ∨ (¬ v'.op = 4 ∧ ¬ v'.op = 3 ∧ brack 3 v'.op = false) := by
        by_cases h4 : v'.op = 4
        · exact Or.inl ⟨h4, by simp [brack, h4]⟩
        · by_cases h3 : v'.op = 3
          · exact Or.inr (Or.inl ⟨h4, h3, by simp [brack, h3]⟩)
          · exact Or.inr (Or.inr ⟨h4, h3, by simp [brack, h3, h4]⟩)
      generalize hvo : v'.op = o at *
      clear hvo
      by_cases hk0 : 0 < k
      · have hk1 : (0 : Int) < (k : Int) := by omega
        rw [if_pos hk0] at hT HTD FIN
        subst hT
        rcases hcase with ⟨rfl, hb⟩ | ⟨h4, rfl, hb⟩ | ⟨h4, h3, hb⟩
        · skip
          go_wp2_with (go_at_call 39; refine (hC _ (by exact (Below.refl _ _).alloc (Nat.le_refl _) _)).mono ?_; rintro e w1 ⟨rfl, b1⟩; have B1 := hide b1; clear b1)
          go_roundw
          case rel => exact ⟨k + 1, _, by omega, by go_num, rfl, unhide FIN _ _ (by rw [app_list, app_list, app_list, unhide HTD, unhide HM] <;> simp) (unhide HYES hb), below_sub (unhide HB) (below_sub ((Below.refl _ _).alloc (Nat.le_refl _) _) (unhide B1))⟩
          case measure => simp [intOf]; omega
        · skip
          go_wp2_with (go_at_call 39; refine (hC _ (by exact (Below.refl _ _).alloc (Nat.le_refl _) _)).mono ?_; rintro e w1 ⟨rfl, b1⟩; have B1 := hide b1; clear b1)
          go_roundw
          case rel => exact ⟨k + 1, _, by omega, by go_num, rfl, unhide FIN _ _ (by rw [app_list, app_list, app_list, unhide HTD, unhide HM] <;> simp) (unhide HYES hb), below_sub (unhide HB) (below_sub ((Below.refl _ _).alloc (Nat.le_refl _) _) (unhide B1))⟩
          case measure => simp [intOf]; omega
        · have q4 : (o == 4) = false := by simpa using h4
          have q3 : (o == 3) = false := by simpa using h3
          go_wp2_with (go_at_call 39; refine (hC _ (by exact (Below.refl _ _).alloc (Nat.le_refl _) _)).mono ?_; rintro e w1 ⟨rfl, b1⟩; have B1 := hide b1; clear b1)
          go_roundw
          case rel => exact ⟨k + 1, _, by omega, by go_num, rfl, unhide FIN _ _ (by rw [app_list, unhide HTD, unhide HM] <;> simp) (unhide HNO hb), below_sub (unhide HB) (below_sub ((Below.refl _ _).alloc (Nat.le_refl _) _) (unhide B1))⟩
          case measure => simp [intOf]; omega
      · have hk1 : ¬ (0 : Int) < (k : Int) := by omega
        rw [if_neg hk0] at hT HTD FIN
        subst hT
        rcases hcase with ⟨rfl, hb⟩ | ⟨h4, rfl, hb⟩ | ⟨h4, h3, hb⟩
        · skip
          go_wp2_with (go_at_call 39; refine (hC _ (by exact (Below.refl _ _).alloc (Nat.le_refl _) _)).mono ?_; rintro e w1 ⟨rfl, b1⟩; have B1 := hide b1; clear b1)
          go_roundw
          case rel => exact ⟨k + 1, _, by omega, by go_num, rfl, unhide FIN _ _ (by rw [app_list, app_list, app_list, unhide HTD, unhide HM] <;> simp) (unhide HYES hb), below_sub (unhide HB) (below_sub ((Below.refl _ _).alloc (Nat.le_refl _) _) (unhide B1))⟩
          case measure => simp [intOf]; omega
        · skip
          go_wp2_with (go_at_call 39; refine (hC _ (by exact (Below.refl _ _).alloc (Nat.le_refl _) _)).mono ?_; rintro e w1 ⟨rfl, b1⟩; have B1 := hide b1; clear b1)
          go_roundw
          case rel => exact ⟨k + 1, _, by omega, by go_num, rfl, unhide FIN _ _ (by rw [app_list, app_list, app_list, unhide HTD, unhide HM] <;> simp) (unhide HYES hb), below_sub (unhide HB) (below_sub ((Below.refl _ _).alloc (Nat.le_refl _) _) (unhide B1))⟩
          case measure => simp [intOf]; omega
        · have q4 : (o == 4) = false := by simpa using h4
          have q3 : (o == 3) = false := by simpa using h3
          go_wp2_with (go_at_call 39; refine (hC _ (by exact (Below.refl _ _).alloc (Nat.le_refl _) _)).mono ?_; rintro e w1 ⟨rfl, b1⟩; have B1 := hide b1; clear b1)
          go_roundw
          case rel => exact ⟨k + 1, _, by omega, by go_num, rfl, unhide FIN _ _ (by rw [app_list, unhide HTD, unhide HM] <;> simp) (unhide HNO hb), below_sub (unhide HB) (below_sub ((Below.refl _ _).alloc (Nat.le_refl _) _) (unhide B1))⟩
          case measure => simp [intOf]; omega
    · have hke : k = kids.length := by omega
      subst hke
      rw [List.take_of_length_le (Nat.le_refl _)] at ht
      have ki1 : ¬ (kids.length : Int) < (kids.length : Int) := by omega
      have HT := hide ht
      have HB := hide hbel
      clear ht hbel hpl htl hlt hkk
      go_wp2
      go_ret
      exact ⟨ret_ba (WideShapes.bytes_inj (by rw [unhide HT] <;> simp)), below_sub (unhide HWX) (unhide HB)⟩
set_option maxRecDepth 100000 in
set_option maxHeartbeats 8000000 in
theorem print_4 (kind : Int) (attr : ByteArray) (qi : Option Addr) (ci : Nat) (ints : List Int) (qw : Option Addr) (cw : Nat) (words : List ByteArray) (lo hi : Int) (qk : Option Addr) (ck : Nat) (kids : List Nd) (w : World) (hk : NdsOf w qk ck kids) (ih : ∀ x ∈ kids, PrintP x) (hchk : ∀ x ∈ kids, chkN x = true) (l3 : wtL kids ≤ 1000000000) :
    Calls Tryd.prog 39 #[.agg #[.int .i64 kind, .string attr, .slice qi ints.length ci, .slice qw words.length cw, .int .i64 lo, .int .i64 hi, .int .i64 4, .slice qk kids.length ck]] w fun e w' => e = .returned (.string ⟨(([] : List UInt8) ++ jl [32, 124, 32] 0 (kids.map (kidL 4))).toArray⟩) ∧ Below w.heap.size w w' := by
  have hlen := Nat.le_trans (Nat.le_trans (len_size kids) (sizeL_wt kids)) l3
  have a0 : (kids.length : Int) ≤ 1000000000 := by omega
  have hkl := kids_len kids 4 [32, 124, 32] (by decide)
  obtain ⟨X, HX⟩ : ∃ X, w.alloc (.cells #[.int .i64 kind, .string attr, .slice qi ints.length ci, .slice qw words.length cw, .int .i64 lo, .int .i64 hi, .int .i64 4, .slice qk kids.length ck] 28) = X := ⟨_, rfl⟩
  have hX0 : X.heap[w.heap.size]? = some (.cells #[.int .i64 kind, .string attr, .slice qi ints.length ci, .slice qw words.length cw, .int .i64 lo, .int .i64 hi, .int .i64 4, .slice qk kids.length ck] 28 (0, 0)) := by rw [← HX]; exact box_nw _ _
  have hwX : Below w.heap.size w X := by rw [← HX]; exact (Below.refl _ _).alloc (Nat.le_refl _) _
  obtain ⟨x0, x1, x2, x3, x4, x5, x6, x7⟩ := of8' hX0
  have hz0 := heap_lt hX0
  have HX0 := hide hX0
  have HWX := hide hwX
  have HK := hide (hk.below hwX)
  have IH := hide ih
  have HC := hide hchk
  clear ih hk hX0 hwX hchk
  go_enter Tryd.func39, Tryd.ntmps39
  go_wp2
  go_loopw [3, 5] (fun s i wr => ∃ (k : Nat) (t : ByteArray), k ≤ kids.length ∧ i = .int .i64 k ∧ s = .string t ∧ t.data.toList = ([] : List UInt8) ++ jl [32, 124, 32] 0 ((kids.take k).map (kidL 4)) ∧ Below X.heap.size X wr) (fun _ i _ => kids.length - (intOf i).toNat)
  case atStart => exact ⟨0, ⟨#[]⟩, by omega, rfl, rfl, by simp [jl], Below.refl _ _⟩
  case round =>
    obtain ⟨k, t, hkk, rfl, rfl, ht, hbel⟩ := hrel
    obtain ⟨t0, t1, t2, t3, t4, t5, t6, t7⟩ := of8' ((hbel.block _ hz0).trans (unhide HX0))
    have hpl := jl_part (kidL 4) [32, 124, 32] kids k
    have htl : t.size = 0 + (jl [32, 124, 32] 0 ((kids.take k).map (kidL 4))).length := by rw [list_size, ht, List.length_append]; rfl
    by_cases hlt : k < kids.length
    · obtain ⟨x, hx, hxd⟩ := get_at hlt
      clear hxd
      obtain ⟨b, off, v', hq, hin, g0, g1, g2, g3, g4, g5, g6, g7⟩ := (unhide HK).on hx hbel
      subst hq
      have hxm : x ∈ kids := List.mem_of_getElem? hx
      have hxw := wtL_mem hxm
      have hop := hin.op_eq
      have ki0 : (0 : Int) ≤ (k : Int) := by omega
      have ki1 : (k : Int) < (kids.length : Int) := by omega
      have hC := fun (W : World) (hW : Below wr.heap.size wr W) => unhide IH x hxm v' W (hin.keep hW) (unhide HC x hxm) (by omega)
      simp only [Nv.val] at hC
      have HS := hide (jl_take (kidL 4) [32, 124, 32] hx)
      have hxl := text_len x
      obtain ⟨m, hm0⟩ : ∃ m : ByteArray, m = ⟨(textN x).toArray⟩ := ⟨_, rfl⟩
      rw [← hm0] at hC
      have hms : m.size ≤ 70000000000 := by rw [list_size, hm0]; simp; omega
      have hmd : m.data.toList = textN x := by rw [hm0]
      have HM := hide hmd
      have HT := hide ht
      have HB := hide hbel
      have hlt0 : w.heap.size < wr.heap.size := Nat.lt_of_lt_of_le hz0 hbel.size
      have hne0 : ¬ w.heap.size = wr.heap.size := Nat.ne_of_lt hlt0
      have hts : t.size ≤ 70000000010 := by omega
      have cs : (⟨#[32, 124, 32]⟩ : ByteArray).size = 3 := rfl
      have cp : (⟨#[40]⟩ : ByteArray).size = 1 := rfl
      have cq : (⟨#[41]⟩ : ByteArray).size = 1 := rfl
      clear hin hx hxm hbel ht hpl htl hlt hm0 hmd hxl
      have fin : ∀ (u : ByteArray) (z : List UInt8), u.data.toList = t.data.toList ++ (if 0 < k then [32, 124, 32] else []) ++ z → z = kidL 4 x → u.data.toList = ([] : List UInt8) ++ jl [32, 124, 32] 0 ((kids.take (k + 1)).map (kidL 4)) := fun u z h1 h2 => by
        rw [unhide HS, h1, unhide HT, h2]; simp only [List.append_assoc]
      have FIN := hide fin
      clear fin
      have hbr : brack 4 v'.op = true ∨ brack 4 v'.op = false := by cases brack 4 v'.op <;> simp
      obtain ⟨T, hT⟩ : ∃ T : ByteArray, T = (if 0 < k then t ++ ⟨#[32, 124, 32]⟩ else t) := ⟨_, rfl⟩
      have hTs : T.size ≤ 70000000020 := by rw [hT]; split; rw [ByteArray.size_append, cs]; omega; omega
      have hTd : T.data.toList = t.data.toList ++ (if 0 < k then [32, 124, 32] else []) := by rw [hT]; split; rw [app_list]; simp
      have HTD := hide hTd
      have hadd0 := fun W => run_string_add_sum (P := Tryd.prog) W t ⟨#[32, 124, 32]⟩ (by rw [cs]; omega)
      have hadd1 := fun W => run_string_add_sum (P := Tryd.prog) W T m (by omega)
      have hadd2 := fun W => run_string_add_sum (P := Tryd.prog) W T ⟨#[40]⟩ (by rw [cp]; omega)
      have hadd3 := fun W => run_string_add_sum (P := Tryd.prog) W (T ++ ⟨#[40]⟩) m (by rw [ByteArray.size_append, cp]; omega)
      have hadd4 := fun W => run_string_add_sum (P := Tryd.prog) W (T ++ ⟨#[40]⟩ ++ m) ⟨#[41]⟩ (by rw [ByteArray.size_append, ByteArray.size_append, cp, cq]; omega)
      clear hTs hTd cs cp cq hms hts
      have hyes : brack 4 v'.op = true → [40] ++ textN x ++ [41] = kidL 4 x := fun h => by rw [kidL_yes (by rw [← hop]; exact h)]
      have hno : brack 4 v'.op = false → textN x = kidL 4 x := fun h => by rw [kidL_no (by rw [← hop]; exact h)]
      have HYES := hide hyes
      have HNO := hide hno
      clear hyes hno hop hbr
      have hcase : (v'.op = 4 ∧ brack 4 v'.op = true) ∨ (¬ v'.op = 4 ∧ v'.op = 3 ∧ brack 4 v'.op = false) ∨ (¬ v'.op = 4 ∧ ¬ v'.op = 3 ∧ brack 4 v'.op = false) := by
        by_cases h4 : v'.op = 4
        · exact Or.inl ⟨h4, by simp [brack, h4]⟩
        · by_cases h3 : v'.op = 3
          · exact Or.inr (Or.inl ⟨h4, h3, by simp [brack, h3]⟩)
          · exact Or.inr (Or.inr ⟨h4, h3, by simp [brack, h3, h4]⟩)
      generalize hvo : v'.op = o at *
      clear hvo
      by_cases hk0 : 0 < k
      · have hk1 : (0 : Int) < (k : Int) := by omega
        rw [if_pos hk0] at hT HTD FIN
        subst hT
        rcases hcase with ⟨rfl, hb⟩ | ⟨h4, rfl, hb⟩ | ⟨h4, h3, hb⟩
        · skip
          go_wp2_with (go_at_call 39; refine (hC _ (by exact (Below.refl _ _).alloc (Nat.le_refl _) _)).mono ?_; rintro e w1 ⟨rfl, b1⟩; have B1 := hide b1; clear b1)
          go_roundw
          case rel => exact ⟨k + 1, _, by omega, by go_num, rfl, unhide FIN _ _ (by rw [app_list, app_list, app_list, unhide HTD, unhide HM] <;> simp) (unhide HYES hb), below_sub (unhide HB) (below_sub ((Below.refl _ _).alloc (Nat.le_refl _) _) (unhide B1))⟩
          case measure => simp [intOf]; omega
        · skip
          go_wp2_with (go_at_call 39; refine (hC _ (by exact (Below.refl _ _).alloc (Nat.le_refl _) _)).mono ?_; rintro e w1 ⟨rfl, b1⟩; have B1 := hide b1; clear b1)
          go_roundw
          case rel => exact ⟨k + 1, _, by omega, by go_num, rfl, unhide FIN _ _ (by rw [app_list, unhide HTD, unhide HM] <;> simp) (unhide HNO hb), below_sub (unhide HB) (below_sub ((Below.refl _ _).alloc (Nat.le_refl _) _) (unhide B1))⟩
          case measure => simp [intOf]; omega
        · have q4 : (o == 4) = false := by simpa using h4
          have q3 : (o == 3) = false := by simpa using h3
          go_wp2_with (go_at_call 39; refine (hC _ (by exact (Below.refl _ _).alloc (Nat.le_refl _) _)).mono ?_; rintro e w1 ⟨rfl, b1⟩; have B1 := hide b1; clear b1)
          go_roundw
          case rel => exact ⟨k + 1, _, by omega, by go_num, rfl, unhide FIN _ _ (by rw [app_list, unhide HTD, unhide HM] <;> simp) (unhide HNO hb), below_sub (unhide HB) (below_sub ((Below.refl _ _).alloc (Nat.le_refl _) _) (unhide B1))⟩
          case measure => simp [intOf]; omega
      · have hk1 : ¬ (0 : Int) < (k : Int) := by omega
        rw [if_neg hk0] at hT HTD FIN
        subst hT
        rcases hcase with ⟨rfl, hb⟩ | ⟨h4, rfl, hb⟩ | ⟨h4, h3, hb⟩
        · skip
          go_wp2_with (go_at_call 39; refine (hC _ (by exact (Below.refl _ _).alloc (Nat.le_refl _) _)).mono ?_; rintro e w1 ⟨rfl, b1⟩; have B1 := hide b1; clear b1)
          go_roundw
          case rel => exact ⟨k + 1, _, by omega, by go_num, rfl, unhide FIN _ _ (by rw [app_list, app_list, app_list, unhide HTD, unhide HM] <;> simp) (unhide HYES hb), below_sub (unhide HB) (below_sub ((Below.refl _ _).alloc (Nat.le_refl _) _) (unhide B1))⟩
          case measure => simp [intOf]; omega
        · skip
          go_wp2_with (go_at_call 39; refine (hC _ (by exact (Below.refl _ _).alloc (Nat.le_refl _) _)).mono ?_; rintro e w1 ⟨rfl, b1⟩; have B1 := hide b1; clear b1)
          go_roundw
          case rel => exact ⟨k + 1, _, by omega, by go_num, rfl, unhide FIN _ _ (by rw [app_list, unhide HTD, unhide HM] <;> simp) (unhide HNO hb), below_sub (unhide HB) (below_sub ((Below.refl _ _).alloc (Nat.le_refl _) _) (unhide B1))⟩
          case measure => simp [intOf]; omega
        · have q4 : (o == 4) = false := by simpa using h4
          have q3 : (o == 3) = false := by simpa using h3
          go_wp2_with (go_at_call 39; refine (hC _ (by exact (Below.refl _ _).alloc (Nat.le_refl _) _)).mono ?_; rintro e w1 ⟨rfl, b1⟩; have B1 := hide b1; clear b1)
          go_roundw
          case rel => exact ⟨k + 1, _, by omega, by go_num, rfl, unhide FIN _ _ (by rw [app_list, unhide HTD, unhide HM] <;> simp) (unhide HNO hb), below_sub (unhide HB) (below_sub ((Below.refl _ _).alloc (Nat.le_refl _) _) (unhide B1))⟩
          case measure => simp [intOf]; omega
    · have hke : k = kids.length := by omega
      subst hke
      rw [List.take_of_length_le (Nat.le_refl _)] at ht
      have ki1 : ¬ (kids.length : Int) < (kids.length : Int) := by omega
      have HT := hide ht
      have HB := hide hbel
      clear ht hbel hpl htl hlt hkk
      go_wp2
      go_ret
      exact ⟨ret_ba (WideShapes.bytes_inj (by rw [unhide HT] <;> simp)), below_sub (unhide HWX) (unhide HB)⟩
set_option maxRecDepth 100000 in
set_option maxHeartbeats 4000000 in
theorem print_1 (kind : Int) (attr : ByteArray) (qi : Option Addr) (ci : Nat) (ints : List Int) (qw : Option Addr) (cw : Nat) (words : List ByteArray) (lo hi : Int) (qk : Option Addr) (nk ck : Nat) (w : World) (h1 : SlOf encI 1 w qi ci ints) (h2 : SlOf encS 1 w qw cw words) (l1 : ints.length ≤ 1000000000) (l2 : wordsWt words ≤ 1000000000) (hp : predB kind attr ints words lo hi = true) :
    Calls Tryd.prog 39 #[.agg #[.int .i64 kind, .string attr, .slice qi ints.length ci, .slice qw words.length cw, .int .i64 lo, .int .i64 hi, .int .i64 1, .slice qk nk ck]] w fun e w' => e = .returned (.string ⟨(predL kind attr ints words lo hi).toArray⟩) ∧ Below w.heap.size w w' := by
  obtain ⟨X, HX⟩ : ∃ X, w.alloc (.cells #[.int .i64 kind, .string attr, .slice qi ints.length ci, .slice qw words.length cw, .int .i64 lo, .int .i64 hi, .int .i64 1, .slice qk nk ck] 28) = X := ⟨_, rfl⟩
  have hX0 : X.heap[w.heap.size]? = some (.cells #[.int .i64 kind, .string attr, .slice qi ints.length ci, .slice qw words.length cw, .int .i64 lo, .int .i64 hi, .int .i64 1, .slice qk nk ck] 28 (0, 0)) := by rw [← HX]; exact box_nw _ _
  have hwX : Below w.heap.size w X := by rw [← HX]; exact (Below.refl _ _).alloc (Nat.le_refl _) _
  obtain ⟨x0, x1, x2, x3, x4, x5, x6, x7⟩ := of8' hX0
  have hc := refPredT_any kind attr qi ci ints qw cw words lo hi X (h1.below hwX) (h2.below hwX) l1 l2 hp
  have HWX := hide hwX
  clear h1 h2 hwX hX0
  go_enter Tryd.func39, Tryd.ntmps39
  go_wp2_with (go_at_call 63; refine hc.mono ?_; rintro e w1 ⟨rfl, b1⟩)
  go_ret
  exact ⟨rfl, below_sub (unhide HWX) b1⟩
theorem print_any : ∀ x, PrintP x := by
  intro t
  induction t using Nd.ind with
  | h kind attr ints words lo hi op kids ih =>
    intro v w hin hchk hwt
    obtain ⟨qi, ci, qw, cw, qk, ck, rfl, h1, h2, hk⟩ := hin.parts
    simp only [wtN] at hwt
    simp only [Nv.val]
    cases is_of hchk with
    | pred hp =>
      rw [textN_eq, if_pos rfl]
      exact print_1 kind attr qi ci ints qw cw words lo hi qk 0 ck w h1 h2 (by omega) (by omega) hp
    | no hx =>
      rename_i x
      have := print_2 0 ⟨#[]⟩ qi ci [] qw cw [] 0 0 qk ck [x] w hk ih (fun y hy => by simp at hy; rw [hy]; exact hx) (by omega)
      rw [text_no]
      simpa [jl_zero, jt, kid2] using this
    | join ho hl hall =>
      rcases ho with rfl | rfl
      · have := print_3 0 ⟨#[]⟩ qi ci [] qw cw [] 0 0 qk ck kids w hk ih hall (by omega)
        rw [textN_eq, if_neg (by decide), if_neg (by decide), if_pos rfl]
        simpa using this
      · have := print_4 0 ⟨#[]⟩ qi ci [] qw cw [] 0 0 qk ck kids w hk ih hall (by omega)
        rw [textN_eq, if_neg (by decide), if_neg (by decide), if_neg (by decide), if_pos rfl]
        simpa using this
set_option maxRecDepth 100000 in
set_option maxHeartbeats 4000000 in
theorem refTextT_any (t : Nd) (v : Nv) (w : World) (hin : NdIn w v t) (hwt : wtN t ≤ 1000000000) :
    Calls Tryd.prog 12 #[v.val] w fun e w' => e = .returned (.tuple #[.string (textB4 t), .int .i64 (code (chkN t))]) ∧ Below w.heap.size w w' := by
  obtain ⟨X, HX⟩ : ∃ X, w.alloc (.cells #[.int .i64 v.kind, .string v.attr, .slice v.qi v.ni v.ci, .slice v.qw v.nw v.cw, .int .i64 v.lo, .int .i64 v.hi, .int .i64 v.op, .slice v.qk v.nk v.ck] 28) = X := ⟨_, rfl⟩
  have hX0 : X.heap[w.heap.size]? = some (.cells #[.int .i64 v.kind, .string v.attr, .slice v.qi v.ni v.ci, .slice v.qw v.nw v.cw, .int .i64 v.lo, .int .i64 v.hi, .int .i64 v.op, .slice v.qk v.nk v.ck] 28 (0, 0)) := by rw [← HX]; exact box_nw _ _
  have hwX : Below w.heap.size w X := by rw [← HX]; exact (Below.refl _ _).alloc (Nat.le_refl _) _
  obtain ⟨x0, x1, x2, x3, x4, x5, x6, x7⟩ := of8' hX0
  have hz0 := heap_lt hX0
  have HX0 := hide hX0
  have HWX := hide hwX
  have hc := rchk_any t v X (hin.keep hwX) hwt
  simp only [Nv.val] at hc ⊢
  unfold textB4
  cases hq : chkN t with
  | false =>
    rw [hq] at hc
    simp only [code, Bool.false_eq_true, if_false]
    clear hq hX0 hwX hin
    go_enter Tryd.func12, Tryd.ntmps12
    go_wp2_with (go_at_call 15; refine hc.mono ?_; rintro e w1 ⟨rfl, b1⟩)
    go_ret2
    exact ⟨rfl, below_sub (unhide HWX) b1⟩
  | true =>
    rw [hq] at hc
    have hpr := fun (W : World) (hW : Below X.heap.size X W) => print_any t v W ((hin.keep hwX).keep hW) hq hwt
    simp only [Nv.val] at hpr
    simp only [code, if_true]
    clear hq hX0 hwX hin
    go_enter Tryd.func12, Tryd.ntmps12
    go_wp2_with (first
      | (go_at_call 15; refine hc.mono ?_; rintro e w1 ⟨rfl, b1⟩; obtain ⟨y0, y1, y2, y3, y4, y5, y6, y7⟩ := of8' ((b1.block _ hz0).trans (unhide HX0)); have B1 := hide b1; clear b1)
      | (go_at_call 39; refine (hpr _ (unhide B1)).mono ?_; rintro e w2 ⟨rfl, b2⟩; have B2 := hide b2; clear b2))
    go_ret2
    exact ⟨rfl, below_sub (unhide HWX) (below_sub (unhide B1) (unhide B2))⟩
end Go.Proofs.YtmdkdkcjgjknoaaDoor
