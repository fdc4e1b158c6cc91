/- The reference's Normal of a predicate. -/
import Derived.Test.YtedakipjfpdajaaGreatDoorRfI
import Derived.Test.YtedakipjfpdajaaGreatDoorRfS
namespace Go.Proofs.YtedakipjfpdajaaGreatDoor
open Go.RowKit Go.Sort Go.Shelf

theorem of6R {w : World} {M : Nat} {a0 a1 a2 a3 a4 a5 : Value} {T : TypeId} (h : w.heap[M]? = some (.cells #[a0, a1, a2, a3, a4, a5] T (0, 0))) : w.cell? ⟨M, 0, none⟩ = some a0 ∧ w.cell? ⟨M, 1, none⟩ = some a1 ∧ w.cell? ⟨M, 2, none⟩ = some a2 ∧ w.cell? ⟨M, 3, none⟩ = some a3 ∧ w.cell? ⟨M, 4, none⟩ = some a4 ∧ w.cell? ⟨M, 5, none⟩ = some a5 := by
  unfold World.cell?
  simp [h]
theorem box6_2 {V : World} {b : Nat} {c0 c1 c2 c3 c4 c5 : Value} (h : V.heap[b]? = some (.cells #[c0, c1, c2, c3, c4, c5] 25 (0, 0))) (v : Value) : (V.setCell ⟨b, 2, none⟩ v).heap[b]? = some (.cells #[c0, c1, v, c3, c4, c5] 25 (0, 0)) := by
  simp [World.setCell, Array.getElem?_modify, h]
theorem box6_3 {V : World} {b : Nat} {c0 c1 c2 c3 c4 c5 : Value} (h : V.heap[b]? = some (.cells #[c0, c1, c2, c3, c4, c5] 25 (0, 0))) (v : Value) : (V.setCell ⟨b, 3, none⟩ v).heap[b]? = some (.cells #[c0, c1, c2, v, c4, c5] 25 (0, 0)) := by
  simp [World.setCell, Array.getElem?_modify, h]
theorem heap_set_ne {V : World} {b d : Nat} {o : Option Obj} (h : V.heap[d]? = o) (hne : d ≠ b) (k : Nat) (v : Value) : (V.setCell ⟨b, k, none⟩ v).heap[d]? = o := by
  rw [← h]
  simp [World.setCell, Array.getElem?_modify, Ne.symm hne]
theorem SlOf.setR {α : Type} [Inhabited α] {enc : α → List Value} {k c : Nat} {w : World} {q : Option Addr} {l : List α} (h : SlOf enc k w q c l) {B b : Nat} (hB : ∀ a, q = some a → B ≤ a.block) (hb : b < B) (o : Nat) (v : Value) : SlOf enc k (w.setCell ⟨b, o, Option.none⟩ v) q c l := by
  refine ⟨h.1, h.2.1, h.2.2.1, fun h0 => ?_⟩
  obtain ⟨b', off, hq, hb', hc⟩ := h.2.2.2 h0
  have := hB _ hq
  refine ⟨b', off, hq, by simpa using hb', fun j u hj => ?_⟩
  rw [World.cell?_setCell_other w ⟨b, o, Option.none⟩ ⟨b', off + j, Option.none⟩ v (by intro g; injection g with g1; simp only at this; omega)]
  exact hc j u hj
set_option maxRecDepth 100000 in
set_option maxHeartbeats 1000000 in
theorem rnorm_no (kind : Int) (attr : ByteArray) (qi : Option Addr) (ci : Nat) (ints : List Int) (qw : Option Addr) (cw : Nat) (words : List ByteArray) (lo hi : Int) (w : World) (h1 : SlOf encI 1 w qi ci ints) (h2 : SlOf encS 1 w qw cw words) (l1 : ints.length ≤ 100000000000000) (l2 : words.length ≤ 100000000000000) (hp : predB kind attr ints words lo hi = false) :
    Calls Tryz.prog 34 #[.agg #[.int .i64 kind, .string attr, .slice qi ints.length ci, .slice qw words.length cw, .int .i64 lo, .int .i64 hi]] w fun e w' => e = .returned (.tuple #[.agg #[.int .i64 0, .string ⟨#[]⟩, .slice none 0 0, .slice none 0 0, .int .i64 0, .int .i64 0], .bool false]) ∧ Below w.heap.size w w' := by
  obtain ⟨X, HX⟩ : ∃ X, (w.alloc (.cells #[.int .i64 kind, .string attr, .slice qi ints.length ci, .slice qw words.length cw, .int .i64 lo, .int .i64 hi] 25)).alloc (.cells #[.int .i64 0, .string ⟨#[]⟩, .slice none 0 0, .slice none 0 0, .int .i64 0, .int .i64 0] 25) = X := ⟨_, rfl⟩
  have bX : Below w.heap.size w X := by rw [← HX]; exact ((Below.refl _ _).alloc (Nat.le_refl _) _).alloc (by simp) _
  have x9 : X.heap[w.heap.size + 1]? = some (.cells #[.int .i64 0, .string ⟨#[]⟩, .slice none 0 0, .slice none 0 0, .int .i64 0, .int .i64 0] 25 (0, 0)) := by
    have := World.alloc_heap_new (w.alloc (.cells #[.int .i64 kind, .string attr, .slice qi ints.length ci, .slice qw words.length cw, .int .i64 lo, .int .i64 hi] 25)) (.cells #[.int .i64 0, .string ⟨#[]⟩, .slice none 0 0, .slice none 0 0, .int .i64 0, .int .i64 0] 25)
    rw [World.size_alloc] at this
    rw [← HX]; exact this
  have x8 : X.heap[w.heap.size]? = some (.cells #[.int .i64 kind, .string attr, .slice qi ints.length ci, .slice qw words.length cw, .int .i64 lo, .int .i64 hi] 25 (0, 0)) := by
    rw [← HX]
    exact (((Below.refl _ _).alloc (Nat.le_refl _) _).block w.heap.size (by simp)).trans (World.alloc_heap_new _ _)
  have hlt : w.heap.size + 1 < X.heap.size := by rw [← HX]; simp
  have hlt0 : w.heap.size < X.heap.size := by omega
  obtain ⟨x0, x1, x2, x3, x4, x5⟩ := of6R x8
  have hP := refPred_any kind attr qi ci ints qw cw words lo hi X (h1.below bX) (h2.below bX) l1 l2
  rw [hp] at hP
  have H1 := hide h1
  have H2 := hide h2
  have X8 := hide x8
  have X9 := hide x9
  have BX := hide bX
  clear x8 x9 bX h1 h2
  go_enter Tryz.func34, Tryz.ntmps34
  go_wp2_with (go_at_call 72; refine hP.mono ?_; rintro e w1 ⟨rfl, b1⟩; have B1 := hide b1; (obtain ⟨y0, y1, y2, y3, y4, y5⟩ := of6R ((b1.block _ hlt0).trans (unhide X8))); have yf := fun o => frozen_free (o := o) ((b1.block _ hlt0).trans (unhide X8)); have q9 := (b1.block _ hlt).trans (unhide X9); (obtain ⟨z0, z1, z2, z3, z4, z5⟩ := of6R q9); have zf := fun o => frozen_free (o := o) q9; clear b1 q9)
  exact bodyPost_ret (v := .tuple #[.agg #[.int .i64 0, .string ⟨#[]⟩, .slice none 0 0, .slice none 0 0, .int .i64 0, .int .i64 0], .bool false]) (by simp [results, Tryz.results34, go_sem, *]) rfl ⟨rfl, (((((((below_sub (unhide BX) (unhide B1)).setCell (p := ⟨w.heap.size + 1, 0, none⟩) (Nat.le_succ _) _).setCell (p := ⟨w.heap.size + 1, 1, none⟩) (Nat.le_succ _) _).setCell (p := ⟨w.heap.size + 1, 2, none⟩) (Nat.le_succ _) _).setCell (p := ⟨w.heap.size + 1, 3, none⟩) (Nat.le_succ _) _).setCell (p := ⟨w.heap.size + 1, 4, none⟩) (Nat.le_succ _) _).setCell (p := ⟨w.heap.size + 1, 5, none⟩) (Nat.le_succ _) _)⟩
set_option maxRecDepth 100000 in
set_option maxHeartbeats 1000000 in
theorem rnorm_none (attr : ByteArray) (qi : Option Addr) (ci : Nat) (ints : List Int) (qw : Option Addr) (cw : Nat) (words : List ByteArray) (lo hi : Int) (w : World) (h1 : SlOf encI 1 w qi ci ints) (h2 : SlOf encS 1 w qw cw words) (l1 : ints.length ≤ 100000000000000) (l2 : words.length ≤ 100000000000000) (hp : predB 3 attr ints words lo hi = true) (hc : hi < lo) :
    Calls Tryz.prog 34 #[.agg #[.int .i64 3, .string attr, .slice qi ints.length ci, .slice qw words.length cw, .int .i64 lo, .int .i64 hi]] w fun e w' => e = .returned (.tuple #[.agg #[.int .i64 0, .string ⟨#[]⟩, .slice none 0 0, .slice none 0 0, .int .i64 0, .int .i64 0], .bool false]) ∧ Below w.heap.size w w' := by
  obtain ⟨X, HX⟩ : ∃ X, (w.alloc (.cells #[.int .i64 3, .string attr, .slice qi ints.length ci, .slice qw words.length cw, .int .i64 lo, .int .i64 hi] 25)).alloc (.cells #[.int .i64 0, .string ⟨#[]⟩, .slice none 0 0, .slice none 0 0, .int .i64 0, .int .i64 0] 25) = X := ⟨_, rfl⟩
  have bX : Below w.heap.size w X := by rw [← HX]; exact ((Below.refl _ _).alloc (Nat.le_refl _) _).alloc (by simp) _
  have x9 : X.heap[w.heap.size + 1]? = some (.cells #[.int .i64 0, .string ⟨#[]⟩, .slice none 0 0, .slice none 0 0, .int .i64 0, .int .i64 0] 25 (0, 0)) := by
    have := World.alloc_heap_new (w.alloc (.cells #[.int .i64 3, .string attr, .slice qi ints.length ci, .slice qw words.length cw, .int .i64 lo, .int .i64 hi] 25)) (.cells #[.int .i64 0, .string ⟨#[]⟩, .slice none 0 0, .slice none 0 0, .int .i64 0, .int .i64 0] 25)
    rw [World.size_alloc] at this
    rw [← HX]; exact this
  have x8 : X.heap[w.heap.size]? = some (.cells #[.int .i64 3, .string attr, .slice qi ints.length ci, .slice qw words.length cw, .int .i64 lo, .int .i64 hi] 25 (0, 0)) := by
    rw [← HX]
    exact (((Below.refl _ _).alloc (Nat.le_refl _) _).block w.heap.size (by simp)).trans (World.alloc_heap_new _ _)
  have hlt : w.heap.size + 1 < X.heap.size := by rw [← HX]; simp
  have hlt0 : w.heap.size < X.heap.size := by omega
  obtain ⟨x0, x1, x2, x3, x4, x5⟩ := of6R x8
  have hP := refPred_any 3 attr qi ci ints qw cw words lo hi X (h1.below bX) (h2.below bX) l1 l2
  rw [hp] at hP
  have H1 := hide h1
  have H2 := hide h2
  have X8 := hide x8
  have X9 := hide x9
  have BX := hide bX
  clear x8 x9 bX h1 h2
  go_enter Tryz.func34, Tryz.ntmps34
  go_wp2_with (go_at_call 72; refine hP.mono ?_; rintro e w1 ⟨rfl, b1⟩; have B1 := hide b1; (obtain ⟨y0, y1, y2, y3, y4, y5⟩ := of6R ((b1.block _ hlt0).trans (unhide X8))); have yf := fun o => frozen_free (o := o) ((b1.block _ hlt0).trans (unhide X8)); have q9 := (b1.block _ hlt).trans (unhide X9); (obtain ⟨z0, z1, z2, z3, z4, z5⟩ := of6R q9); have zf := fun o => frozen_free (o := o) q9; clear b1 q9)
  exact bodyPost_ret (v := .tuple #[.agg #[.int .i64 0, .string ⟨#[]⟩, .slice none 0 0, .slice none 0 0, .int .i64 0, .int .i64 0], .bool false]) (by simp [results, Tryz.results34, go_sem, *]) rfl ⟨rfl, (((((((below_sub (unhide BX) (unhide B1)).setCell (p := ⟨w.heap.size + 1, 0, none⟩) (Nat.le_succ _) _).setCell (p := ⟨w.heap.size + 1, 1, none⟩) (Nat.le_succ _) _).setCell (p := ⟨w.heap.size + 1, 2, none⟩) (Nat.le_succ _) _).setCell (p := ⟨w.heap.size + 1, 3, none⟩) (Nat.le_succ _) _).setCell (p := ⟨w.heap.size + 1, 4, none⟩) (Nat.le_succ _) _).setCell (p := ⟨w.heap.size + 1, 5, none⟩) (Nat.le_succ _) _)⟩
set_option maxRecDepth 100000 in
set_option maxHeartbeats 1000000 in
theorem rnorm_one (attr : ByteArray) (qi : Option Addr) (ci : Nat) (ints : List Int) (qw : Option Addr) (cw : Nat) (words : List ByteArray) (lo : Int) (w : World) (h1 : SlOf encI 1 w qi ci ints) (h2 : SlOf encS 1 w qw cw words) (l1 : ints.length ≤ 100000000000000) (l2 : words.length ≤ 100000000000000) (hp : predB 3 attr ints words lo lo = true) :
    Calls Tryz.prog 34 #[.agg #[.int .i64 3, .string attr, .slice qi ints.length ci, .slice qw words.length cw, .int .i64 lo, .int .i64 lo]] w fun e w' => (∃ q c, e = .returned (.tuple #[.agg #[.int .i64 1, .string attr, .slice q 1 c, .slice none 0 0, .int .i64 0, .int .i64 0], .bool true]) ∧ SlOf encI 1 w' q c [lo]) ∧ Below w.heap.size w w' := by
  obtain ⟨X, HX⟩ : ∃ X, (w.alloc (.cells #[.int .i64 3, .string attr, .slice qi ints.length ci, .slice qw words.length cw, .int .i64 lo, .int .i64 lo] 25)).alloc (.cells #[.int .i64 0, .string ⟨#[]⟩, .slice none 0 0, .slice none 0 0, .int .i64 0, .int .i64 0] 25) = X := ⟨_, rfl⟩
  have bX : Below w.heap.size w X := by rw [← HX]; exact ((Below.refl _ _).alloc (Nat.le_refl _) _).alloc (by simp) _
  have x9 : X.heap[w.heap.size + 1]? = some (.cells #[.int .i64 0, .string ⟨#[]⟩, .slice none 0 0, .slice none 0 0, .int .i64 0, .int .i64 0] 25 (0, 0)) := by
    have := World.alloc_heap_new (w.alloc (.cells #[.int .i64 3, .string attr, .slice qi ints.length ci, .slice qw words.length cw, .int .i64 lo, .int .i64 lo] 25)) (.cells #[.int .i64 0, .string ⟨#[]⟩, .slice none 0 0, .slice none 0 0, .int .i64 0, .int .i64 0] 25)
    rw [World.size_alloc] at this
    rw [← HX]; exact this
  have x8 : X.heap[w.heap.size]? = some (.cells #[.int .i64 3, .string attr, .slice qi ints.length ci, .slice qw words.length cw, .int .i64 lo, .int .i64 lo] 25 (0, 0)) := by
    rw [← HX]
    exact (((Below.refl _ _).alloc (Nat.le_refl _) _).block w.heap.size (by simp)).trans (World.alloc_heap_new _ _)
  have hlt : w.heap.size + 1 < X.heap.size := by rw [← HX]; simp
  have hlt0 : w.heap.size < X.heap.size := by omega
  obtain ⟨x0, x1, x2, x3, x4, x5⟩ := of6R x8
  have hP := refPred_any 3 attr qi ci ints qw cw words lo lo X (h1.below bX) (h2.below bX) l1 l2
  rw [hp] at hP
  have H1 := hide h1
  have H2 := hide h2
  have X8 := hide x8
  have X9 := hide x9
  have BX := hide bX
  clear x8 x9 bX h1 h2
  go_enter Tryz.func34, Tryz.ntmps34
  have hll : ¬ lo < lo := by omega
  go_upto_region 4 with (go_at_call 72; refine hP.mono ?_; rintro e w1 ⟨rfl, b1⟩; have B1 := hide b1; (obtain ⟨y0, y1, y2, y3, y4, y5⟩ := of6R ((b1.block _ hlt0).trans (unhide X8))); have yf := fun o => frozen_free (o := o) ((b1.block _ hlt0).trans (unhide X8)); have q9 := (b1.block _ hlt).trans (unhide X9); (obtain ⟨z0, z1, z2, z3, z4, z5⟩ := of6R q9); have zf := fun o => frozen_free (o := o) q9; clear b1 q9)
  have hsz : w.heap.size + 1 < w1.heap.size := Nat.lt_of_lt_of_le hlt (unhide B1).size
  obtain ⟨Y, HY⟩ : ∃ Y, w1.alloc (.cells #[.int .i64 lo] 3) = Y := ⟨_, rfl⟩
  have bY : Below w1.heap.size w1 Y := by rw [← HY]; exact (Below.refl _ _).alloc (Nat.le_refl _) _
  have S0 : SlOf encI 1 Y (some ⟨w1.heap.size, 0, none⟩) 1 [lo] := by
    rw [← HY]
    refine ⟨(fun h => by cases h), Nat.le_refl _, (by decide), fun _ => ⟨w1.heap.size, 0, rfl, (by simp), fun j u hj => ?_⟩⟩
    rw [flat_oneI] at hj
    have := newsI_blk (World.alloc_heap_new w1 (.cells #[.int .i64 lo] 3)) j u hj
    rwa [add_plain] at this
  have q9 := (bY.block _ hsz).trans (((unhide B1).block _ hlt).trans (unhide X9))
  obtain ⟨a0, a1, a2, a3, a4, a5⟩ := of6R q9
  have af := fun o => frozen_free (o := o) q9
  have BY := hide (below_sub (below_sub (unhide BX) (unhide B1)) bY)
  have T0 := hide S0
  have hge : Hid (∀ a, (some (⟨w1.heap.size, 0, none⟩ : Addr)) = some a → w1.heap.size ≤ a.block) := hide fun a e => by cases e; exact Nat.le_refl _
  clear S0 bY q9 z0 z1 z2 z3 z4 z5 zf
  go_wp2
  exact bodyPost_ret (v := .tuple #[.agg #[.int .i64 1, .string attr, .slice (some ⟨w1.heap.size, 0, none⟩) 1 1, .slice none 0 0, .int .i64 0, .int .i64 0], .bool true]) (by simp [results, Tryz.results34, go_sem, *]) rfl ⟨⟨_, _, rfl, (((((((unhide T0).setR (unhide hge) hsz 0 _).setR (unhide hge) hsz 1 _).setR (unhide hge) hsz 2 _).setR (unhide hge) hsz 3 _).setR (unhide hge) hsz 4 _).setR (unhide hge) hsz 5 _)⟩, (((((((unhide BY).setCell (p := ⟨w.heap.size + 1, 0, none⟩) (Nat.le_succ _) _).setCell (p := ⟨w.heap.size + 1, 1, none⟩) (Nat.le_succ _) _).setCell (p := ⟨w.heap.size + 1, 2, none⟩) (Nat.le_succ _) _).setCell (p := ⟨w.heap.size + 1, 3, none⟩) (Nat.le_succ _) _).setCell (p := ⟨w.heap.size + 1, 4, none⟩) (Nat.le_succ _) _).setCell (p := ⟨w.heap.size + 1, 5, none⟩) (Nat.le_succ _) _)⟩
set_option maxRecDepth 100000 in
set_option maxHeartbeats 2000000 in
theorem rnorm_range (attr : ByteArray) (qi : Option Addr) (ci : Nat) (ints : List Int) (qw : Option Addr) (cw : Nat) (words : List ByteArray) (lo hi : Int) (w : World) (h1 : SlOf encI 1 w qi ci ints) (h2 : SlOf encS 1 w qw cw words) (l1 : ints.length ≤ 100000000000000) (l2 : words.length ≤ 100000000000000) (hp : predB 3 attr ints words lo hi = true) (hc : lo < hi) (hf : ∀ x ∈ words, x.size ≤ maxLen) (l3 : ints.length * 16 ≤ 140737488355328) (l4 : words.length * 16 ≤ 140737488355328) :
    Calls Tryz.prog 34 #[.agg #[.int .i64 3, .string attr, .slice qi ints.length ci, .slice qw words.length cw, .int .i64 lo, .int .i64 hi]] w fun e w' => (∃ (L1 : List Int) (L2 : List ByteArray) (q1 : Option Addr) (c1 : Nat) (q2 : Option Addr) (c2 : Nat), e = .returned (.tuple #[.agg #[.int .i64 3, .string attr, .slice q1 L1.length c1, .slice q2 L2.length c2, .int .i64 lo, .int .i64 hi], .bool true]) ∧ SlOf encI 1 w' q1 c1 L1 ∧ SlOf encS 1 w' q2 c2 L2 ∧ Sm L1 ints ∧ Sm L2 words) ∧ Below w.heap.size w w' := by
  have hI := fun (W : World) (hW : Below w.heap.size w W) => refInts ints l3 qi ci W (h1.below hW)
  have hS := fun (W : World) (hW : Below w.heap.size w W) => refWords words l4 hf qw cw W (h2.below hW)
  obtain ⟨X, HX⟩ : ∃ X, (w.alloc (.cells #[.int .i64 3, .string attr, .slice qi ints.length ci, .slice qw words.length cw, .int .i64 lo, .int .i64 hi] 25)).alloc (.cells #[.int .i64 0, .string ⟨#[]⟩, .slice none 0 0, .slice none 0 0, .int .i64 0, .int .i64 0] 25) = X := ⟨_, rfl⟩
  have bX : Below w.heap.size w X := by rw [← HX]; exact ((Below.refl _ _).alloc (Nat.le_refl _) _).alloc (by simp) _
  have x9 : X.heap[w.heap.size + 1]? = some (.cells #[.int .i64 0, .string ⟨#[]⟩, .slice none 0 0, .slice none 0 0, .int .i64 0, .int .i64 0] 25 (0, 0)) := by
    have := World.alloc_heap_new (w.alloc (.cells #[.int .i64 3, .string attr, .slice qi ints.length ci, .slice qw words.length cw, .int .i64 lo, .int .i64 hi] 25)) (.cells #[.int .i64 0, .string ⟨#[]⟩, .slice none 0 0, .slice none 0 0, .int .i64 0, .int .i64 0] 25)
    rw [World.size_alloc] at this
    rw [← HX]; exact this
  have x8 : X.heap[w.heap.size]? = some (.cells #[.int .i64 3, .string attr, .slice qi ints.length ci, .slice qw words.length cw, .int .i64 lo, .int .i64 hi] 25 (0, 0)) := by
    rw [← HX]
    exact (((Below.refl _ _).alloc (Nat.le_refl _) _).block w.heap.size (by simp)).trans (World.alloc_heap_new _ _)
  have hlt : w.heap.size + 1 < X.heap.size := by rw [← HX]; simp
  have hlt0 : w.heap.size < X.heap.size := by omega
  obtain ⟨x0, x1, x2, x3, x4, x5⟩ := of6R x8
  have hP := refPred_any 3 attr qi ci ints qw cw words lo hi X (h1.below bX) (h2.below bX) l1 l2
  rw [hp] at hP
  have H1 := hide h1
  have H2 := hide h2
  have X8 := hide x8
  have X9 := hide x9
  have BX := hide bX
  clear x8 x9 bX h1 h2
  go_enter Tryz.func34, Tryz.ntmps34
  have g1 : ¬ hi < lo := by omega
  have g2 : (lo == hi) = false := by rw [beq_eq_false_iff_ne]; omega
  go_upto_region 6 with (first
    | (go_at_call 72; refine hP.mono ?_; rintro e w1 ⟨rfl, b1⟩; have B1 := hide b1; (obtain ⟨y0, y1, y2, y3, y4, y5⟩ := of6R ((b1.block _ hlt0).trans (unhide X8))); have yf := fun o => frozen_free (o := o) ((b1.block _ hlt0).trans (unhide X8)); have q9 := (b1.block _ hlt).trans (unhide X9); (obtain ⟨z0, z1, z2, z3, z4, z5⟩ := of6R q9); have zf := fun o => frozen_free (o := o) q9; clear b1 q9)
    | (go_at_call 73; refine (hI _ (below_sub (unhide BX) (unhide B1))).mono ?_; rintro e w2 ⟨⟨L1, q1, c1, rfl, o1, m1⟩, b2⟩; have S1 := hide o1.ls; have F1 := hide o1.from; have M1 := hide m1; have B2 := hide (below_sub (unhide B1) b2); have BZ := hide b2.size; clear o1 m1 b2 y0 y1 y2 y3 y4 y5 yf z0 z1 z2 z3 z4 z5 zf; have q8 := ((unhide B2).block _ hlt0).trans (unhide X8); (obtain ⟨y0, y1, y2, y3, y4, y5⟩ := of6R q8); have yf := fun o => frozen_free (o := o) q8; (obtain ⟨V2, HV2⟩ : ∃ V2, w2.setCell ⟨w.heap.size, 2, none⟩ (.slice q1 L1.length c1) = V2 := ⟨_, rfl⟩); have K2 := hide (show V2.heap[w.heap.size]? = some (.cells #[.int .i64 3, .string attr, .slice q1 L1.length c1, .slice qw words.length cw, .int .i64 lo, .int .i64 hi] 25 (0, 0)) from HV2 ▸ box6_2 q8 _); have K9 := hide (show V2.heap[w.heap.size + 1]? = some (.cells #[.int .i64 0, .string ⟨#[]⟩, .slice none 0 0, .slice none 0 0, .int .i64 0, .int .i64 0] 25 (0, 0)) from HV2 ▸ heap_set_ne (((unhide B2).block _ hlt).trans (unhide X9)) (by omega) _ _); have BV2 := hide (show Below w.heap.size w V2 from HV2 ▸ (below_sub (unhide BX) (unhide B2)).setCell (Nat.le_refl _) _); have SV := hide (show V2.heap.size = w2.heap.size from HV2 ▸ World.size_setCell _ _ _); clear q8; (obtain ⟨u0, u1, u2, u3, u4, u5⟩ := of6R (unhide K2)); have uf := fun o => frozen_free (o := o) (unhide K2)))
  have hv0 : w.heap.size < V2.heap.size := (Array.getElem?_eq_some_iff.1 (unhide K2)).1
  go_upto_region 7 with (go_at_call 74; refine (hS _ (unhide BV2)).mono ?_; rintro e w3 ⟨⟨L2, q2, c2, rfl, o2, m2⟩, b3⟩; have S2 := hide o2.ls; have F2 := hide o2.from; have M2 := hide m2; have B3 := hide b3; have S1' := hide (((unhide S1).setR (unhide F1) (by have := (unhide B1).size; omega) 2 _).below (HV2.symm ▸ b3)); clear o2 m2 b3 y0 y1 y2 y3 y4 y5 yf; have q8 := ((unhide B3).block _ hv0).trans (unhide K2); (obtain ⟨y0, y1, y2, y3, y4, y5⟩ := of6R q8); have yf := fun o => frozen_free (o := o) q8; skip)
  obtain ⟨V3, HV3⟩ : ∃ V3, w3.setCell ⟨w.heap.size, 3, none⟩ (.slice q2 L2.length c2) = V3 := ⟨_, rfl⟩
  have q8 := ((unhide B3).block _ hv0).trans (unhide K2)
  have q9 := ((unhide B3).block (w.heap.size + 1) (Array.getElem?_eq_some_iff.1 (unhide K9)).1).trans (unhide K9)
  have k3 : V3.heap[w.heap.size]? = some (.cells #[.int .i64 3, .string attr, .slice q1 L1.length c1, .slice q2 L2.length c2, .int .i64 lo, .int .i64 hi] 25 (0, 0)) := HV3 ▸ box6_3 q8 _
  have k9 : V3.heap[w.heap.size + 1]? = some (.cells #[.int .i64 0, .string ⟨#[]⟩, .slice none 0 0, .slice none 0 0, .int .i64 0, .int .i64 0] 25 (0, 0)) := HV3 ▸ heap_set_ne q9 (by omega) _ _
  have bV3 : Below w.heap.size w V3 := HV3 ▸ (below_sub (unhide BV2) (unhide B3)).setCell (Nat.le_refl _) _
  have sz1 : w.heap.size + 1 < w1.heap.size := Nat.lt_of_lt_of_le hlt (unhide B1).size
  have sz2 : w.heap.size + 1 < V2.heap.size := (Array.getElem?_eq_some_iff.1 (unhide K9)).1
  have s1 : SlOf encI 1 V3 q1 c1 L1 := HV3 ▸ (unhide S1').setR (unhide F1) (by omega) 3 _
  have s2 : SlOf encS 1 V3 q2 c2 L2 := HV3 ▸ (unhide S2).setR (unhide F2) (by omega) 3 _
  obtain ⟨a0, a1, a2, a3, a4, a5⟩ := of6R k3
  obtain ⟨z0, z1, z2, z3, z4, z5⟩ := of6R k9
  have zf := fun o => frozen_free (o := o) k9
  have T1 := hide s1
  have T2 := hide s2
  have BV3 := hide bV3
  clear q8 q9 k3 k9 bV3 s1 s2 y0 y1 y2 y3 y4 y5 yf u0 u1 u2 u3 u4 u5 uf HV2
  go_wp2
  exact bodyPost_ret (v := .tuple #[.agg #[.int .i64 3, .string attr, .slice q1 L1.length c1, .slice q2 L2.length c2, .int .i64 lo, .int .i64 hi], .bool true]) (by simp [results, Tryz.results34, go_sem, *]) rfl ⟨⟨L1, L2, q1, c1, q2, c2, rfl, ((((((unhide T1).setR (unhide F1) sz1 0 _).setR (unhide F1) sz1 1 _).setR (unhide F1) sz1 2 _).setR (unhide F1) sz1 3 _).setR (unhide F1) sz1 4 _).setR (unhide F1) sz1 5 _, ((((((unhide T2).setR (unhide F2) sz2 0 _).setR (unhide F2) sz2 1 _).setR (unhide F2) sz2 2 _).setR (unhide F2) sz2 3 _).setR (unhide F2) sz2 4 _).setR (unhide F2) sz2 5 _, unhide M1, unhide M2⟩, (((((((unhide BV3).setCell (p := ⟨w.heap.size + 1, 0, none⟩) (Nat.le_succ _) _).setCell (p := ⟨w.heap.size + 1, 1, none⟩) (Nat.le_succ _) _).setCell (p := ⟨w.heap.size + 1, 2, none⟩) (Nat.le_succ _) _).setCell (p := ⟨w.heap.size + 1, 3, none⟩) (Nat.le_succ _) _).setCell (p := ⟨w.heap.size + 1, 4, none⟩) (Nat.le_succ _) _).setCell (p := ⟨w.heap.size + 1, 5, none⟩) (Nat.le_succ _) _)⟩
set_option maxRecDepth 100000 in
set_option maxHeartbeats 2000000 in
theorem rnorm_set (kind : Int) (attr : ByteArray) (qi : Option Addr) (ci : Nat) (ints : List Int) (qw : Option Addr) (cw : Nat) (words : List ByteArray) (lo hi : Int) (w : World) (h1 : SlOf encI 1 w qi ci ints) (h2 : SlOf encS 1 w qw cw words) (l1 : ints.length ≤ 100000000000000) (l2 : words.length ≤ 100000000000000) (hp : predB kind attr ints words lo hi = true) (hc : kind ≠ 3) (hf : ∀ x ∈ words, x.size ≤ maxLen) (l3 : ints.length * 16 ≤ 140737488355328) (l4 : words.length * 16 ≤ 140737488355328) :
    Calls Tryz.prog 34 #[.agg #[.int .i64 kind, .string attr, .slice qi ints.length ci, .slice qw words.length cw, .int .i64 lo, .int .i64 hi]] w fun e w' => (∃ (L1 : List Int) (L2 : List ByteArray) (q1 : Option Addr) (c1 : Nat) (q2 : Option Addr) (c2 : Nat), e = .returned (.tuple #[.agg #[.int .i64 kind, .string attr, .slice q1 L1.length c1, .slice q2 L2.length c2, .int .i64 lo, .int .i64 hi], .bool true]) ∧ SlOf encI 1 w' q1 c1 L1 ∧ SlOf encS 1 w' q2 c2 L2 ∧ Sm L1 ints ∧ Sm L2 words) ∧ Below w.heap.size w w' := by
  have hI := fun (W : World) (hW : Below w.heap.size w W) => refInts ints l3 qi ci W (h1.below hW)
  have hS := fun (W : World) (hW : Below w.heap.size w W) => refWords words l4 hf qw cw W (h2.below hW)
  obtain ⟨X, HX⟩ : ∃ X, (w.alloc (.cells #[.int .i64 kind, .string attr, .slice qi ints.length ci, .slice qw words.length cw, .int .i64 lo, .int .i64 hi] 25)).alloc (.cells #[.int .i64 0, .string ⟨#[]⟩, .slice none 0 0, .slice none 0 0, .int .i64 0, .int .i64 0] 25) = X := ⟨_, rfl⟩
  have bX : Below w.heap.size w X := by rw [← HX]; exact ((Below.refl _ _).alloc (Nat.le_refl _) _).alloc (by simp) _
  have x9 : X.heap[w.heap.size + 1]? = some (.cells #[.int .i64 0, .string ⟨#[]⟩, .slice none 0 0, .slice none 0 0, .int .i64 0, .int .i64 0] 25 (0, 0)) := by
    have := World.alloc_heap_new (w.alloc (.cells #[.int .i64 kind, .string attr, .slice qi ints.length ci, .slice qw words.length cw, .int .i64 lo, .int .i64 hi] 25)) (.cells #[.int .i64 0, .string ⟨#[]⟩, .slice none 0 0, .slice none 0 0, .int .i64 0, .int .i64 0] 25)
    rw [World.size_alloc] at this
    rw [← HX]; exact this
  have x8 : X.heap[w.heap.size]? = some (.cells #[.int .i64 kind, .string attr, .slice qi ints.length ci, .slice qw words.length cw, .int .i64 lo, .int .i64 hi] 25 (0, 0)) := by
    rw [← HX]
    exact (((Below.refl _ _).alloc (Nat.le_refl _) _).block w.heap.size (by simp)).trans (World.alloc_heap_new _ _)
  have hlt : w.heap.size + 1 < X.heap.size := by rw [← HX]; simp
  have hlt0 : w.heap.size < X.heap.size := by omega
  obtain ⟨x0, x1, x2, x3, x4, x5⟩ := of6R x8
  have hP := refPred_any kind attr qi ci ints qw cw words lo hi X (h1.below bX) (h2.below bX) l1 l2
  rw [hp] at hP
  have H1 := hide h1
  have H2 := hide h2
  have X8 := hide x8
  have X9 := hide x9
  have BX := hide bX
  clear x8 x9 bX h1 h2
  go_enter Tryz.func34, Tryz.ntmps34
  have g1 : (kind == 3) = false := by simpa using hc
  go_upto_region 6 with (first
    | (go_at_call 72; refine hP.mono ?_; rintro e w1 ⟨rfl, b1⟩; have B1 := hide b1; (obtain ⟨y0, y1, y2, y3, y4, y5⟩ := of6R ((b1.block _ hlt0).trans (unhide X8))); have yf := fun o => frozen_free (o := o) ((b1.block _ hlt0).trans (unhide X8)); have q9 := (b1.block _ hlt).trans (unhide X9); (obtain ⟨z0, z1, z2, z3, z4, z5⟩ := of6R q9); have zf := fun o => frozen_free (o := o) q9; clear b1 q9)
    | (go_at_call 73; refine (hI _ (below_sub (unhide BX) (unhide B1))).mono ?_; rintro e w2 ⟨⟨L1, q1, c1, rfl, o1, m1⟩, b2⟩; have S1 := hide o1.ls; have F1 := hide o1.from; have M1 := hide m1; have B2 := hide (below_sub (unhide B1) b2); have BZ := hide b2.size; clear o1 m1 b2 y0 y1 y2 y3 y4 y5 yf z0 z1 z2 z3 z4 z5 zf; have q8 := ((unhide B2).block _ hlt0).trans (unhide X8); (obtain ⟨y0, y1, y2, y3, y4, y5⟩ := of6R q8); have yf := fun o => frozen_free (o := o) q8; (obtain ⟨V2, HV2⟩ : ∃ V2, w2.setCell ⟨w.heap.size, 2, none⟩ (.slice q1 L1.length c1) = V2 := ⟨_, rfl⟩); have K2 := hide (show V2.heap[w.heap.size]? = some (.cells #[.int .i64 kind, .string attr, .slice q1 L1.length c1, .slice qw words.length cw, .int .i64 lo, .int .i64 hi] 25 (0, 0)) from HV2 ▸ box6_2 q8 _); have K9 := hide (show V2.heap[w.heap.size + 1]? = some (.cells #[.int .i64 0, .string ⟨#[]⟩, .slice none 0 0, .slice none 0 0, .int .i64 0, .int .i64 0] 25 (0, 0)) from HV2 ▸ heap_set_ne (((unhide B2).block _ hlt).trans (unhide X9)) (by omega) _ _); have BV2 := hide (show Below w.heap.size w V2 from HV2 ▸ (below_sub (unhide BX) (unhide B2)).setCell (Nat.le_refl _) _); have SV := hide (show V2.heap.size = w2.heap.size from HV2 ▸ World.size_setCell _ _ _); clear q8; (obtain ⟨u0, u1, u2, u3, u4, u5⟩ := of6R (unhide K2)); have uf := fun o => frozen_free (o := o) (unhide K2)))
  have hv0 : w.heap.size < V2.heap.size := (Array.getElem?_eq_some_iff.1 (unhide K2)).1
  go_upto_region 7 with (go_at_call 74; refine (hS _ (unhide BV2)).mono ?_; rintro e w3 ⟨⟨L2, q2, c2, rfl, o2, m2⟩, b3⟩; have S2 := hide o2.ls; have F2 := hide o2.from; have M2 := hide m2; have B3 := hide b3; have S1' := hide (((unhide S1).setR (unhide F1) (by have := (unhide B1).size; omega) 2 _).below (HV2.symm ▸ b3)); clear o2 m2 b3 y0 y1 y2 y3 y4 y5 yf; have q8 := ((unhide B3).block _ hv0).trans (unhide K2); (obtain ⟨y0, y1, y2, y3, y4, y5⟩ := of6R q8); have yf := fun o => frozen_free (o := o) q8; skip)
  obtain ⟨V3, HV3⟩ : ∃ V3, w3.setCell ⟨w.heap.size, 3, none⟩ (.slice q2 L2.length c2) = V3 := ⟨_, rfl⟩
  have q8 := ((unhide B3).block _ hv0).trans (unhide K2)
  have q9 := ((unhide B3).block (w.heap.size + 1) (Array.getElem?_eq_some_iff.1 (unhide K9)).1).trans (unhide K9)
  have k3 : V3.heap[w.heap.size]? = some (.cells #[.int .i64 kind, .string attr, .slice q1 L1.length c1, .slice q2 L2.length c2, .int .i64 lo, .int .i64 hi] 25 (0, 0)) := HV3 ▸ box6_3 q8 _
  have k9 : V3.heap[w.heap.size + 1]? = some (.cells #[.int .i64 0, .string ⟨#[]⟩, .slice none 0 0, .slice none 0 0, .int .i64 0, .int .i64 0] 25 (0, 0)) := HV3 ▸ heap_set_ne q9 (by omega) _ _
  have bV3 : Below w.heap.size w V3 := HV3 ▸ (below_sub (unhide BV2) (unhide B3)).setCell (Nat.le_refl _) _
  have sz1 : w.heap.size + 1 < w1.heap.size := Nat.lt_of_lt_of_le hlt (unhide B1).size
  have sz2 : w.heap.size + 1 < V2.heap.size := (Array.getElem?_eq_some_iff.1 (unhide K9)).1
  have s1 : SlOf encI 1 V3 q1 c1 L1 := HV3 ▸ (unhide S1').setR (unhide F1) (by omega) 3 _
  have s2 : SlOf encS 1 V3 q2 c2 L2 := HV3 ▸ (unhide S2).setR (unhide F2) (by omega) 3 _
  obtain ⟨a0, a1, a2, a3, a4, a5⟩ := of6R k3
  obtain ⟨z0, z1, z2, z3, z4, z5⟩ := of6R k9
  have zf := fun o => frozen_free (o := o) k9
  have T1 := hide s1
  have T2 := hide s2
  have BV3 := hide bV3
  clear q8 q9 k3 k9 bV3 s1 s2 y0 y1 y2 y3 y4 y5 yf u0 u1 u2 u3 u4 u5 uf HV2
  go_wp2
  exact bodyPost_ret (v := .tuple #[.agg #[.int .i64 kind, .string attr, .slice q1 L1.length c1, .slice q2 L2.length c2, .int .i64 lo, .int .i64 hi], .bool true]) (by simp [results, Tryz.results34, go_sem, *]) rfl ⟨⟨L1, L2, q1, c1, q2, c2, rfl, ((((((unhide T1).setR (unhide F1) sz1 0 _).setR (unhide F1) sz1 1 _).setR (unhide F1) sz1 2 _).setR (unhide F1) sz1 3 _).setR (unhide F1) sz1 4 _).setR (unhide F1) sz1 5 _, ((((((unhide T2).setR (unhide F2) sz2 0 _).setR (unhide F2) sz2 1 _).setR (unhide F2) sz2 2 _).setR (unhide F2) sz2 3 _).setR (unhide F2) sz2 4 _).setR (unhide F2) sz2 5 _, unhide M1, unhide M2⟩, (((((((unhide BV3).setCell (p := ⟨w.heap.size + 1, 0, none⟩) (Nat.le_succ _) _).setCell (p := ⟨w.heap.size + 1, 1, none⟩) (Nat.le_succ _) _).setCell (p := ⟨w.heap.size + 1, 2, none⟩) (Nat.le_succ _) _).setCell (p := ⟨w.heap.size + 1, 3, none⟩) (Nat.le_succ _) _).setCell (p := ⟨w.heap.size + 1, 4, none⟩) (Nat.le_succ _) _).setCell (p := ⟨w.heap.size + 1, 5, none⟩) (Nat.le_succ _) _)⟩
end Go.Proofs.YtedakipjfpdajaaGreatDoor
