/- conj.Normal of ranges and prefixes. -/
import Derived.Test.YtedakipjfpdajaaGreatDoorNorm
namespace Go.Proofs.YtedakipjfpdajaaGreatDoor
open Go.RowKit Go.Sort Go.Shelf

set_option maxRecDepth 100000 in
theorem normal_3n (attr : ByteArray) (qi : Option Addr) (ci : Nat) (ints : List Int) (qw : Option Addr) (cw : Nat) (words : List ByteArray) (lo hi : Int) (w : World) (h1 : SlOf encI 1 w qi ci ints) (h2 : SlOf encS 1 w qw cw words) (l1 : ints.length ≤ 1000000000000000000) (l2 : words.length ≤ 1000000000000000000) (hp : predB 3 attr ints words lo hi = true) (hc : hi < lo) :
    Calls Tryz.prog 23 #[.agg #[.int .i64 3, .string attr, .slice qi ints.length ci, .slice qw words.length cw, .int .i64 lo, .int .i64 hi]] w fun e w' => e = .returned (.tuple #[.agg #[.int .i64 0, .string ⟨#[]⟩, .slice none 0 0, .slice none 0 0, .int .i64 0, .int .i64 0], .bool false]) ∧ Below w.heap.size w w' := by
  obtain ⟨X, HX⟩ : ∃ X, (w.alloc (.cells #[.int .i64 3, .string attr, .slice qi ints.length ci, .slice qw words.length cw, .int .i64 lo, .int .i64 hi] 25)).alloc (.cells #[.int .i64 0, .string ⟨#[]⟩, .slice none 0 0, .slice none 0 0, .int .i64 0, .int .i64 0] 25) = X := ⟨_, rfl⟩
  have bX : Below w.heap.size w X := by rw [← HX]; exact ((Below.refl _ _).alloc (Nat.le_refl _) _).alloc (by simp) _
  have x9 : X.heap[w.heap.size + 1]? = some (.cells #[.int .i64 0, .string ⟨#[]⟩, .slice none 0 0, .slice none 0 0, .int .i64 0, .int .i64 0] 25 (0, 0)) := by
    have := World.alloc_heap_new (w.alloc (.cells #[.int .i64 3, .string attr, .slice qi ints.length ci, .slice qw words.length cw, .int .i64 lo, .int .i64 hi] 25)) (.cells #[.int .i64 0, .string ⟨#[]⟩, .slice none 0 0, .slice none 0 0, .int .i64 0, .int .i64 0] 25)
    rw [World.size_alloc] at this
    rw [← HX]; exact this
  have x8 : X.heap[w.heap.size]? = some (.cells #[.int .i64 3, .string attr, .slice qi ints.length ci, .slice qw words.length cw, .int .i64 lo, .int .i64 hi] 25 (0, 0)) := by
    rw [← HX]
    exact (((Below.refl _ _).alloc (Nat.le_refl _) _).block w.heap.size (by simp)).trans (World.alloc_heap_new _ _)
  have hlt : w.heap.size + 1 < X.heap.size := by rw [← HX]; simp
  have hlt0 : w.heap.size < X.heap.size := by omega
  obtain ⟨x0, x1, x2, x3, x4, x5⟩ := of6 x8
  obtain ⟨v0, v1, v2, v3, v4, v5⟩ := of6 x9
  have xf := fun o => frozen_free (o := o) x9
  have hP := fun (W : World) (hW : Below w.heap.size w W) => pred_any 3 attr qi ci ints qw cw words lo hi W (h1.below hW) (h2.below hW) l1 l2
  rw [hp] at hP
  simp only [code, if_true] at hP
  have H1 := hide h1
  have H2 := hide h2
  have X8 := hide x8
  have X9 := hide x9
  have BX := hide bX
  clear x8 x9 bX h1 h2
  go_enter Tryz.func23, Tryz.ntmps23
  go_wp2_with (first
    | (go_at_call 48; refine (hP _ (unhide BX)).mono ?_; rintro e w1 ⟨rfl, b1⟩; have B1 := hide b1; (obtain ⟨y0, y1, y2, y3, y4, y5⟩ := of6 ((b1.block _ hlt0).trans (unhide X8))); have q9 := (b1.block _ hlt).trans (unhide X9); (obtain ⟨z0, z1, z2, z3, z4, z5⟩ := of6 q9); have zf := fun o => frozen_free (o := o) q9; clear b1 q9)
    | (go_at_call 60; refine (betweenNo attr lo hi hc _).mono ?_; rintro e w2 ⟨rfl, b2⟩; have B2 := hide (below_sub (unhide B1) b2); clear b2 y0 y1 y2 y3 y4 y5 z0 z1 z2 z3 z4 z5 zf; (obtain ⟨y0, y1, y2, y3, y4, y5⟩ := of6 (((unhide B2).block _ hlt0).trans (unhide X8))); have q9 := ((unhide B2).block _ hlt).trans (unhide X9); (obtain ⟨z0, z1, z2, z3, z4, z5⟩ := of6 q9); have zf := fun o => frozen_free (o := o) q9; clear q9))
  exact bodyPost_ret (v := .tuple #[.agg #[.int .i64 0, .string ⟨#[]⟩, .slice none 0 0, .slice none 0 0, .int .i64 0, .int .i64 0], .bool false]) (by simp [results, Tryz.results23, go_sem, *]) rfl ⟨rfl, ((((((below_sub (unhide BX) (unhide B2)).setCell (p := ⟨w.heap.size + 1, 0, none⟩) (Nat.le_succ _) _).setCell (p := ⟨w.heap.size + 1, 1, none⟩) (Nat.le_succ _) _).setCell (p := ⟨w.heap.size + 1, 2, none⟩) (Nat.le_succ _) _).setCell (p := ⟨w.heap.size + 1, 3, none⟩) (Nat.le_succ _) _).setCell (p := ⟨w.heap.size + 1, 4, none⟩) (Nat.le_succ _) _).setCell (p := ⟨w.heap.size + 1, 5, none⟩) (Nat.le_succ _) _⟩
set_option maxRecDepth 100000 in
theorem normal_3r (attr : ByteArray) (qi : Option Addr) (ci : Nat) (ints : List Int) (qw : Option Addr) (cw : Nat) (words : List ByteArray) (lo hi : Int) (w : World) (h1 : SlOf encI 1 w qi ci ints) (h2 : SlOf encS 1 w qw cw words) (l1 : ints.length ≤ 1000000000000000000) (l2 : words.length ≤ 1000000000000000000) (hp : predB 3 attr ints words lo hi = true) (hc : lo < hi) :
    Calls Tryz.prog 23 #[.agg #[.int .i64 3, .string attr, .slice qi ints.length ci, .slice qw words.length cw, .int .i64 lo, .int .i64 hi]] w fun e w' => e = .returned (.tuple #[.agg #[.int .i64 3, .string attr, .slice none 0 0, .slice none 0 0, .int .i64 lo, .int .i64 hi], .bool true]) ∧ Below w.heap.size w w' := by
  obtain ⟨X, HX⟩ : ∃ X, (w.alloc (.cells #[.int .i64 3, .string attr, .slice qi ints.length ci, .slice qw words.length cw, .int .i64 lo, .int .i64 hi] 25)).alloc (.cells #[.int .i64 0, .string ⟨#[]⟩, .slice none 0 0, .slice none 0 0, .int .i64 0, .int .i64 0] 25) = X := ⟨_, rfl⟩
  have bX : Below w.heap.size w X := by rw [← HX]; exact ((Below.refl _ _).alloc (Nat.le_refl _) _).alloc (by simp) _
  have x9 : X.heap[w.heap.size + 1]? = some (.cells #[.int .i64 0, .string ⟨#[]⟩, .slice none 0 0, .slice none 0 0, .int .i64 0, .int .i64 0] 25 (0, 0)) := by
    have := World.alloc_heap_new (w.alloc (.cells #[.int .i64 3, .string attr, .slice qi ints.length ci, .slice qw words.length cw, .int .i64 lo, .int .i64 hi] 25)) (.cells #[.int .i64 0, .string ⟨#[]⟩, .slice none 0 0, .slice none 0 0, .int .i64 0, .int .i64 0] 25)
    rw [World.size_alloc] at this
    rw [← HX]; exact this
  have x8 : X.heap[w.heap.size]? = some (.cells #[.int .i64 3, .string attr, .slice qi ints.length ci, .slice qw words.length cw, .int .i64 lo, .int .i64 hi] 25 (0, 0)) := by
    rw [← HX]
    exact (((Below.refl _ _).alloc (Nat.le_refl _) _).block w.heap.size (by simp)).trans (World.alloc_heap_new _ _)
  have hlt : w.heap.size + 1 < X.heap.size := by rw [← HX]; simp
  have hlt0 : w.heap.size < X.heap.size := by omega
  obtain ⟨x0, x1, x2, x3, x4, x5⟩ := of6 x8
  obtain ⟨v0, v1, v2, v3, v4, v5⟩ := of6 x9
  have xf := fun o => frozen_free (o := o) x9
  have hP := fun (W : World) (hW : Below w.heap.size w W) => pred_any 3 attr qi ci ints qw cw words lo hi W (h1.below hW) (h2.below hW) l1 l2
  rw [hp] at hP
  simp only [code, if_true] at hP
  have H1 := hide h1
  have H2 := hide h2
  have X8 := hide x8
  have X9 := hide x9
  have BX := hide bX
  clear x8 x9 bX h1 h2
  go_enter Tryz.func23, Tryz.ntmps23
  go_wp2_with (first
    | (go_at_call 48; refine (hP _ (unhide BX)).mono ?_; rintro e w1 ⟨rfl, b1⟩; have B1 := hide b1; (obtain ⟨y0, y1, y2, y3, y4, y5⟩ := of6 ((b1.block _ hlt0).trans (unhide X8))); have q9 := (b1.block _ hlt).trans (unhide X9); (obtain ⟨z0, z1, z2, z3, z4, z5⟩ := of6 q9); have zf := fun o => frozen_free (o := o) q9; clear b1 q9)
    | (go_at_call 60; refine (betweenR attr lo hi hc _).mono ?_; rintro e w2 ⟨rfl, b2⟩; have B2 := hide (below_sub (unhide B1) b2); clear b2 y0 y1 y2 y3 y4 y5 z0 z1 z2 z3 z4 z5 zf; (obtain ⟨y0, y1, y2, y3, y4, y5⟩ := of6 (((unhide B2).block _ hlt0).trans (unhide X8))); have q9 := ((unhide B2).block _ hlt).trans (unhide X9); (obtain ⟨z0, z1, z2, z3, z4, z5⟩ := of6 q9); have zf := fun o => frozen_free (o := o) q9; clear q9))
  exact bodyPost_ret (v := .tuple #[.agg #[.int .i64 3, .string attr, .slice none 0 0, .slice none 0 0, .int .i64 lo, .int .i64 hi], .bool true]) (by simp [results, Tryz.results23, go_sem, *]) rfl ⟨rfl, ((((((below_sub (unhide BX) (unhide B2)).setCell (p := ⟨w.heap.size + 1, 0, none⟩) (Nat.le_succ _) _).setCell (p := ⟨w.heap.size + 1, 1, none⟩) (Nat.le_succ _) _).setCell (p := ⟨w.heap.size + 1, 2, none⟩) (Nat.le_succ _) _).setCell (p := ⟨w.heap.size + 1, 3, none⟩) (Nat.le_succ _) _).setCell (p := ⟨w.heap.size + 1, 4, none⟩) (Nat.le_succ _) _).setCell (p := ⟨w.heap.size + 1, 5, none⟩) (Nat.le_succ _) _⟩
set_option maxRecDepth 100000 in
theorem normal_3e (attr : ByteArray) (qi : Option Addr) (ci : Nat) (ints : List Int) (qw : Option Addr) (cw : Nat) (words : List ByteArray) (lo hi : Int) (w : World) (h1 : SlOf encI 1 w qi ci ints) (h2 : SlOf encS 1 w qw cw words) (l1 : ints.length ≤ 1000000000000000000) (l2 : words.length ≤ 1000000000000000000) (hp : predB 3 attr ints words lo hi = true) (hc : lo = hi) :
    Calls Tryz.prog 23 #[.agg #[.int .i64 3, .string attr, .slice qi ints.length ci, .slice qw words.length cw, .int .i64 lo, .int .i64 hi]] w fun e w' => (∃ q c, e = .returned (.tuple #[.agg #[.int .i64 1, .string attr, .slice q 1 c, .slice none 0 0, .int .i64 0, .int .i64 0], .bool true]) ∧ SlOf encI 1 w' q c [lo]) ∧ Below w.heap.size w w' := by
  subst hc
  obtain ⟨X, HX⟩ : ∃ X, (w.alloc (.cells #[.int .i64 3, .string attr, .slice qi ints.length ci, .slice qw words.length cw, .int .i64 lo, .int .i64 lo] 25)).alloc (.cells #[.int .i64 0, .string ⟨#[]⟩, .slice none 0 0, .slice none 0 0, .int .i64 0, .int .i64 0] 25) = X := ⟨_, rfl⟩
  have bX : Below w.heap.size w X := by rw [← HX]; exact ((Below.refl _ _).alloc (Nat.le_refl _) _).alloc (by simp) _
  have x9 : X.heap[w.heap.size + 1]? = some (.cells #[.int .i64 0, .string ⟨#[]⟩, .slice none 0 0, .slice none 0 0, .int .i64 0, .int .i64 0] 25 (0, 0)) := by
    have := World.alloc_heap_new (w.alloc (.cells #[.int .i64 3, .string attr, .slice qi ints.length ci, .slice qw words.length cw, .int .i64 lo, .int .i64 lo] 25)) (.cells #[.int .i64 0, .string ⟨#[]⟩, .slice none 0 0, .slice none 0 0, .int .i64 0, .int .i64 0] 25)
    rw [World.size_alloc] at this
    rw [← HX]; exact this
  have x8 : X.heap[w.heap.size]? = some (.cells #[.int .i64 3, .string attr, .slice qi ints.length ci, .slice qw words.length cw, .int .i64 lo, .int .i64 lo] 25 (0, 0)) := by
    rw [← HX]
    exact (((Below.refl _ _).alloc (Nat.le_refl _) _).block w.heap.size (by simp)).trans (World.alloc_heap_new _ _)
  have hlt : w.heap.size + 1 < X.heap.size := by rw [← HX]; simp
  have hlt0 : w.heap.size < X.heap.size := by omega
  obtain ⟨x0, x1, x2, x3, x4, x5⟩ := of6 x8
  obtain ⟨v0, v1, v2, v3, v4, v5⟩ := of6 x9
  have xf := fun o => frozen_free (o := o) x9
  have hP := fun (W : World) (hW : Below w.heap.size w W) => pred_any 3 attr qi ci ints qw cw words lo lo W (h1.below hW) (h2.below hW) l1 l2
  rw [hp] at hP
  simp only [code, if_true] at hP
  have H1 := hide h1
  have H2 := hide h2
  have X8 := hide x8
  have X9 := hide x9
  have BX := hide bX
  clear x8 x9 bX h1 h2
  go_enter Tryz.func23, Tryz.ntmps23
  go_wp2_with (first
    | (go_at_call 48; refine (hP _ (unhide BX)).mono ?_; rintro e w1 ⟨rfl, b1⟩; have B1 := hide b1; (obtain ⟨y0, y1, y2, y3, y4, y5⟩ := of6 ((b1.block _ hlt0).trans (unhide X8))); have q9 := (b1.block _ hlt).trans (unhide X9); (obtain ⟨z0, z1, z2, z3, z4, z5⟩ := of6 q9); have zf := fun o => frozen_free (o := o) q9; clear b1 q9)
    | (go_at_call 60; refine (betweenE attr lo _).mono ?_; rintro e w2 ⟨⟨q2, c2, rfl, s2, p2⟩, b2⟩; have S2 := hide s2; have L2 : Hid (∀ a, q2 = some a → w.heap.size + 1 < a.block) := hide (fun a e => by (have h1 := p2 a e); (have h2 := (unhide B1).size); omega); clear s2 p2; have B2 := hide (below_sub (unhide B1) b2); clear b2 y0 y1 y2 y3 y4 y5 z0 z1 z2 z3 z4 z5 zf; (obtain ⟨y0, y1, y2, y3, y4, y5⟩ := of6 (((unhide B2).block _ hlt0).trans (unhide X8))); have q9 := ((unhide B2).block _ hlt).trans (unhide X9); (obtain ⟨z0, z1, z2, z3, z4, z5⟩ := of6 q9); have zf := fun o => frozen_free (o := o) q9; clear q9))
  exact bodyPost_ret (v := .tuple #[.agg #[.int .i64 1, .string attr, .slice q2 1 c2, .slice none 0 0, .int .i64 0, .int .i64 0], .bool true]) (by simp [results, Tryz.results23, go_sem, *]) rfl ⟨⟨q2, c2, rfl, ((((((unhide S2).set (fun a e => by have := unhide L2 a e; omega) 0 _).set (fun a e => by have := unhide L2 a e; omega) 1 _).set (fun a e => by have := unhide L2 a e; omega) 2 _).set (fun a e => by have := unhide L2 a e; omega) 3 _).set (fun a e => by have := unhide L2 a e; omega) 4 _).set (fun a e => by have := unhide L2 a e; omega) 5 _⟩, ((((((below_sub (unhide BX) (unhide B2)).setCell (p := ⟨w.heap.size + 1, 0, none⟩) (Nat.le_succ _) _).setCell (p := ⟨w.heap.size + 1, 1, none⟩) (Nat.le_succ _) _).setCell (p := ⟨w.heap.size + 1, 2, none⟩) (Nat.le_succ _) _).setCell (p := ⟨w.heap.size + 1, 3, none⟩) (Nat.le_succ _) _).setCell (p := ⟨w.heap.size + 1, 4, none⟩) (Nat.le_succ _) _).setCell (p := ⟨w.heap.size + 1, 5, none⟩) (Nat.le_succ _) _⟩
set_option maxRecDepth 100000 in
theorem normal_4 (attr : ByteArray) (qi : Option Addr) (ci : Nat) (ints : List Int) (qw : Option Addr) (cw : Nat) (words : List ByteArray) (lo hi : Int) (w : World) (h1 : SlOf encI 1 w qi ci ints) (h2 : SlOf encS 1 w qw cw words) (l1 : ints.length ≤ 1000000000000000000) (l2 : words.length ≤ 1000000000000000000) (hp : predB 4 attr ints words lo hi = true) (s : ByteArray) (hs : words[0]? = some s) :
    Calls Tryz.prog 23 #[.agg #[.int .i64 4, .string attr, .slice qi ints.length ci, .slice qw words.length cw, .int .i64 lo, .int .i64 hi]] w fun e w' => (∃ q c, e = .returned (.tuple #[.agg #[.int .i64 4, .string attr, .slice none 0 0, .slice q 1 c, .int .i64 0, .int .i64 0], .bool true]) ∧ SlOf encS 1 w' q c [s]) ∧ Below w.heap.size w w' := by
  obtain ⟨bs, os, hqs, hbs, hcs⟩ := wordsAt h2 hs
  have hw0 : 0 < words.length := (List.getElem?_eq_some_iff.1 hs).1
  subst hqs
  obtain ⟨X, HX⟩ : ∃ X, (w.alloc (.cells #[.int .i64 4, .string attr, .slice qi ints.length ci, .slice (some ⟨bs, os, none⟩) words.length cw, .int .i64 lo, .int .i64 hi] 25)).alloc (.cells #[.int .i64 0, .string ⟨#[]⟩, .slice none 0 0, .slice none 0 0, .int .i64 0, .int .i64 0] 25) = X := ⟨_, rfl⟩
  have bX : Below w.heap.size w X := by rw [← HX]; exact ((Below.refl _ _).alloc (Nat.le_refl _) _).alloc (by simp) _
  have x9 : X.heap[w.heap.size + 1]? = some (.cells #[.int .i64 0, .string ⟨#[]⟩, .slice none 0 0, .slice none 0 0, .int .i64 0, .int .i64 0] 25 (0, 0)) := by
    have := World.alloc_heap_new (w.alloc (.cells #[.int .i64 4, .string attr, .slice qi ints.length ci, .slice (some ⟨bs, os, none⟩) words.length cw, .int .i64 lo, .int .i64 hi] 25)) (.cells #[.int .i64 0, .string ⟨#[]⟩, .slice none 0 0, .slice none 0 0, .int .i64 0, .int .i64 0] 25)
    rw [World.size_alloc] at this
    rw [← HX]; exact this
  have x8 : X.heap[w.heap.size]? = some (.cells #[.int .i64 4, .string attr, .slice qi ints.length ci, .slice (some ⟨bs, os, none⟩) words.length cw, .int .i64 lo, .int .i64 hi] 25 (0, 0)) := by
    rw [← HX]
    exact (((Below.refl _ _).alloc (Nat.le_refl _) _).block w.heap.size (by simp)).trans (World.alloc_heap_new _ _)
  have hlt : w.heap.size + 1 < X.heap.size := by rw [← HX]; simp
  have hlt0 : w.heap.size < X.heap.size := by omega
  obtain ⟨x0, x1, x2, x3, x4, x5⟩ := of6 x8
  obtain ⟨v0, v1, v2, v3, v4, v5⟩ := of6 x9
  have xf := fun o => frozen_free (o := o) x9
  have hP := fun (W : World) (hW : Below w.heap.size w W) => pred_any 4 attr qi ci ints (some ⟨bs, os, none⟩) cw words lo hi W (h1.below hW) (h2.below hW) l1 l2
  rw [hp] at hP
  simp only [code, if_true] at hP
  have H1 := hide h1
  have H2 := hide h2
  have X8 := hide x8
  have X9 := hide x9
  have BX := hide bX
  clear x8 x9 bX h1 h2
  have hs8 := fun (W : World) (hW : Below w.heap.size w W) => (hW.cell (p := ⟨bs, os + 0, none⟩) hbs).trans hcs
  simp only [Nat.add_zero] at hs8
  clear hcs hs
  go_enter Tryz.func23, Tryz.ntmps23
  go_wp2_with (go_at_call 48; refine (hP _ (unhide BX)).mono ?_; rintro e w1 ⟨rfl, b1⟩; have B1 := hide b1; (obtain ⟨y0, y1, y2, y3, y4, y5⟩ := of6 ((b1.block _ hlt0).trans (unhide X8))); have q9 := (b1.block _ hlt).trans (unhide X9); (obtain ⟨z0, z1, z2, z3, z4, z5⟩ := of6 q9); have zf := fun o => frozen_free (o := o) q9; have s8 := hs8 _ (below_sub (unhide BX) b1); clear b1 q9)
  go_region_with (go_at_call 61; refine (beginsS attr s _).mono ?_; rintro e w2 ⟨⟨q2, c2, rfl, s2, p2⟩, b2⟩; have b2' : Below w1.heap.size w1 w2 := (by first | exact b2 | exact below_undrew b2 | exact below_undrew (below_undrew b2) | exact below_undrew (below_undrew (below_undrew b2))); have S2 := hide s2; have L2 : Hid (∀ a, q2 = some a → w.heap.size + 1 < a.block) := hide (fun a e => by (have h1 : w1.heap.size ≤ a.block := p2 a e); (have h2 := (unhide B1).size); omega); have B2 := hide (below_sub (unhide B1) b2'); clear s2 p2 b2 b2' y0 y1 y2 y3 y4 y5 z0 z1 z2 z3 z4 z5 zf; (obtain ⟨y0, y1, y2, y3, y4, y5⟩ := of6 (((unhide B2).block _ hlt0).trans (unhide X8))); have q9 := ((unhide B2).block _ hlt).trans (unhide X9); (obtain ⟨z0, z1, z2, z3, z4, z5⟩ := of6 q9); have zf := fun o => frozen_free (o := o) q9; clear q9)
  all_goals
    go_wp2
    exact bodyPost_ret (v := .tuple #[.agg #[.int .i64 4, .string attr, .slice none 0 0, .slice q2 1 c2, .int .i64 0, .int .i64 0], .bool true]) (by simp [results, Tryz.results23, go_sem, *]) rfl ⟨⟨q2, c2, rfl, ((((((unhide S2).set (fun a e => by have := unhide L2 a e; omega) 0 _).set (fun a e => by have := unhide L2 a e; omega) 1 _).set (fun a e => by have := unhide L2 a e; omega) 2 _).set (fun a e => by have := unhide L2 a e; omega) 3 _).set (fun a e => by have := unhide L2 a e; omega) 4 _).set (fun a e => by have := unhide L2 a e; omega) 5 _⟩, ((((((below_sub (unhide BX) (unhide B2)).setCell (p := ⟨w.heap.size + 1, 0, none⟩) (Nat.le_succ _) _).setCell (p := ⟨w.heap.size + 1, 1, none⟩) (Nat.le_succ _) _).setCell (p := ⟨w.heap.size + 1, 2, none⟩) (Nat.le_succ _) _).setCell (p := ⟨w.heap.size + 1, 3, none⟩) (Nat.le_succ _) _).setCell (p := ⟨w.heap.size + 1, 4, none⟩) (Nat.le_succ _) _).setCell (p := ⟨w.heap.size + 1, 5, none⟩) (Nat.le_succ _) _⟩
end Go.Proofs.YtedakipjfpdajaaGreatDoor
