/- What Check, Bounds, Has and Parent answer, the program's and the document's, at every span and at what is none. -/
import Derived.Test.YtjclojeihjgnkaaDoorProg
import Derived.Test.YtjclojeihjgnkaaDoorSpanPlain
import Derived.WalkKit
import Derived.WalkSpells
import Derived.WalkLawsBesides
import Derived.Deep.RegionHeld3
import Derived.Deep.QuietTactic
import Derived.BigQuiet
import Derived.Lib.QuietBelow
namespace Go.Proofs.YtjclojeihjgnkaaDoor
open Go.RowKit

/-- A span: level l, index i. -/
def okN (l i : Nat) : Prop := ∃ k, l + k = 32 ∧ i < 2 ^ k
def okS (L I : Int) : Prop := ∃ l i : Nat, L = (l : Int) ∧ I = (i : Int) ∧ okN l i
def loS (l i : Nat) : Int := -2147483648 + ((i * 2 ^ l : Nat) : Int)
def hiS (l i : Nat) : Int := -2147483648 + ((i * 2 ^ l : Nat) : Int) + ((2 ^ l : Nat) : Int) - 1

theorem hide {p : Prop} (h : p) : Hid p := h
theorem unhide {p : Prop} (h : Hid p) : p := h.out
theorem below_undrew {w w' : World} (h : Below w.drew.heap.size w.drew w') : Below w.heap.size w w' := ⟨h.os, h.tape, h.output, h.size, h.block⟩

theorem okN_bound {l i : Nat} (h : okN l i) : i * 2 ^ l + 2 ^ l ≤ 4294967296 ∧ 0 < 2 ^ l ∧ l ≤ 32 := by
  obtain ⟨k, hk, hi⟩ := h
  have h2 : (i + 1) * 2 ^ l ≤ 2 ^ k * 2 ^ l := Nat.mul_le_mul_right _ hi
  rw [← Nat.pow_add, show k + l = 32 by omega, Nat.add_mul, Nat.one_mul] at h2
  exact ⟨h2, Nat.two_pow_pos _, by omega⟩

theorem not_okS {L I : Int} (hL : 0 ≤ L) (hL2 : L ≤ 32) (hI : 0 ≤ I) (h : ¬ okS L I) : ∃ l k : Nat, L = (l : Int) ∧ l + k = 32 ∧ (2 : Int) ^ k ≤ I := by
  refine ⟨L.toNat, 32 - L.toNat, by omega, by omega, ?_⟩
  apply Classical.byContradiction
  intro g
  refine h ⟨L.toNat, I.toNat, by omega, by omega, 32 - L.toNat, by omega, ?_⟩
  have : (I.toNat : Int) < ((2 ^ (32 - L.toNat) : Nat) : Int) := by
    rw [Int.toNat_of_nonneg hI]
    rw [Int.natCast_pow]
    exact Int.not_le.1 g
  exact Int.ofNat_lt.1 this

theorem check_good (l i : Nat) (h : okN l i) (w : World) :
    Calls Tryd.prog 14 #[.agg #[.int .i64 l, .int .i64 i]] w fun e w' => e = .returned (.int .i64 0) ∧ Below w.heap.size w w' := by
  obtain ⟨k, hk, hi⟩ := h
  have e1 : IntKind.i64.wrap (32 - (l : Int)) = (k : Int) := by have : (32 : Int) - (l : Int) = k := (by omega); rw [this, IntKind.wrap_i64]; omega
  have e2 : (i : Int) / 2 ^ k = 0 := by
    have : (i : Int) < 2 ^ k := by exact_mod_cast hi
    exact Int.ediv_eq_zero_of_lt (by omega) this
  have hl : (l : Int) ≤ 32 := by omega
  go_enter Tryd.func14, Tryd.ntmps14
  go_wp2
  go_ret
  exact ⟨rfl, (Below.refl _ _).alloc (Nat.le_refl _) _⟩

theorem check_bad (L I : Int) (h : ¬ okS L I) (hL : -9223372036854775808 ≤ L ∧ L ≤ 9223372036854775807) (hI : -9223372036854775808 ≤ I ∧ I ≤ 9223372036854775807) (w : World) :
    Calls Tryd.prog 14 #[.agg #[.int .i64 L, .int .i64 I]] w fun e w' => e = .returned (.int .i64 1) ∧ Below w.heap.size w w' := by
  by_cases h1 : 0 ≤ L
  · by_cases h2 : L ≤ 32
    · by_cases h3 : 0 ≤ I
      · obtain ⟨l, k, rfl, hk, hi⟩ := not_okS h1 h2 h3 h
        clear h
        have e1 : IntKind.i64.wrap (32 - (l : Int)) = (k : Int) := by have : (32 : Int) - (l : Int) = k := (by omega); rw [this, IntKind.wrap_i64]; omega
        have e2 : 1 ≤ I / 2 ^ k := by
          have hp : (0 : Int) < 2 ^ k := Int.pow_pos (by decide)
          exact (Int.le_ediv_iff_mul_le hp).2 (by omega)
        obtain ⟨J, hJ⟩ : ∃ J, I / 2 ^ k = J := ⟨_, rfl⟩
        rw [hJ] at e2
        have e3 : (J != 0) = true := by simp; omega
        have e4 : ¬ J = 0 := by omega
        clear hi
        go_enter Tryd.func14, Tryd.ntmps14
        go_wp2
        go_ret
        exact ⟨rfl, (Below.refl _ _).alloc (Nat.le_refl _) _⟩
      · clear h
        go_enter Tryd.func14, Tryd.ntmps14
        go_wp2
        go_ret
        exact ⟨rfl, (Below.refl _ _).alloc (Nat.le_refl _) _⟩
    · clear h
      go_enter Tryd.func14, Tryd.ntmps14
      go_wp2
      go_ret
      exact ⟨rfl, (Below.refl _ _).alloc (Nat.le_refl _) _⟩
  · clear h
    go_enter Tryd.func14, Tryd.ntmps14
    go_wp2
    go_ret
    exact ⟨rfl, (Below.refl _ _).alloc (Nat.le_refl _) _⟩

theorem shl_q (l i : Nat) (h : okN l i) : IntKind.i64.wrap ((i : Int) * 2 ^ l) = ((i * 2 ^ l : Nat) : Int) := by
  have := okN_bound h
  rw [show (i : Int) * 2 ^ l = ((i * 2 ^ l : Nat) : Int) by rw [Int.natCast_mul, Int.natCast_pow]; rfl, IntKind.wrap_i64]
  omega
theorem shl_t (l : Nat) (h : l ≤ 32) : IntKind.i64.wrap ((2 : Int) ^ l) = ((2 ^ l : Nat) : Int) := by
  have : 2 ^ l ≤ 2 ^ 32 := Nat.pow_le_pow_right (by decide) h
  rw [show (2 : Int) ^ l = ((2 ^ l : Nat) : Int) by rw [Int.natCast_pow]; rfl, IntKind.wrap_i64]
  have e : (2 : Nat) ^ 32 = 4294967296 := by decide
  generalize 2 ^ l = T at *
  omega



theorem box_cells {w w1 : World} {a b : Value} (hb : Below (w.alloc (.cells #[a, b] 23)).heap.size (w.alloc (.cells #[a, b] 23)) w1) :
    w1.cell? ⟨w.heap.size, 0, none⟩ = some a ∧ w1.cell? ⟨w.heap.size, 1, none⟩ = some b ∧ Below w.heap.size w w1 ∧ w.heap.size < w1.heap.size :=
  ⟨(hb.cell (by simp)).trans (by simp), (hb.cell (by simp)).trans (by simp), ((Below.refl _ _).alloc (Nat.le_refl _) _).trans (hb.mono (by simp)), Nat.lt_of_lt_of_le (by simp) hb.size⟩
/-- A box of two cells of the call's own that may be written. -/
theorem box_two {w w1 : World} {a b c d : Value} (hb : Below ((w.alloc (.cells #[a, b] 23)).alloc (.cells #[c, d] 23)).heap.size ((w.alloc (.cells #[a, b] 23)).alloc (.cells #[c, d] 23)) w1) :
    w1.cell? ⟨w.heap.size, 0, none⟩ = some a ∧ w1.cell? ⟨w.heap.size, 1, none⟩ = some b ∧ w1.cell? ⟨w.heap.size + 1, 0, none⟩ = some c ∧ w1.cell? ⟨w.heap.size + 1, 1, none⟩ = some d ∧ (∀ o, w1.frozen? ⟨w.heap.size + 1, o, none⟩ = false) ∧ Below w.heap.size w w1 ∧ w.heap.size + 1 < w1.heap.size :=
  ⟨(hb.cell (by simp <;> omega)).trans (by simp), (hb.cell (by simp <;> omega)).trans (by simp), (hb.cell (by simp)).trans (by simp), (hb.cell (by simp)).trans (by simp), fun o => (hb.frozen (by simp)).trans (by simp), (((Below.refl _ _).alloc (Nat.le_refl _) _).alloc (by simp) _).trans (hb.mono (by simp <;> omega)), Nat.lt_of_lt_of_le (by simp) hb.size⟩

theorem bounds_good (l i : Nat) (h : okN l i) (w : World) :
    Calls Tryd.prog 10 #[.agg #[.int .i64 l, .int .i64 i]] w fun e w' => e = .returned (.tuple #[.int .i64 (loS l i), .int .i64 (hiS l i)]) ∧ Below w.heap.size w w' := by
  have e3 := shl_q l i h
  obtain ⟨hb1, hb2, hb3⟩ := okN_bound h
  have e4 := shl_t l hb3
  unfold loS hiS
  obtain ⟨Q, hQ⟩ : ∃ Q, i * 2 ^ l = Q := ⟨_, rfl⟩
  obtain ⟨T, hT⟩ : ∃ T, 2 ^ l = T := ⟨_, rfl⟩
  rw [hQ] at e3 hb1
  rw [hT] at e4 hb1 hb2
  have e5 : (l : Int) ≤ 32 := by omega
  rw [hQ, hT]
  clear hQ hT
  have H := hide h
  clear h
  go_enter Tryd.func10, Tryd.ntmps10
  go_wp2_with (go_at_call 14; refine (check_good l i (unhide H) _).mono ?_; rintro e w1 ⟨rfl, hb⟩; obtain ⟨c0, c1, bel, sz⟩ := box_cells hb)
  go_region
  go_wp2
  refine bodyPost_ret (v := .tuple #[.int .i64 (-2147483648 + (Q : Int)), .int .i64 (-2147483648 + (Q : Int) + (T : Int) - 1)]) (by simp [results, Tryd.results10, go_sem]) rfl ⟨rfl, bel.drew⟩

theorem bounds_bad (L I : Int) (h : ¬ okS L I) (hL : -9223372036854775808 ≤ L ∧ L ≤ 9223372036854775807) (hI : -9223372036854775808 ≤ I ∧ I ≤ 9223372036854775807) (w : World) :
    Calls Tryd.prog 10 #[.agg #[.int .i64 L, .int .i64 I]] w fun e w' => e = .returned (.tuple #[.int .i64 0, .int .i64 0]) ∧ Below w.heap.size w w' := by
  have H := hide h
  clear h
  go_enter Tryd.func10, Tryd.ntmps10
  go_wp2_with (go_at_call 14; refine (check_bad L I (unhide H) hL hI _).mono ?_; rintro e w1 ⟨rfl, hb⟩; obtain ⟨c0, c1, bel, sz⟩ := box_cells hb)
  refine bodyPost_ret (v := .tuple #[.int .i64 0, .int .i64 0]) (by simp [results, Tryd.results10, go_sem]) rfl ⟨rfl, bel⟩

theorem has_good (l i : Nat) (h : okN l i) (x : Int) (w : World) :
    Calls Tryd.prog 16 #[.agg #[.int .i64 l, .int .i64 i], .int .i64 x] w fun e w' => e = .returned (.bool (decide (loS l i ≤ x) && decide (x ≤ hiS l i))) ∧ Below w.heap.size w w' := by
  obtain ⟨A, hA⟩ : ∃ A, loS l i = A := ⟨_, rfl⟩
  obtain ⟨B, hB⟩ : ∃ B, hiS l i = B := ⟨_, rfl⟩
  have hbo := bounds_good l i h
  rw [hA, hB] at hbo ⊢
  clear hA hB
  have H := hide h
  clear h
  go_enter Tryd.func16, Tryd.ntmps16
  go_wp2_with (first
    | (go_at_call 14; refine (check_good l i (unhide H) _).mono ?_; rintro e w1 ⟨rfl, hb⟩; obtain ⟨c0, c1, bel, sz⟩ := box_cells hb)
    | (go_at_call 10; refine (hbo _).mono ?_; rintro e w2 ⟨rfl, hb2⟩))
  all_goals (go_ret; exact ⟨by simp_all <;> omega, bel.trans (hb2.mono bel.size)⟩)

theorem has_bad (L I : Int) (h : ¬ okS L I) (hL : -9223372036854775808 ≤ L ∧ L ≤ 9223372036854775807) (hI : -9223372036854775808 ≤ I ∧ I ≤ 9223372036854775807) (x : Int) (w : World) :
    Calls Tryd.prog 16 #[.agg #[.int .i64 L, .int .i64 I], .int .i64 x] w fun e w' => e = .returned (.bool false) ∧ Below w.heap.size w w' := by
  have H := hide h
  clear h
  go_enter Tryd.func16, Tryd.ntmps16
  go_wp2_with (go_at_call 14; refine (check_bad L I (unhide H) hL hI _).mono ?_; rintro e w1 ⟨rfl, hb⟩; obtain ⟨c0, c1, bel, sz⟩ := box_cells hb)
  go_ret
  exact ⟨rfl, bel⟩

theorem parent_good (l i : Nat) (h : okN l i) (hl : l < 32) (w : World) :
    Calls Tryd.prog 12 #[.agg #[.int .i64 l, .int .i64 i]] w fun e w' => e = .returned (.tuple #[.agg #[.int .i64 ((l + 1 : Nat) : Int), .int .i64 ((i / 2 : Nat) : Int)], .bool true]) ∧ Below w.heap.size w w' := by
  have H := hide h
  obtain ⟨hb1, hb2, hb3⟩ := okN_bound h
  have hi : i ≤ 4294967296 := by
    have : i * 1 ≤ i * 2 ^ l := Nat.mul_le_mul_left _ hb2
    omega
  clear h hb1 hb2
  have e1 : ((l : Int) == 32) = false := by simp; omega
  have e2 : ¬ (l : Int) = 32 := by omega
  go_enter Tryd.func12, Tryd.ntmps12
  go_wp2_with (go_at_call 14; refine (check_good l i (unhide H) _).mono ?_; rintro e w1 ⟨rfl, hb⟩; obtain ⟨c0, c1, c2, c3, c4, bel, sz⟩ := box_two hb)
  refine bodyPost_ret (v := .tuple #[.agg #[.int .i64 ((l + 1 : Nat) : Int), .int .i64 ((i / 2 : Nat) : Int)], .bool true]) (by simp [results, Tryd.results12, go_sem, c2, c3]) rfl ⟨rfl, ?_⟩
  exact ((bel.setCell (by simp) _).setCell (by simp) _)

theorem parent_top (i : Nat) (h : okN 32 i) (w : World) :
    Calls Tryd.prog 12 #[.agg #[.int .i64 32, .int .i64 i]] w fun e w' => e = .returned (.tuple #[.agg #[.int .i64 0, .int .i64 0], .bool false]) ∧ Below w.heap.size w w' := by
  have H := check_good 32 i h
  clear h
  go_enter Tryd.func12, Tryd.ntmps12
  go_wp2_with (go_at_call 14; refine (H _).mono ?_; rintro e w1 ⟨rfl, hb⟩; obtain ⟨c0, c1, c2, c3, c4, bel, sz⟩ := box_two hb)
  refine bodyPost_ret (v := .tuple #[.agg #[.int .i64 0, .int .i64 0], .bool false]) (by simp [results, Tryd.results12, go_sem, c2, c3]) rfl ⟨rfl, ?_⟩
  exact ((bel.setCell (by simp) _).setCell (by simp) _)

theorem parent_bad (L I : Int) (h : ¬ okS L I) (hL : -9223372036854775808 ≤ L ∧ L ≤ 9223372036854775807) (hI : -9223372036854775808 ≤ I ∧ I ≤ 9223372036854775807) (w : World) :
    Calls Tryd.prog 12 #[.agg #[.int .i64 L, .int .i64 I]] w fun e w' => e = .returned (.tuple #[.agg #[.int .i64 0, .int .i64 0], .bool false]) ∧ Below w.heap.size w w' := by
  have H := check_bad L I h hL hI
  clear h
  go_enter Tryd.func12, Tryd.ntmps12
  go_wp2_with (go_at_call 14; refine (H _).mono ?_; rintro e w1 ⟨rfl, hb⟩; obtain ⟨c0, c1, c2, c3, c4, bel, sz⟩ := box_two hb)
  all_goals
    (refine bodyPost_ret (v := .tuple #[.agg #[.int .i64 0, .int .i64 0], .bool false]) (by simp [results, Tryd.results12, go_sem, c2, c3]) rfl ⟨rfl, ?_⟩
     exact ((bel.setCell (by simp) _).setCell (by simp) _))

/- The document's. -/
theorem rcheck_good (l i : Nat) (h : okN l i) (w : World) :
    Calls Tryd.prog 15 #[.agg #[.int .i64 l, .int .i64 i]] w fun e w' => e = .returned (.bool true) ∧ Below w.heap.size w w' := by
  obtain ⟨k, hk, hi⟩ := h
  have e1 : IntKind.i64.wrap (32 - (l : Int)) = (k : Int) := by have : (32 : Int) - (l : Int) = k := (by omega); rw [this, IntKind.wrap_i64]; omega
  have e2 := shl_t k (by omega)
  have e3 : (i : Int) < ((2 ^ k : Nat) : Int) := by exact_mod_cast hi
  obtain ⟨T, hT⟩ : ∃ T, 2 ^ k = T := ⟨_, rfl⟩
  rw [hT] at e2 e3
  clear hT hi
  have hl : (l : Int) ≤ 32 := by omega
  go_enter Tryd.func15, Tryd.ntmps15
  go_wp2
  go_region
  go_wp2
  go_ret
  exact ⟨by simp_all <;> omega, ((Below.refl _ _).alloc (Nat.le_refl _) _).drew⟩
end Go.Proofs.YtjclojeihjgnkaaDoor
