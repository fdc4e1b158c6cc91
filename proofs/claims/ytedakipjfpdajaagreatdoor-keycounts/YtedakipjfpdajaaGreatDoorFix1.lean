/- The leaves of law12.fixed, at its literals: names, predicates, spans. -/
import Derived.Test.YtedakipjfpdajaaGreatDoorShared
import Derived.Test.YtedakipjfpdajaaGreatDoorBLen
import Derived.Test.YtedakipjfpdajaaGreatDoorBTz
namespace Go.Proofs.YtedakipjfpdajaaGreatDoor
open Go.RowKit Go.Sort Go.Shelf

/-- The table of math/bits in its variable. -/
def G (w : World) : Prop := TabAt 2 Lib.deBruijn64tab w ∧ 2 < w.heap.size
theorem G.below {w w' : World} {B : Nat} (h : G w) (hb : Below B w w') (hB : 2 < B) : G w' :=
  ⟨fun j hj => (hb.cell (p := ⟨2, j, none⟩) hB).trans (h.1 j hj), Nat.lt_of_lt_of_le h.2 hb.size⟩
theorem G.below' {w w' : World} (h : G w) (hb : Below w.heap.size w w') : G w' := h.below hb h.2
theorem letterA (w : World) : Calls Tryz.prog 126 #[.int .u8 97] w fun e w' => e = .returned (.bool true) ∧ w' = w := by
  go_enter Tryz.func126, Tryz.ntmps126
  go_wp2
  go_ret
  exact ⟨rfl, rfl⟩
set_option maxRecDepth 100000 in
theorem nameA (w : World) : Calls Tryz.prog 85 #[.string ⟨#[97]⟩] w fun e w' => e = .returned (.bool true) ∧ w' = w := by
  go_enter Tryz.func85, Tryz.ntmps85
  go_wp2_with (go_at_call 126; refine (letterA _).mono ?_; rintro e w1 ⟨rfl, hw⟩; obtain rfl := hw.symm)
  go_loopw [20] (fun i wr => (i = .int .i64 0 ∨ i = .int .i64 1) ∧ wr = w) (fun i _ => 1 - (intOf i).toNat)
  case atStart => exact ⟨Or.inl rfl, rfl⟩
  case round =>
    obtain ⟨h | h, rfl⟩ := hrel
    · subst h
      go_wp2_with (go_at_call 126; refine (letterA _).mono ?_; rintro e w1 ⟨rfl, rfl⟩)
      go_roundw
      case rel => exact ⟨Or.inr (by go_num), by first | rfl | trivial⟩
      case measure => simp [intOf]
    · subst h
      go_wp2
      go_ret
      exact ⟨rfl, rfl⟩
theorem numberN (x : Int) (w : World) : Calls Tryz.prog 128 #[.int .i64 x] w fun e w' => e = .returned (.agg #[.int .i64 1, .int .i64 x, .string ⟨#[]⟩]) ∧ Below w.heap.size w w' := by
  go_enter Tryz.func128, Tryz.ntmps128
  go_wp2
  refine bodyPost_ret (v := .agg #[.int .i64 1, .int .i64 x, .string ⟨#[]⟩]) (by simp [results, Tryz.results128, go_sem]) rfl ⟨rfl, (Below.refl _ _).alloc (Nat.le_refl _) _⟩
theorem checkN (x : Int) (h1 : -2147483648 ≤ x) (h2 : x ≤ 2147483647) (w : World) : Calls Tryz.prog 31 #[.agg #[.int .i64 1, .int .i64 x, .string ⟨#[]⟩]] w fun e w' => e = .returned (.int .i64 0) ∧ Below w.heap.size w w' := by
  go_enter Tryz.func31, Tryz.ntmps31
  go_wp2
  go_ret
  exact ⟨rfl, (Below.refl _ _).alloc (Nat.le_refl _) _⟩
theorem checkW (w : World) : Calls Tryz.prog 31 #[.agg #[.int .i64 2, .int .i64 0, .string ⟨#[97, 98]⟩]] w fun e w' => e = .returned (.int .i64 0) ∧ Below w.heap.size w w' := by
  go_enter Tryz.func31, Tryz.ntmps31
  go_wp2
  go_ret
  exact ⟨rfl, (Below.refl _ _).alloc (Nat.le_refl _) _⟩
theorem isNumN (x : Int) (h1 : -2147483648 ≤ x) (h2 : x ≤ 2147483647) (w : World) : Calls Tryz.prog 87 #[.int .i64 x] w fun e w' => e = .returned (.bool true) ∧ Below w.heap.size w w' := by
  go_enter Tryz.func87, Tryz.ntmps87
  go_wp2_with (first
    | (go_at_call 128; refine (numberN _ _).mono ?_; rintro e w1 ⟨rfl, b1⟩; have B1 := hide b1; clear b1)
    | (go_at_call 31; refine (checkN x h1 h2 _).mono ?_; rintro e w2 ⟨rfl, b2⟩; have B2 := hide (below_sub (unhide B1) b2); clear b2))
  go_ret
  exact ⟨rfl, unhide B2⟩
theorem betweenA (w : World) : Calls Tryz.prog 60 #[.string ⟨#[97]⟩, .int .i64 0, .int .i64 7] w fun e w' => e = .returned (.tuple #[.agg #[.int .i64 3, .string ⟨#[97]⟩, .slice none 0 0, .slice none 0 0, .int .i64 0, .int .i64 7], .bool true]) ∧ Below w.heap.size w w' := by
  go_enter Tryz.func60, Tryz.ntmps60
  go_wp2
  refine bodyPost_ret (v := .tuple #[.agg #[.int .i64 3, .string ⟨#[97]⟩, .slice none 0 0, .slice none 0 0, .int .i64 0, .int .i64 7], .bool true]) (by simp [results, Tryz.results60, go_sem]) rfl ⟨rfl, (Below.refl _ _).alloc (Nat.le_refl _) _⟩
theorem placeN (x : Int) (p : Nat) (h : x + 2147483648 = p) (hp : p ≤ 8589934592) (w : World) :
    Calls Tryz.prog 103 #[.int .i64 x] w fun e w' => e = .returned (.int .i64 p) ∧ w' = w := by
  have e1 : x - -2147483648 = (p : Int) := by omega
  have e2 : IntKind.i64.wrap (p : Int) = p := by rw [IntKind.wrap_i64]; omega
  go_enter Tryz.func103, Tryz.ntmps103
  go_wp2
  go_ret
  exact ⟨by simp_all <;> omega, rfl⟩
set_option maxRecDepth 100000 in
theorem highestA (w : World) (hG : G w) : Calls Tryz.prog 62 #[.int .i64 0, .int .i64 7] w fun e w' => e = .returned (.int .i64 3) ∧ w' = w := by
  have hpl := placeN 0 2147483648 (by decide) (by decide)
  have htz : ∀ w, TabAt 2 Lib.deBruijn64tab w → Calls Tryz.prog 102 #[.int .u64 2147483648] w fun e w' => e = .returned (.int .i64 31) ∧ w' = w := fun w hT => by
    have := Tryz.bits_TrailingZeros 2147483648 (by decide) w hT
    rwa [show Lib.ctz 64 2147483648 = 31 by decide +kernel] at this
  have hle : ∀ w, Calls Tryz.prog 65 #[.int .u64 8] w fun e w' => e = .returned (.int .i64 4) ∧ w' = w := fun w => by
    have := Tryz.bits_Len 8 w (by decide) (by decide)
    rwa [show Lib.bitLen (8 : Int).toNat = 4 by decide +kernel] at this
  have HG := hide hG
  clear hG
  go_enter Tryz.func62, Tryz.ntmps62
  go_wp2_with (first
    | (go_at_call 103; refine (hpl _).mono ?_; rintro e w1 ⟨rfl, rfl⟩)
    | (go_at_call 102; refine (htz _ (unhide HG).1).mono ?_; rintro e w1 ⟨rfl, rfl⟩)
    | (go_at_call 65; refine (hle _).mono ?_; rintro e w1 ⟨rfl, rfl⟩))
  go_ret
  exact ⟨rfl, rfl⟩
end Go.Proofs.YtedakipjfpdajaaGreatDoor
