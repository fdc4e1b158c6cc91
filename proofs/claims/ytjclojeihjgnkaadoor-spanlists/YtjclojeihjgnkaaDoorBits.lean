/- What place, isNumber, at and highest answer. -/
import Derived.Test.YtjclojeihjgnkaaDoorSpanRef
import Derived.Test.YtjclojeihjgnkaaDoorShelf
import Derived.Test.YtjclojeihjgnkaaDoorTz
namespace Go.Proofs.YtjclojeihjgnkaaDoor
open Go.RowKit

/-- The table of math/bits in its variable. -/
def G (w : World) : Prop := TabAt 1 Lib.deBruijn64tab w ∧ 1 < w.heap.size
theorem G.below {w w' : World} {B : Nat} (h : G w) (hb : Below B w w') (hB : 1 < B) : G w' :=
  ⟨fun j hj => (hb.cell (p := ⟨1, j, none⟩) hB).trans (h.1 j hj), Nat.lt_of_lt_of_le h.2 hb.size⟩
theorem G.below' {w w' : World} (h : G w) (hb : Below w.heap.size w w') : G w' := h.below hb h.2

theorem place_any (x : Int) (p : Nat) (h : x + 2147483648 = p) (hp : p ≤ 8589934592) (w : World) :
    Calls Tryd.prog 28 #[.int .i64 x] w fun e w' => e = .returned (.int .i64 p) ∧ w' = w := by
  have e1 : x - -2147483648 = (p : Int) := by omega
  have e2 : IntKind.i64.wrap (p : Int) = p := by rw [IntKind.wrap_i64]; omega
  go_enter Tryd.func28, Tryd.ntmps28
  go_wp2
  go_ret
  exact ⟨by simp_all <;> omega, rfl⟩

theorem isNumber_any (x : Int) (w : World) :
    Calls Tryd.prog 27 #[.int .i64 x] w fun e w' => e = .returned (.bool (decide (-2147483648 ≤ x) && decide (x ≤ 2147483647))) ∧ w' = w := by
  go_enter Tryd.func27, Tryd.ntmps27
  go_wp2
  all_goals (go_ret; exact ⟨by simp_all <;> omega, rfl⟩)

theorem shr_n (p l : Nat) : (p : Int) / 2 ^ l = ((p / 2 ^ l : Nat) : Int) := by
  rw [Int.natCast_ediv, Int.natCast_pow]; rfl

theorem at_any (l p : Nat) (x : Int) (h : x + 2147483648 = p) (hp : p ≤ 8589934592) (hl : l ≤ 64) (w : World) :
    Calls Tryd.prog 29 #[.int .i64 l, .int .i64 x] w fun e w' => e = .returned (.agg #[.int .i64 l, .int .i64 ((p / 2 ^ l : Nat) : Int)]) ∧ Below w.heap.size w w' := by
  have hpl := place_any x p h hp
  have e1 := shr_n p l
  obtain ⟨J, hJ⟩ : ∃ J, p / 2 ^ l = J := ⟨_, rfl⟩
  rw [hJ] at e1 ⊢
  have hl' : (l : Int) ≤ 64 := by omega
  clear hJ
  go_enter Tryd.func29, Tryd.ntmps29
  go_wp2_with (go_at_call 28; refine (hpl _).mono ?_; rintro e w1 ⟨rfl, rfl⟩)
  refine bodyPost_ret (v := .agg #[.int .i64 l, .int .i64 (J : Int)]) (by simp [results, Tryd.results29, go_sem]) rfl ⟨rfl, ?_⟩
  exact (Below.refl _ _).alloc (Nat.le_refl _) _

theorem bitLen_le64 (r : Nat) (h : r < 2 ^ 64) : Lib.bitLen r ≤ 64 := Lib.bitLen_le r 64 (Nat.le_refl _) h

theorem highest_any (x y : Int) (p r : Nat) (h : x + 2147483648 = p) (hr : y - x + 1 = r) (h0 : 0 < r) (hp : p + r ≤ 4294967296) (w : World) (hG : G w) :
    Calls Tryd.prog 32 #[.int .i64 x, .int .i64 y] w fun e w' => e = .returned (.int .i64 (lv p r)) ∧ w' = w := by
  have hpl := place_any x p h (by omega)
  have htz := fun w hT => Tryd.bits_TrailingZeros p (by omega) w hT
  have hle : ∀ w, Calls Tryd.prog 30 #[.int .u64 (r : Int)] w fun e w' => e = .returned (.int .i64 (Lib.bitLen r)) ∧ w' = w := fun w => Tryd.bits_Len (r : Int) w (by omega) (by omega)
  have hb := (bitLen_lo r h0 (by omega)).1
  have hb2 := bitLen_le64 r (by omega)
  have hc : Lib.ctz 64 p ≤ 64 := by
    by_cases hz : p = 0
    · simp [Lib.ctz, hz]
    · exact Nat.le_of_lt (Lib.lowest_bit 64 p hz (by omega)).2
  have el : lv p r = min (Lib.ctz 64 p) (Lib.bitLen r - 1) := rfl
  obtain ⟨c, hc'⟩ : ∃ c, Lib.ctz 64 p = c := ⟨_, rfl⟩
  obtain ⟨b, hb'⟩ : ∃ b, Lib.bitLen r = b := ⟨_, rfl⟩
  rw [hc'] at htz hc el
  rw [hb'] at hle hb hb2 el
  rw [el]
  have e1 : IntKind.u64.wrap (p : Int) = p := by rw [IntKind.wrap_u64]; omega
  have e2 : IntKind.u64.wrap (r : Int) = r := by rw [IntKind.wrap_u64]; omega
  have e3 : IntKind.i64.wrap (y - x) = (r : Int) - 1 := by rw [IntKind.wrap_i64]; omega
  have e4 : IntKind.i64.wrap ((r : Int) - 1 + 1) = (r : Int) := by rw [IntKind.wrap_i64]; omega
  have e5 : IntKind.i64.wrap ((b : Int) - 1) = ((b - 1 : Nat) : Int) := by rw [IntKind.wrap_i64]; omega
  obtain ⟨d, hd⟩ : ∃ d, b - 1 = d := ⟨_, rfl⟩
  rw [hd] at e5 ⊢
  have hT := hG.1
  clear hc' hb' el hd hG h0 hb
  go_enter Tryd.func32, Tryd.ntmps32
  go_wp2_with (first
    | (go_at_call 28; refine (hpl _).mono ?_; rintro e w1 ⟨rfl, rfl⟩)
    | (go_at_call 36; refine (htz _ hT).mono ?_; rintro e w1 ⟨rfl, rfl⟩)
    | (go_at_call 30; refine (hle _).mono ?_; rintro e w1 ⟨rfl, rfl⟩))
  go_ret
  exact ⟨congrArg (fun z => Ending.returned (.int .i64 z)) (by omega), rfl⟩
end Go.Proofs.YtjclojeihjgnkaaDoor
