/- The closed calls that each law of the value layer opens with return what the document fixes. -/
import Derived.Test.YtojeihchkdkkgaaDoorLeast
namespace Go.Proofs.YtojeihchkdkkgaaDoor
open Go.RowKit

theorem fx_text : textB 2 0 ⟨#[97, 34, 10]⟩ = ⟨#[34, 97, 92, 34, 92, 120, 48, 97, 34]⟩ := by decide +kernel
theorem fx_chk : chkV 2 0 ⟨#[97, 34, 10]⟩ = 0 := by decide +kernel
theorem fx_atoi : Lib.atoiAll (ByteArray.mk #[45, 49, 50]).data.toList = .ok (-12) := by decide +kernel
theorem fx_atoi0 : Lib.atoiAll (ByteArray.mk #[45, 48]).data.toList = .ok 0 := by decide +kernel
theorem fx_t12 : textB 1 (-12) ⟨#[]⟩ = ⟨#[45, 49, 50]⟩ := by decide +kernel
theorem fx_t0 : textB 1 0 ⟨#[]⟩ ≠ ⟨#[45, 48]⟩ := by decide +kernel
theorem fx_c12 : chkV 1 (-12) ⟨#[]⟩ = 0 := by decide +kernel
theorem fx_c0 : chkV 1 0 ⟨#[]⟩ = 0 := by decide +kernel
theorem fx_p12 : Lib.hasPrefix (ByteArray.mk #[45, 49, 50]).data.toList [34] = false := by decide +kernel
theorem fx_p0 : Lib.hasPrefix (ByteArray.mk #[45, 48]).data.toList [34] = false := by decide +kernel

theorem fx_parse12 (w : World) (hG : G w) : Calls Tryd.prog 21 #[.string ⟨#[45, 49, 50]⟩] w fun e w' => e = .returned (.tuple #[.agg #[.int .i64 1, .int .i64 (-12), .string ⟨#[]⟩], .int .i64 0]) ∧ Below w.heap.size w w' :=
  parse_num _ (-12) w hG fx_p12 (by decide) fx_atoi fx_t12 fx_c12
theorem fx_parse0 (w : World) (hG : G w) : Calls Tryd.prog 21 #[.string ⟨#[45, 48]⟩] w fun e w' => e = .returned (.tuple #[.agg #[.int .i64 0, .int .i64 0, .string ⟨#[]⟩], .int .i64 10]) ∧ Below w.heap.size w w' :=
  parse_wrong _ 0 w hG fx_p0 (by decide) fx_atoi0 fx_t0 fx_c0
theorem fx_textw (w : World) (hG : G w) : Calls Tryd.prog 10 #[.agg #[.int .i64 2, .int .i64 0, .string ⟨#[97, 34, 10]⟩]] w fun e w' => e = .returned (.tuple #[.string ⟨#[34, 97, 92, 34, 92, 120, 48, 97, 34]⟩, .int .i64 0]) ∧ Below w.heap.size w w' := by
  have := text_any 2 0 ⟨#[97, 34, 10]⟩ w hG
  rw [fx_text, fx_chk] at this
  exact this
def fxList (j : Nat) : Val := if j = 0 then ⟨1, 9, ⟨#[]⟩⟩ else ⟨1, -1, ⟨#[]⟩⟩
theorem fx_min : minTo fxList 1 = ⟨1, -1, ⟨#[]⟩⟩ := by
  have h : cmpW (fxList 1) (fxList 0) < 0 := by decide +kernel
  show (if cmpW (fxList 1) (fxList 0) < 0 then fxList 1 else fxList 0) = _
  rw [if_pos h]; rfl
theorem fx_vals (w : World) (t : TypeId) : ValsAt (w.alloc (.cells #[.int .i64 1, .int .i64 9, .string ⟨#[]⟩, .int .i64 1, .int .i64 (-1), .string ⟨#[]⟩] t)) w.heap.size 0 2 fxList := by
  intro j hj
  obtain rfl | rfl : j = 0 ∨ j = 1 := by omega
  · refine ⟨?_, ?_, ?_⟩ <;> simp [fxList]
  · refine ⟨?_, ?_, ?_⟩ <;> simp [fxList]
theorem fx_least (w : World) (N : Nat) (hN : w.heap.size = N) (t : TypeId) (cap : Nat) : Calls Tryd.prog 23 #[.slice (some ⟨N, 0, none⟩) 2 cap] (w.alloc (.cells #[.int .i64 1, .int .i64 9, .string ⟨#[]⟩, .int .i64 1, .int .i64 (-1), .string ⟨#[]⟩] t)) fun e w' => e = .returned (.tuple #[.agg #[.int .i64 1, .int .i64 (-1), .string ⟨#[]⟩], .bool true]) ∧ Below w.heap.size w w' := by
  subst hN
  have := least_any w.heap.size 0 2 cap fxList _ (by omega) (by omega) (by simp) (fx_vals w t)
  rw [show 2 - 1 = 1 from rfl, fx_min] at this
  exact this.mono fun e w' ⟨he, hb⟩ => ⟨he, below_sub ((Below.refl _ _).alloc (Nat.le_refl _) _) hb⟩

set_option maxHeartbeats 400000 in
theorem fixed_any (w : World) (hG : G w) :
    Calls Tryd.prog 9 #[] w fun e w' => e = .returned (.bool true) ∧ Below w.heap.size w w' := by
  go_enter Tryd.func9, Tryd.ntmps9
  go_wp2_with (first
    | (go_at_call 10; refine (fx_textw _ hG).mono ?_; rintro e w1 ⟨rfl, b1⟩; have g1 := G_below hG b1)
    | (go_at_call_of 21 (Value.string ⟨#[45, 49, 50]⟩); refine (fx_parse12 _ g1).mono ?_; rintro e w2 ⟨rfl, b2⟩; have g2 := G_below g1 b2)
    | (go_at_call_of 21 (Value.string ⟨#[45, 48]⟩); refine (fx_parse0 _ (by exact G_alloc g2 _)).mono ?_; rintro e w3 ⟨rfl, b3⟩; obtain ⟨hc3, hf3⟩ := bcell b3; simp at hc3 hf3; have hz3 : w2.heap.size < w3.heap.size := by (have := b3.size; simp at this; omega))
    | (go_at_call 23; refine (fx_least _ _ (by simp) _ _).mono ?_; rintro e w4 ⟨rfl, b4⟩; obtain ⟨hc4, hf4⟩ := bcell b4; simp at hc4 hf4; have hz4 : w2.heap.size < w4.heap.size := (by have := b4.size; simp at this; omega); have hz5 : w2.heap.size < w3.heap.size + 1 := (by omega)))
  go_ret
  exact ⟨rfl, (below_sub (below_sub (below_sub (below_sub (below_sub b1 b2) ((Below.refl _ _).alloc (Nat.le_refl _) _)) b3) ((Below.refl _ _).alloc (Nat.le_refl _) _)) b4).alloc (below_sub (below_sub (below_sub (below_sub (below_sub b1 b2) ((Below.refl _ _).alloc (Nat.le_refl _) _)) b3) ((Below.refl _ _).alloc (Nat.le_refl _) _)) b4).size _⟩
end Go.Proofs.YtojeihchkdkkgaaDoor
