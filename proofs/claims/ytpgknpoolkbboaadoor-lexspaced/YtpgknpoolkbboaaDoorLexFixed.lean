/- The law's fixed calls: they return true. -/
import Derived.Test.YtpgknpoolkbboaaDoorLexSame
namespace Go.Proofs.YtpgknpoolkbboaaDoor
open Go.RowKit

theorem itoa_m2 : Lib.itoa (-2) = [45, 50] := by
  unfold Lib.itoa
  rw [if_pos (by decide), Lib.decDigits, dif_pos (by decide)]; rfl
theorem tk1 (r : List UInt8) : tokL (97 :: 32 :: r) = some (1, 1, 0, ⟨#[97]⟩) := tokL_name (c := 97) (r := 32 :: r) (by decide) (by rfl)
theorem tk2 (r : List UInt8) : tokL (123 :: r) = some (4, 1, 0, ⟨#[123]⟩) := tokL_sign (c := 123) (by decide) (by decide) (by decide) (by decide)
theorem tk3 (r : List UInt8) : tokL (45 :: 50 :: 125 :: r) = some (2, 2, -2, ⟨#[]⟩) := by
  have h : pv [45, 50] = some (1, -2, ⟨#[]⟩) := pv_some (by rw [← itoa_m2]; exact isVal_num (by decide) (by decide))
  exact tokL_num (c := 45) (r := 50 :: 125 :: r) (by decide) (by decide) h
theorem tk4 (r : List UInt8) : tokL (125 :: r) = some (4, 1, 0, ⟨#[125]⟩) := tokL_sign (c := 125) (by decide) (by decide) (by decide) (by decide)
theorem tk5 (r : List UInt8) : tokL (61 :: r) = none := tokL_nosign (c := 61) (by decide) (by decide) (by decide) (by decide)
theorem toks_fix : toksL (⟨#[97, 32, 123, 45, 50, 125]⟩ : ByteArray).data.toList 0 = ([(1, 0, 1, 0, ⟨#[97]⟩), (4, 2, 3, 0, ⟨#[123]⟩), (2, 3, 5, -2, ⟨#[]⟩), (4, 5, 6, 0, ⟨#[125]⟩)], none) := by
  have e1 : toksL [97, 32, 123, 45, 50, 125] 0 = ((1, 0, 1, 0, ⟨#[97]⟩) :: (toksL [32, 123, 45, 50, 125] 1).1, (toksL [32, 123, 45, 50, 125] 1).2) := toksL_step (l := [97, 32, 123, 45, 50, 125]) (i := 0) (by decide) (tk1 _)
  have e2 : toksL [32, 123, 45, 50, 125] 1 = ((4, 2, 3, 0, ⟨#[123]⟩) :: (toksL [45, 50, 125] 3).1, (toksL [45, 50, 125] 3).2) := toksL_step (l := [32, 123, 45, 50, 125]) (i := 1) (by decide) (tk2 _)
  have e3 : toksL [45, 50, 125] 3 = ((2, 3, 5, -2, ⟨#[]⟩) :: (toksL [125] 5).1, (toksL [125] 5).2) := toksL_step (l := [45, 50, 125]) (i := 3) (by decide) (tk3 _)
  have e4 : toksL [125] 5 = ((4, 5, 6, 0, ⟨#[125]⟩) :: (toksL [] 6).1, (toksL [] 6).2) := toksL_step (l := [125]) (i := 5) (by decide) (tk4 _)
  have e5 : toksL [] 6 = ([], none) := toksL_end (l := []) (i := 6) (by decide)
  show toksL [97, 32, 123, 45, 50, 125] 0 = _
  rw [e1, e2, e3, e4, e5]
theorem toks_bad : toksL (⟨#[97, 32, 61, 32, 49]⟩ : ByteArray).data.toList 0 = ([(1, 0, 1, 0, ⟨#[97]⟩)], some 2) := by
  have e1 : toksL [97, 32, 61, 32, 49] 0 = ((1, 0, 1, 0, ⟨#[97]⟩) :: (toksL [32, 61, 32, 49] 1).1, (toksL [32, 61, 32, 49] 1).2) := toksL_step (l := [97, 32, 61, 32, 49]) (i := 0) (by decide) (tk1 _)
  have e2 : toksL [32, 61, 32, 49] 1 = ([], some 2) := toksL_bad (l := [32, 61, 32, 49]) (i := 1) (by decide) (tk5 _)
  show toksL [97, 32, 61, 32, 49] 0 = _
  rw [e1, e2]
theorem toks_a (w : World) (hG : G w) : Calls Tryd.prog 10 #[.string ⟨#[97, 32, 123, 45, 50, 125]⟩] w fun e w' => (∃ b off cap, e = .returned (.tuple #[.slice (some ⟨b, off, none⟩) 4 cap, .int .i64 0, .int .i64 0]) ∧ b < w'.heap.size ∧ w'.cell? ⟨b, off + 11, none⟩ = some (.int .i64 3) ∧ w'.cell? ⟨b, off + 12, none⟩ = some (.int .i64 5) ∧ w'.cell? ⟨b, off + 13, none⟩ = some (.int .i64 (-2))) ∧ Below w.heap.size w w' := by
  refine (tokens_any _ w hG (by decide)).mono fun e w' ⟨he, hb⟩ => ⟨?_, hb⟩
  rw [toks_fix] at he
  rcases he with ⟨p, h, _⟩ | ⟨_, q, cap, he, hown⟩
  · cases h
  · obtain ⟨hT, _, _⟩ := hown.tks
    obtain ⟨b, off, rfl, hB, hAt⟩ := hT (by decide)
    obtain ⟨_, h1, h2, h3, _⟩ := hAt 2 _ rfl
    exact ⟨b, off, cap, he, hB, h1, h2, h3⟩
theorem toks_b (w : World) (hG : G w) : Calls Tryd.prog 10 #[.string ⟨#[97, 32, 61, 32, 49]⟩] w fun e w' => e = .returned (.tuple #[.slice none 0 0, .int .i64 2, .int .i64 10]) ∧ Below w.heap.size w w' := by
  refine (tokens_any _ w hG (by decide)).mono fun e w' ⟨he, hb⟩ => ⟨?_, hb⟩
  rw [toks_bad] at he
  rcases he with ⟨p, h, he⟩ | ⟨h, _⟩
  · injection h with h; subst h; exact he
  · cases h
set_option maxHeartbeats 1000000 in
theorem fixed_any (w : World) (hG : G w) : Calls Tryd.prog 9 #[] w fun e w' => e = .returned (.bool true) ∧ Below w.heap.size w w' := by
  have hbl := fun w => blank_any 9 w
  rw [show isBlank 9 = true from rfl] at hbl
  go_enter Tryd.func9, Tryd.ntmps9
  go_wp2_with (first
    | (go_at_call 13; refine (hbl _).mono ?_; rintro e w' ⟨rfl, rfl⟩)
    | (go_at_call 10; have hB := unhide B1; clear hB; refine (toks_b _ (by exact G_below hG (unhide B1))).mono ?_; rintro e w2 ⟨rfl, b2⟩; have d1 := (b2.cell (p := ⟨b, off + 11, none⟩) (unhide Z1)).trans c1; have d2 := (b2.cell (p := ⟨b, off + 12, none⟩) (unhide Z1)).trans c2; have d3 := (b2.cell (p := ⟨b, off + 13, none⟩) (unhide Z1)).trans c3; have B2 := hide (below_sub (unhide B1) b2); clear b2)
    | (go_at_call 10; refine (toks_a _ hG).mono ?_; rintro e w1 ⟨⟨b, off, cap, rfl, z1, c1, c2, c3⟩, b1⟩; have B1 := hide b1; have Z1 := hide z1; clear b1 z1))
  go_ret
  exact ⟨rfl, unhide B2⟩
end Go.Proofs.YtpgknpoolkbboaaDoor
