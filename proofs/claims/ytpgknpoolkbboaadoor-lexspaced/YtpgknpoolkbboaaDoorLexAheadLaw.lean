/- The law LexAhead returns true, whatever the text. -/
import Derived.Test.YtpgknpoolkbboaaDoorLexPlaysLaw
import Derived.Test.YtpgknpoolkbboaaDoorLexCut
namespace Go.Proofs.YtpgknpoolkbboaaDoor
open Go.RowKit

theorem tokens_bad (s : ByteArray) (hs : s.size ≤ 4096) (l : List Tok) (p : Nat) (h : toksL s.data.toList 0 = (l, some p)) (w : World) (hG : G w) : Calls Tryd.prog 10 #[.string s] w fun e w' => e = .returned (.tuple #[.slice none 0 0, .int .i64 p, .int .i64 10]) ∧ Below w.heap.size w w' := (tokens_any s w hG hs).mono fun e w' ⟨he, hb⟩ => ⟨by
    rw [h] at he
    rcases he with ⟨p', h', he⟩ | ⟨h', _⟩
    · injection h' with h'; subst h'; exact he
    · exact absurd h' (by simp), hb⟩
theorem tokens_ok (s : ByteArray) (hs : s.size ≤ 4096) (l : List Tok) (h : toksL s.data.toList 0 = (l, none)) (w : World) (hG : G w) : Calls Tryd.prog 10 #[.string s] w fun e w' => (∃ q cap, e = .returned (.tuple #[.slice q l.length cap, .int .i64 0, .int .i64 0]) ∧ TksOf w' q l) ∧ Below w.heap.size w w' := (tokens_any s w hG hs).mono fun e w' ⟨he, hb⟩ => ⟨by
    rw [h] at he
    rcases he with ⟨p', h', he⟩ | ⟨_, q, cap, he, ho⟩
    · cases h'
    · exact ⟨q, cap, he, ho.tks.1⟩, hb⟩
set_option maxRecDepth 100000 in
set_option maxHeartbeats 1000000 in
theorem lexAhead_long (s : ByteArray) (w : World) (hG : G w) (hs : 4096 < s.size) : Calls Tryd.prog 7 #[.string s] w fun e w' => e = .returned (.bool true) ∧ Below w.heap.size w w' := by
  have hfx := fixed_any w hG
  have h1 := fun w => tokens_long s w hs
  have a0 : (4096 : Int) < (s.size : Int) := by omega
  have a1 : (4096 : Int) ≤ (s.size : Int) := by omega
  go_enter Tryd.func7, Tryd.ntmps7
  go_wp2_with (first
    | (go_at_call 9; refine hfx.mono ?_; rintro e w0 ⟨rfl, b0⟩; have B0 := hide b0; clear b0)
    | (go_at_call 10; refine (h1 _).mono ?_; rintro e w' ⟨rfl, hw⟩; obtain rfl := hw.symm; clear hw))
  go_ret
  exact ⟨ret_bool (by simp), unhide B0⟩
set_option maxHeartbeats 1000000 in
theorem lexAhead_ok (s : ByteArray) (w : World) (hG : G w) (hs : s.size ≤ 4096) (l : List Tok) (h : toksL s.data.toList 0 = (l, none)) : Calls Tryd.prog 7 #[.string s] w fun e w' => e = .returned (.bool true) ∧ Below w.heap.size w w' := by
  have hfx := fixed_any w hG
  have h1 := fun w hG => tokens_ok s hs l h w hG
  clear h
  go_enter Tryd.func7, Tryd.ntmps7
  go_wp2_with (first
    | (go_at_call 9; refine hfx.mono ?_; rintro e w0 ⟨rfl, b0⟩; have B0 := hide b0; clear b0)
    | (go_at_call 10; refine (h1 _ (by exact G_below hG (unhide B0))).mono ?_; rintro e w1 ⟨⟨q, cap, rfl, k1⟩, b1⟩; have B1 := hide (below_sub (unhide B0) b1); clear b1 k1))
  go_ret
  exact ⟨rfl, unhide B1⟩
set_option maxHeartbeats 1000000 in
theorem lexAhead_bad (s : ByteArray) (w : World) (hG : G w) (hs : s.size ≤ 4096) (l : List Tok) (p : Nat) (h : toksL s.data.toList 0 = (l, some p)) : Calls Tryd.prog 7 #[.string s] w fun e w' => e = .returned (.bool true) ∧ Below w.heap.size w w' := by
  have hfx := fixed_any w hG
  have h1 := fun w hG => tokens_bad s hs l p h w hG
  obtain ⟨j1, j2, j3, j4, j5⟩ := toksL_err _ _ _ (Nat.le_refl _) l p h
  simp only [Nat.sub_zero, Array.length_toList] at j2 j3 j4 j5
  have hsz : s.data.size = s.size := rfl
  have x1 := ext_list s 0 p
  rw [Nat.zero_add, List.drop_zero] at x1
  have x2 := ext_list s p (s.size - p)
  rw [show p + (s.size - p) = s.size by omega, List.take_of_length_le (by simp)] at x2
  have h2 := fun w hG => tokens_ok (s.extract 0 p) (by rw [ByteArray.size_extract]; omega) l (by rw [x1]; exact j5) w hG
  have h3 := fun w hG => tokens_bad (s.extract p s.size) (by rw [ByteArray.size_extract]; omega) [] 0 (toksL_rest j3 j4 (by simp; omega) x2 rfl) w hG
  clear h j1 j3 j4 j5 x1 x2
  have a0 : (0 : Int) ≤ (p : Int) := by omega
  have a1 : (p : Int) < (s.size : Int) := by omega
  have a2 : (p : Int) ≤ (s.size : Int) := by omega
  have a3 : (s.size : Int) ≤ 4096 := by omega
  go_enter Tryd.func7, Tryd.ntmps7
  go_wp2_with (first
    | (go_at_call 9; refine hfx.mono ?_; rintro e w0 ⟨rfl, b0⟩; have B0 := hide b0; clear b0)
    | (go_at_call 10; have hB := unhide B2; clear hB; refine (h3 _ (by exact G_below hG (unhide B2))).mono ?_; rintro e w3 ⟨rfl, b3⟩; have B3 := hide (below_sub (unhide B2) b3); clear b3)
    | (go_at_call 10; have hB := unhide B1; clear hB; refine (h2 _ (by exact G_below hG (unhide B1))).mono ?_; rintro e w2 ⟨⟨q, cap, rfl, k1⟩, b2⟩; have B2 := hide (below_sub (unhide B1) b2); clear b2 k1)
    | (go_at_call 10; refine (h1 _ (by exact G_below hG (unhide B0))).mono ?_; rintro e w1 ⟨rfl, b1⟩; have B1 := hide (below_sub (unhide B0) b1); clear b1))
  go_ret
  exact ⟨ret_bool (by simp), unhide B3⟩
theorem lexAhead_any (s : ByteArray) (w : World) (hG : G w) : Calls Tryd.prog 7 #[.string s] w fun e w' => e = .returned (.bool true) ∧ Below w.heap.size w w' := by
  by_cases hs : 4096 < s.size
  · exact lexAhead_long s w hG hs
  · cases h : toksL s.data.toList 0 with
    | mk l r =>
      cases r with
      | some p => exact lexAhead_bad s w hG (by omega) l p h
      | none => exact lexAhead_ok s w hG (by omega) l h
end Go.Proofs.YtpgknpoolkbboaaDoor
