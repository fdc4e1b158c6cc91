/- The laws LexPlays and LexBlanks return true, whatever the text, whatever the byte. -/
import Derived.Test.YtpgknpoolkbboaaDoorLexFixed
namespace Go.Proofs.YtpgknpoolkbboaaDoor
open Go.RowKit

set_option maxHeartbeats 1000000 in
theorem lexBlanks_any (c : Int) (w : World) (hG : G w) : Calls Tryd.prog 4 #[.int .u8 c] w fun e w' => e = .returned (.bool true) ∧ Below w.heap.size w w' := by
  have hfx := fixed_any w hG
  have h1 := fun w => blank_any c w
  have h2 := fun w => refBlank_any c w
  generalize isBlank c = b at h1 h2
  have hbb : (b == b) = true := by simp
  go_enter Tryd.func4, Tryd.ntmps4
  go_wp2_with (first
    | (go_at_call 9; refine hfx.mono ?_; rintro e w0 ⟨rfl, b0⟩; have B0 := hide b0; clear b0)
    | (go_at_call 13; refine (h1 _).mono ?_; rintro e w' ⟨rfl, hw⟩; obtain rfl := hw.symm; clear hw)
    | (go_at_call 14; refine (h2 _).mono ?_; rintro e w' ⟨rfl, hw⟩; obtain rfl := hw.symm; clear hw))
  go_ret
  exact ⟨ret_bool (by simp), unhide B0⟩

set_option maxHeartbeats 1000000 in
theorem lexPlays_long (s : ByteArray) (w : World) (hG : G w) (hs : 4096 < s.size) : Calls Tryd.prog 3 #[.string s] w fun e w' => e = .returned (.bool true) ∧ Below w.heap.size w w' := by
  have hfx := fixed_any w hG
  have h1 := fun w => tokens_long s w hs
  have h2 := fun w => refTokens_long s w hs
  have h3 := fun w : World => same_true none none 0 0 [] w (by simp) (TksOf.nil _ _) (TksOf.nil _ _)
  simp only [List.length_nil] at h3
  go_enter Tryd.func3, Tryd.ntmps3
  go_wp2_with (first
    | (go_at_call 9; refine hfx.mono ?_; rintro e w0 ⟨rfl, b0⟩; have B0 := hide b0; clear b0)
    | (go_at_call 10; refine (h1 _).mono ?_; rintro e w' ⟨rfl, hw⟩; obtain rfl := hw.symm; clear hw)
    | (go_at_call 11; refine (h2 _).mono ?_; rintro e w' ⟨rfl, hw⟩; obtain rfl := hw.symm; clear hw)
    | (go_at_call 12; refine (h3 _).mono ?_; rintro e w1 ⟨rfl, b1⟩; have B1 := hide (below_sub (unhide B0) b1); clear b1))
  go_ret
  exact ⟨ret_bool (by simp), unhide B1⟩
set_option maxHeartbeats 1000000 in
theorem lexPlays_bad (s : ByteArray) (w : World) (hG : G w) (hs : s.size ≤ 4096) (l : List Tok) (p : Nat) (h : toksL s.data.toList 0 = (l, some p)) : Calls Tryd.prog 3 #[.string s] w fun e w' => e = .returned (.bool true) ∧ Below w.heap.size w w' := by
  have hfx := fixed_any w hG
  have h1 : ∀ w, G w → Calls Tryd.prog 10 #[.string s] w fun e w' => e = .returned (.tuple #[.slice none 0 0, .int .i64 p, .int .i64 10]) ∧ Below w.heap.size w w' := fun w hG => (tokens_any s w hG hs).mono fun e w' ⟨he, hb⟩ => ⟨by
    rw [h] at he
    rcases he with ⟨p', h', he⟩ | ⟨h', _⟩
    · injection h' with h'; subst h'; exact he
    · exact absurd h' (by simp), hb⟩
  have h2 : ∀ w, Calls Tryd.prog 11 #[.string s] w fun e w' => e = .returned (.tuple #[.slice none 0 0, .int .i64 p, .int .i64 10]) ∧ Below w.heap.size w w' := fun w => (refTokens_any s w hs).mono fun e w' ⟨he, hb⟩ => ⟨by
    rw [h] at he
    rcases he with ⟨p', h', he⟩ | ⟨h', _⟩
    · injection h' with h'; subst h'; exact he
    · exact absurd h' (by simp), hb⟩
  have h3 := fun w : World => same_true none none 0 0 [] w (by simp) (TksOf.nil _ _) (TksOf.nil _ _)
  simp only [List.length_nil] at h3
  have hpp : ((p : Int) == (p : Int)) = true := by simp
  clear h
  go_enter Tryd.func3, Tryd.ntmps3
  go_wp2_with (first
    | (go_at_call 9; refine hfx.mono ?_; rintro e w0 ⟨rfl, b0⟩; have B0 := hide b0; clear b0)
    | (go_at_call 10; refine (h1 _ (by exact G_below hG (unhide B0))).mono ?_; rintro e w1 ⟨rfl, b1⟩; have B1 := hide (below_sub (unhide B0) b1); clear b1)
    | (go_at_call 11; refine (h2 _).mono ?_; rintro e w2 ⟨rfl, b2⟩; have B2 := hide (below_sub (unhide B1) b2); clear b2)
    | (go_at_call 12; refine (h3 _).mono ?_; rintro e w3 ⟨rfl, b3⟩; have B3 := hide (below_sub (unhide B2) b3); clear b3))
  go_ret
  exact ⟨ret_bool (by simp), unhide B3⟩
set_option maxHeartbeats 1000000 in
theorem lexPlays_ok (s : ByteArray) (w : World) (hG : G w) (hs : s.size ≤ 4096) (l : List Tok) (hl : l.length ≤ 1000000) (h : toksL s.data.toList 0 = (l, none)) : Calls Tryd.prog 3 #[.string s] w fun e w' => e = .returned (.bool true) ∧ Below w.heap.size w w' := by
  have hfx := fixed_any w hG
  have h1 : ∀ w, G w → Calls Tryd.prog 10 #[.string s] w fun e w' => (∃ q cap, e = .returned (.tuple #[.slice q l.length cap, .int .i64 0, .int .i64 0]) ∧ TksOf w' q l) ∧ Below w.heap.size w w' := fun w hG => (tokens_any s w hG hs).mono fun e w' ⟨he, hb⟩ => ⟨by
    rw [h] at he
    rcases he with ⟨p', h', he⟩ | ⟨_, q, cap, he, ho⟩
    · cases h'
    · exact ⟨q, cap, he, ho.tks.1⟩, hb⟩
  have h2 : ∀ w, Calls Tryd.prog 11 #[.string s] w fun e w' => (∃ q cap, e = .returned (.tuple #[.slice q l.length cap, .int .i64 0, .int .i64 0]) ∧ TksOf w' q l) ∧ Below w.heap.size w w' := fun w => (refTokens_any s w hs).mono fun e w' ⟨he, hb⟩ => ⟨by
    rw [h] at he
    rcases he with ⟨p', h', he⟩ | ⟨_, q, cap, he, ho⟩
    · cases h'
    · exact ⟨q, cap, he, ho.tks.1⟩, hb⟩
  have h3 := fun q q' cap cap' w (h : TksOf w q l) (h' : TksOf w q' l) => same_true q q' cap cap' l w (by omega) h h'
  clear h
  go_enter Tryd.func3, Tryd.ntmps3
  go_wp2_with (first
    | (go_at_call 9; refine hfx.mono ?_; rintro e w0 ⟨rfl, b0⟩; have B0 := hide b0; clear b0)
    | (go_at_call 10; refine (h1 _ (by exact G_below hG (unhide B0))).mono ?_; rintro e w1 ⟨⟨q, cap, rfl, k1⟩, b1⟩; have B1 := hide (below_sub (unhide B0) b1); have K1 := hide k1; clear b1 k1)
    | (go_at_call 11; refine (h2 _).mono ?_; rintro e w2 ⟨⟨q', cap', rfl, k2⟩, b2⟩; have B2 := hide (below_sub (unhide B1) b2); have K2 := hide k2; have K3 := hide ((unhide K1).below b2); clear b2 k2)
    | (go_at_call 12; refine (h3 _ _ _ _ _ (unhide K3) (unhide K2)).mono ?_; rintro e w3 ⟨rfl, b3⟩; have B3 := hide (below_sub (unhide B2) b3); clear b3))
  go_ret
  exact ⟨ret_bool (by simp), unhide B3⟩
theorem toksL_len : ∀ (n : Nat) (l : List UInt8) (i : Nat), l.length ≤ n → (toksL l i).1.length ≤ l.length := by
  intro n
  induction n with
  | zero =>
    intro l i hl
    rw [toksL_end (by omega)]; simp
  | succ n ih =>
    intro l i hl
    by_cases h : l.length ≤ rl isBlank l
    · rw [toksL_end h]; simp
    · cases ht : tokL (l.drop (rl isBlank l)) with
      | none => rw [toksL_bad h ht]; simp
      | some q =>
        obtain ⟨k, m, v, t⟩ := q
        have hm := tokL_len ht
        rw [toksL_step h ht]
        have := ih ((l.drop (rl isBlank l)).drop m) (i + rl isBlank l + m) (by simp only [List.length_drop] at *; omega)
        simp only [List.length_drop, List.length_cons] at *
        omega
theorem lexPlays_any (s : ByteArray) (w : World) (hG : G w) : Calls Tryd.prog 3 #[.string s] w fun e w' => e = .returned (.bool true) ∧ Below w.heap.size w w' := by
  by_cases hs : 4096 < s.size
  · exact lexPlays_long s w hG hs
  · cases h : toksL s.data.toList 0 with
    | mk l r =>
      cases r with
      | some p => exact lexPlays_bad s w hG (by omega) l p h
      | none =>
        have := toksL_len s.data.toList.length s.data.toList 0 (Nat.le_refl _)
        rw [h] at this
        simp only [Array.length_toList] at this
        have h4 : s.data.size = s.size := rfl
        exact lexPlays_ok s w hG (by omega) l (by omega) h
end Go.Proofs.YtpgknpoolkbboaaDoor
