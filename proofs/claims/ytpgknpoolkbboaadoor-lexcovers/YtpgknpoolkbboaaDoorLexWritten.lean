/- How a token is written. -/
import Derived.Test.YtpgknpoolkbboaaDoorLexAheadLaw
namespace Go.Proofs.YtpgknpoolkbboaaDoor
open Go.RowKit

/-- The three kinds of tokens, and how each is written. -/
theorem tok_cases {l : List UInt8} {k : Int} {n : Nat} {v : Int} {t : ByteArray} (h : tokL l = some (k, n, v, t)) :
    (k = 2 ∧ t = ⟨#[]⟩ ∧ -2147483648 ≤ v ∧ v ≤ 2147483647 ∧ l.take n = Lib.itoa v) ∨ (k = 3 ∧ v = 0 ∧ t.size ≤ 64 ∧ l.take n = quoteL t.data.toList) ∨ ((k = 1 ∨ k = 4) ∧ v = 0 ∧ l.take n = t.data.toList) := by
  cases l with
  | nil => simp [tokL] at h
  | cons c r =>
    cases hL : isLet (c.toNat : Int) with
    | true =>
      cases hx : nameOk ⟨((c :: r).take (rl okB (c :: r))).toArray⟩ with
      | false => rw [tokL_noname hL hx] at h; cases h
      | true =>
        rw [tokL_name hL hx] at h
        cases h
        exact Or.inr (Or.inr ⟨Or.inl rfl, rfl, by simp⟩)
    | false =>
      cases hN : (c == 45 || isDig (c.toNat : Int)) with
      | true =>
        have h34 : c ≠ 34 := by
          intro h
          rw [h] at hN
          simp [isDig] at hN
        cases hq : pv ((c :: r).take (rl isDig r + 1)) with
        | none => rw [tokL_nonum hL hN hq] at h; cases h
        | some q =>
          rw [tokL_num hL hN hq] at h
          rw [List.take_succ_cons] at hq
          obtain ⟨m, rfl, m1, m2, m3⟩ := pv_isnum h34 hq
          cases h
          exact Or.inl ⟨rfl, rfl, m1, m2, by rw [List.take_succ_cons]; exact m3⟩
      | false =>
        cases hM : (c == 34) with
        | true =>
          have h34 : c = 34 := by simpa using hM
          subst h34
          cases hw : wl false r with
          | none => rw [tokL_noend hL hN hM hw] at h; cases h
          | some n' =>
            cases hq : pv ((34 :: r).take (n' + 1)) with
            | none => rw [tokL_noword hL hN hM hw hq] at h; cases h
            | some q =>
              rw [tokL_word hL hN hM hw hq] at h
              rw [List.take_succ_cons] at hq
              obtain ⟨u, rfl, u1, u2⟩ := pv_isword hq
              cases h
              exact Or.inr (Or.inl ⟨rfl, rfl, u1, by rw [List.take_succ_cons]; exact u2⟩)
        | false =>
          cases hS : isSign c with
          | false => rw [tokL_nosign hL hN hM hS] at h; cases h
          | true =>
            rw [tokL_sign hL hN hM hS] at h
            cases h
            exact Or.inr (Or.inr ⟨Or.inr rfl, rfl, rfl⟩)
set_option maxHeartbeats 1000000 in
theorem written_num (a b v : Int) (x : ByteArray) (w : World) (hG : G w) (h1 : -2147483648 ≤ v) (h2 : v ≤ 2147483647) (h : x.data.toList = Lib.itoa v) :
    Calls Tryd.prog 15 #[.agg #[.int .i64 2, .int .i64 a, .int .i64 b, .int .i64 v, .string ⟨#[]⟩]] w fun e w' => e = .returned (.string x) ∧ Below w.heap.size w w' := by
  have hc : chkV 1 v ⟨#[]⟩ = 0 := chk_yes1 rfl h1 h2 ((empty_iff _).2 rfl)
  have ht := fun w hG => text_any 1 v ⟨#[]⟩ w hG
  rw [hc, show textB 1 v ⟨#[]⟩ = x from WideShapes.bytes_inj (by rw [textB_num hc, h])] at ht
  clear hc h
  go_enter Tryd.func15, Tryd.ntmps15
  go_wp2_with (go_at_call 31; refine (ht _ (by exact G_alloc hG _)).mono ?_; rintro e w1 ⟨rfl, b1⟩)
  go_ret
  exact ⟨rfl, below_sub ((Below.refl _ _).alloc (Nat.le_refl _) _) b1⟩
set_option maxHeartbeats 1000000 in
theorem written_word (a b : Int) (t x : ByteArray) (w : World) (hs : t.size ≤ 64) (h : x.data.toList = quoteL t.data.toList) :
    Calls Tryd.prog 15 #[.agg #[.int .i64 3, .int .i64 a, .int .i64 b, .int .i64 0, .string t]] w fun e w' => e = .returned (.string x) ∧ Below w.heap.size w w' := by
  have ht := fun w => quote_at t w (by omega)
  rw [show quoteB t = x from WideShapes.bytes_inj (by rw [h]; rfl)] at ht
  clear h
  go_enter Tryd.func15, Tryd.ntmps15
  go_wp2_with (go_at_call 32; refine (ht _).mono ?_; rintro e w1 ⟨rfl, b1⟩)
  go_ret
  exact ⟨rfl, below_sub ((Below.refl _ _).alloc (Nat.le_refl _) _) b1⟩
set_option maxHeartbeats 1000000 in
theorem written_plain (k a b : Int) (t : ByteArray) (w : World) (hk : k = 1 ∨ k = 4) :
    Calls Tryd.prog 15 #[.agg #[.int .i64 k, .int .i64 a, .int .i64 b, .int .i64 0, .string t]] w fun e w' => e = .returned (.string t) ∧ Below w.heap.size w w' := by
  rcases hk with rfl | rfl
  all_goals
    go_enter Tryd.func15, Tryd.ntmps15
    go_wp2
    go_ret
    exact ⟨rfl, (Below.refl _ _).alloc (Nat.le_refl _) _⟩
/-- A token is written as the text x. -/
theorem written_any (k : Int) (a b v : Int) (t : ByteArray) (x : ByteArray) (w : World) (hG : G w)
    (h : (k = 2 ∧ t = ⟨#[]⟩ ∧ -2147483648 ≤ v ∧ v ≤ 2147483647 ∧ x.data.toList = Lib.itoa v) ∨ (k = 3 ∧ v = 0 ∧ t.size ≤ 64 ∧ x.data.toList = quoteL t.data.toList) ∨ ((k = 1 ∨ k = 4) ∧ v = 0 ∧ x.data.toList = t.data.toList)) :
    Calls Tryd.prog 15 #[.agg #[.int .i64 k, .int .i64 a, .int .i64 b, .int .i64 v, .string t]] w fun e w' => e = .returned (.string x) ∧ Below w.heap.size w w' := by
  rcases h with ⟨rfl, rfl, h1, h2, h⟩ | ⟨rfl, rfl, h1, h⟩ | ⟨hk, rfl, h⟩
  · exact written_num a b v x w hG h1 h2 h
  · exact written_word a b t x w h1 h
  · rw [WideShapes.bytes_inj h]; exact written_plain k a b t w hk
end Go.Proofs.YtpgknpoolkbboaaDoor
