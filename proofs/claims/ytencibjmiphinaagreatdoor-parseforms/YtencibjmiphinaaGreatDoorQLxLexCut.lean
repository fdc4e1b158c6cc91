/- The tokens of a beginning of a text, and of its end. -/
import Derived.Test.YtencibjmiphinaaGreatDoorQZaw
namespace Go.Proofs.YtencibjmiphinaaGreatDoor.Lx
open Go.RowKit

theorem rl_take {p : Int → Bool} : ∀ (l : List UInt8) (m : Nat), rl p l ≤ m → rl p (l.take m) = rl p l
  | [], m, _ => by simp
  | c :: r, 0, h => by
    cases hc : p (c.toNat : Int) with
    | true => rw [rl_yes hc] at h; omega
    | false => rw [rl_no hc]; rfl
  | c :: r, m + 1, h => by
    rw [List.take_succ_cons]
    cases hc : p (c.toNat : Int) with
    | true =>
      rw [rl_yes hc] at h ⊢
      rw [rl_yes hc, rl_take r m (by omega)]
    | false => rw [rl_no hc, rl_no hc]
theorem wl_cut (l : List UInt8) (e : Bool) (n m : Nat) (h : wl e l = some n) (hm : n ≤ m) : wl e (l.take m) = some n := by
  have h1 := wl_take l e n h
  have h2 : l.take m = l.take n ++ (l.take m).drop n := by
    conv => lhs; rw [← List.take_append_drop n (l.take m), List.take_take, Nat.min_eq_left hm]
  rw [h2]
  exact wl_app _ _ _ _ h1
theorem take_head (c : UInt8) (r : List UInt8) (n m : Nat) (h : n ≤ m) : (c :: r.take m).take (n + 1) = (c :: r).take (n + 1) := by
  rw [List.take_succ_cons, List.take_succ_cons, List.take_take, Nat.min_eq_left h]
theorem tokL_take {l : List UInt8} {k : Int} {n : Nat} {v : Int} {t : ByteArray} (h : tokL l = some (k, n, v, t)) (m : Nat) (hm : n ≤ m) : tokL (l.take m) = some (k, n, v, t) := by
  cases l with
  | nil => simp [tokL] at h
  | cons c r =>
    have hn := tokL_len h
    obtain ⟨m, rfl⟩ : ∃ m', m = m' + 1 := ⟨m - 1, by omega⟩
    rw [List.take_succ_cons]
    cases hL : isLet (c.toNat : Int) with
    | true =>
      cases hx : nameOk ⟨((c :: r).take (rl okB (c :: r))).toArray⟩ with
      | false => rw [tokL_noname hL hx] at h; cases h
      | true =>
        rw [tokL_name hL hx] at h
        cases h
        have hr : rl okB (c :: r.take m) = rl okB (c :: r) := by
          rw [← List.take_succ_cons]; exact rl_take _ _ hm
        have ht : (c :: r.take m).take (rl okB (c :: r)) = (c :: r).take (rl okB (c :: r)) := by
          rw [← List.take_succ_cons, List.take_take, Nat.min_eq_left hm]
        rw [tokL_name hL (by rw [hr, ht]; exact hx), hr, ht]
    | false =>
      cases hN : (c == 45 || isDig (c.toNat : Int)) with
      | true =>
        cases hq : pv ((c :: r).take (rl isDig r + 1)) with
        | none => rw [tokL_nonum hL hN hq] at h; cases h
        | some q =>
          rw [tokL_num hL hN hq] at h
          cases h
          have hr : rl isDig (r.take m) = rl isDig r := rl_take _ _ (by omega)
          rw [tokL_num (q := q) hL hN (by rw [hr, take_head c r _ m (by omega)]; exact hq), hr]
      | false =>
        cases hM : (c == 34) with
        | true =>
          cases hw : wl false r with
          | none => rw [tokL_noend hL hN hM hw] at h; cases h
          | some n' =>
            cases hq : pv ((c :: r).take (n' + 1)) with
            | none => rw [tokL_noword hL hN hM hw hq] at h; cases h
            | some q =>
              rw [tokL_word hL hN hM hw hq] at h
              cases h
              have hr := wl_cut r false n' m hw (by omega)
              exact tokL_word (q := q) hL hN hM hr (by rw [take_head c r _ m (by omega)]; exact hq)
        | false =>
          cases hS : isSign c with
          | false => rw [tokL_nosign hL hN hM hS] at h; cases h
          | true =>
            rw [tokL_sign hL hN hM hS] at h
            rw [tokL_sign hL hN hM hS]
            exact h
/-- What is known of the place that is told. -/
theorem toksL_err : ∀ (N : Nat) (l : List UInt8) (i : Nat), l.length ≤ N → ∀ l1 q, toksL l i = (l1, some q) → i ≤ q ∧ q - i < l.length ∧ rl isBlank (l.drop (q - i)) = 0 ∧ tokL (l.drop (q - i)) = none ∧ toksL (l.take (q - i)) i = (l1, none) := by
  intro N
  induction N with
  | zero =>
    intro l i hl l1 q h
    rw [toksL_end (by omega)] at h
    simp at h
  | succ N ih =>
    intro l i hl l1 q h
    have hb := rl_le isBlank l
    by_cases he : l.length ≤ rl isBlank l
    · rw [toksL_end he] at h; simp at h
    · cases ht : tokL (l.drop (rl isBlank l)) with
      | none =>
        rw [toksL_bad he ht] at h
        simp only [Prod.mk.injEq, Option.some.injEq] at h
        obtain ⟨rfl, rfl⟩ := h
        have e : i + rl isBlank l - i = rl isBlank l := by omega
        rw [e]
        refine ⟨by omega, by omega, rl_drop l, ht, toksL_end ?_⟩
        rw [rl_take l _ (Nat.le_refl _)]
        simp; omega
      | some x =>
        obtain ⟨k, n, v, t⟩ := x
        have hn := tokL_len ht
        rw [toksL_step he ht] at h
        simp only [Prod.mk.injEq] at h
        obtain ⟨h1, h2⟩ := h
        simp only [List.length_drop] at hn
        obtain ⟨j1, j2, j3, j4, j5⟩ := ih ((l.drop (rl isBlank l)).drop n) (i + rl isBlank l + n) (by simp; omega) _ q (by rw [← h2])
        simp only [List.length_drop] at j2
        have ed : (l.drop (rl isBlank l)).drop n = l.drop (rl isBlank l + n) := by rw [List.drop_drop]
        have eq1 : q - i = rl isBlank l + n + (q - (i + rl isBlank l + n)) := by omega
        have edd : l.drop (q - i) = ((l.drop (rl isBlank l)).drop n).drop (q - (i + rl isBlank l + n)) := by rw [ed, List.drop_drop, ← eq1]
        refine ⟨by omega, by omega, by rw [edd]; exact j3, by rw [edd]; exact j4, ?_⟩
        have hr : rl isBlank (l.take (q - i)) = rl isBlank l := rl_take l _ (by omega)
        have hdt : (l.take (q - i)).drop (rl isBlank l) = (l.drop (rl isBlank l)).take (q - i - rl isBlank l) := by rw [List.drop_take]
        have hne : ¬ (l.take (q - i)).length ≤ rl isBlank (l.take (q - i)) := by rw [hr]; simp; omega
        rw [toksL_step hne (by rw [hr, hdt]; exact tokL_take ht _ (by omega)), hr, hdt]
        have e3 : ((l.drop (rl isBlank l)).take (q - i - rl isBlank l)).drop n = ((l.drop (rl isBlank l)).drop n).take (q - (i + rl isBlank l + n)) := by
          rw [List.drop_take]
          congr 1
          omega
        rw [e3, j5, ← h1]
theorem toksL_rest {l l1 : List UInt8} {i q : Nat} (h0 : rl isBlank l = 0) (ht : tokL l = none) (hl : 0 < l.length) (h1 : l1 = l) (hq : q = i) : toksL l1 i = ([], some q) := by
  subst h1 hq
  have := toksL_bad (i := q) (l := l1) (by rw [h0]; omega) (by rw [h0]; simpa using ht)
  rw [this, h0]; rfl
end Go.Proofs.YtencibjmiphinaaGreatDoor.Lx
