/- Where the spans of a cover lie: each is a span, its parent does not lie within. -/
import Derived.Test.YtjclojeihjgnkaaDoorFixed
namespace Go.Proofs.YtjclojeihjgnkaaDoor
open Go.RowKit

/-- Left of the place p nothing was left that a greater span could have had. -/
def Inv (P p r : Nat) : Prop := ∀ l, 2 ^ l ∣ p → ¬ 2 ^ (l + 1) ∣ p → 2 ^ l ≤ r → p < P + 2 ^ l
theorem inv0 (P r : Nat) : Inv P P r := fun l _ _ _ => by have := Nat.two_pow_pos l; omega
theorem odd_part {l p : Nat} (hd : 2 ^ l ∣ p) : p = p / 2 ^ l * 2 ^ l := (Nat.div_mul_cancel hd).symm
theorem dvd_even {l p : Nat} (hd : 2 ^ l ∣ p) : 2 ^ (l + 1) ∣ p ↔ p / 2 ^ l % 2 = 0 := by
  have e := odd_part hd
  have hp := Nat.two_pow_pos l
  constructor
  · rintro ⟨q, hq⟩
    rw [Nat.pow_succ, Nat.mul_assoc] at hq
    rw [hq, Nat.mul_div_cancel_left _ hp]
    omega
  · intro h
    refine ⟨p / 2 ^ l / 2, ?_⟩
    have e2 : p / 2 ^ l = 2 * (p / 2 ^ l / 2) := by omega
    rw [Nat.pow_succ, Nat.mul_assoc, ← e2, Nat.mul_comm]
    exact e
theorem inv_step {P p r : Nat} (h : Inv P p r) (h0 : 0 < r) (hb : p + r ≤ 2 ^ 32) : Inv P (p + 2 ^ lv p r) (r - 2 ^ lv p r) := by
  have e32 : (2 : Nat) ^ 32 = 4294967296 := by decide
  have e64 : (2 : Nat) ^ 64 = 18446744073709551616 := by decide
  have hle := lv_le p r h0 (by omega)
  have hmx := lv_max p r (by omega) h0 (by omega)
  have hdv := lv_dvd p r
  generalize lv p r = l at *
  intro k hk hn hr
  have hp := Nat.two_pow_pos l
  by_cases ev : 2 ^ (l + 1) ∣ p
  · -- the room ended it
    have hlt : r < 2 ^ (l + 1) := Nat.lt_of_not_le fun g => hmx ⟨ev, g⟩
    rw [Nat.pow_succ] at hlt
    exfalso
    rcases Nat.lt_or_ge k l with g | g
    · exact hn (pow_dvd_of (k + 1) l _ (by omega) (Nat.dvd_add hdv (Nat.dvd_refl _)))
    · have : 2 ^ l ≤ 2 ^ k := Nat.pow_le_pow_right (by decide) g
      omega
  · have hPl := h l hdv ev hle
    have h2 : 2 ^ (l + 1) ∣ p + 2 ^ l := by
      have e1 := odd_part hdv
      have e2 : ¬ p / 2 ^ l % 2 = 0 := fun g => ev ((dvd_even hdv).2 g)
      refine ⟨p / 2 ^ l / 2 + 1, ?_⟩
      have e3 : p / 2 ^ l + 1 = 2 * (p / 2 ^ l / 2 + 1) := by omega
      rw [Nat.pow_succ, Nat.mul_assoc, ← e3, Nat.mul_add, Nat.mul_one, Nat.mul_comm, ← e1]
    have hk2 : l + 1 ≤ k := by
      apply Nat.le_of_not_lt
      intro g
      exact hn (pow_dvd_of (k + 1) (l + 1) _ (by omega) h2)
    have h3 : 2 ^ (l + 1) ≤ 2 ^ k := Nat.pow_le_pow_right (by decide) hk2
    rw [Nat.pow_succ] at h3
    omega
theorem par_out {P R p r : Nat} (h : Inv P p r) (h0 : 0 < r) (hb : p + r ≤ 2 ^ 32) (he : p + r = P + R) : ¬ (P ≤ p / 2 ^ lv p r / 2 * 2 ^ (lv p r + 1) ∧ p / 2 ^ lv p r / 2 * 2 ^ (lv p r + 1) + 2 ^ (lv p r + 1) ≤ P + R) := by
  have e32 : (2 : Nat) ^ 32 = 4294967296 := by decide
  have e64 : (2 : Nat) ^ 64 = 18446744073709551616 := by decide
  have hle := lv_le p r h0 (by omega)
  have hmx := lv_max p r (by omega) h0 (by omega)
  have hdv := lv_dvd p r
  generalize lv p r = l at *
  have hp := Nat.two_pow_pos l
  have e1 := odd_part hdv
  by_cases ev : 2 ^ (l + 1) ∣ p
  · have hlt : r < 2 ^ (l + 1) := Nat.lt_of_not_le fun g => hmx ⟨ev, g⟩
    have e2 := (dvd_even hdv).1 ev
    have e3 : p / 2 ^ l / 2 * 2 ^ (l + 1) = p := by
      rw [Nat.pow_succ, Nat.mul_comm (2 ^ l), ← Nat.mul_assoc, show p / 2 ^ l / 2 * 2 = p / 2 ^ l by omega]
      exact e1.symm
    rw [e3]
    omega
  · have hPl := h l hdv ev hle
    have e2 : ¬ p / 2 ^ l % 2 = 0 := fun g => ev ((dvd_even hdv).2 g)
    have e3 : p / 2 ^ l / 2 * 2 ^ (l + 1) + 2 ^ l = p := by
      rw [Nat.pow_succ, Nat.mul_comm (2 ^ l), ← Nat.mul_assoc]
      have e4 : p / 2 ^ l / 2 * 2 + 1 = p / 2 ^ l := by omega
      have : p / 2 ^ l / 2 * 2 * 2 ^ l + 2 ^ l = (p / 2 ^ l / 2 * 2 + 1) * 2 ^ l := by rw [Nat.add_mul, Nat.one_mul]
      rw [this, e4]
      exact e1.symm
    omega
/-- What the head of a cover is. -/
theorem head_ok {p r : Nat} (h0 : 0 < r) (hb : p + r ≤ 2 ^ 32) : okN (lv p r) (p / 2 ^ lv p r) ∧ p / 2 ^ lv p r * 2 ^ lv p r = p ∧ 2 ^ lv p r ≤ r ∧ lv p r ≤ 32 := by
  have e32 : (2 : Nat) ^ 32 = 4294967296 := by decide
  have e64 : (2 : Nat) ^ 64 = 18446744073709551616 := by decide
  have hle := lv_le p r h0 (by omega)
  have hdv := lv_dvd p r
  generalize lv p r = l at *
  have hl : l ≤ 32 := by
    apply Nat.le_of_not_lt
    intro hc
    have : (2 : Nat) ^ 33 ≤ 2 ^ l := Nat.pow_le_pow_right (by decide) hc
    have e : (2 : Nat) ^ 33 = 8589934592 := by decide
    omega
  have e1 := odd_part hdv
  refine ⟨⟨32 - l, by omega, ?_⟩, e1.symm, hle, hl⟩
  have h2 : 2 ^ (32 - l) * 2 ^ l = 2 ^ 32 := by rw [← Nat.pow_add, show 32 - l + l = 32 by omega]
  have hp := Nat.two_pow_pos l
  apply Nat.lt_of_mul_lt_mul_right (a := 2 ^ l)
  rw [h2, ← e1]
  omega
theorem okN_up {l i : Nat} (h : okN l i) (hl : l < 32) : okN (l + 1) (i / 2) := by
  obtain ⟨k, hk, hi⟩ := h
  obtain ⟨m, rfl⟩ : ∃ m, k = m + 1 := ⟨k - 1, by omega⟩
  exact ⟨m, by omega, by rw [Nat.pow_succ] at hi; omega⟩
end Go.Proofs.YtjclojeihjgnkaaDoor
