/- What is read is what is written: plain. -/
import Derived.Test.YtfigjfmldpfjkaaGreatScan
namespace Go.Proofs.YtfigjfmldpfjkaaGreat

theorem get_of_drop {l r : List UInt8} {a : Nat} {x : UInt8} (h : l.drop a = x :: r) : l[a]? = some x ∧ l.drop (a + 1) = r := by
  have hlt : a < l.length := by
    have := congrArg List.length h
    simp at this; omega
  rw [List.drop_eq_getElem_cons hlt] at h
  injection h with h1 h2
  exact ⟨by rw [List.getElem?_eq_getElem hlt, h1], h2⟩
theorem st1_false {l : List UInt8} {a a' : Nat} {t : Bool} {y : UInt8} (h : st1 l a t = (y, a', false)) : t = false ∧ l[a]? = some y ∧ a' = a + 1 := by
  unfold st1 at h
  split at h
  · rename_i x hx
    injection h with h1 h2
    injection h2 with h2 _
    exact ⟨rfl, by rw [hx, h1], h2.symm⟩
  · injection h with _ h2
    injection h2 with _ h3
    cases h3
theorem vint_toNat {n : Nat} (h : n < 128) : (UInt8.ofNat n).toNat = n := by rw [toNat_of]; omega
theorem vint_hi (n : Nat) : (UInt8.ofNat (n % 128 + 128)).toNat = n % 128 + 128 := by rw [toNat_of]; omega
theorem varS_read (l : List UInt8) : ∀ (f i m a n : Nat) (r : List UInt8), l.drop a = vint n ++ r → n < 128 ^ f → 0 < f → (0 < i → 0 < n) → varS l f i m a false = (m + n * 2 ^ (7 * i), a + (vint n).length, false) := by
  intro f
  induction f with
  | zero => intro i m a n r _ _ h0; omega
  | succ f ih =>
    intro i m a n r hd hn _ hi
    by_cases h1 : n < 128
    · rw [vint_lt h1] at hd ⊢
      obtain ⟨hx, _⟩ := get_of_drop hd
      have hs := st1_yes hx
      rw [varS_last l f i m a false (by rw [hs]; simp only; rw [vint_toNat h1]; exact h1), hs]
      simp only [vint_toNat h1, List.length_singleton, Bool.false_or]
      rw [Nat.mod_eq_of_lt h1]
      have : (!(decide (0 < n) || decide (i = 0))) = false := by
        by_cases h0 : i = 0
        · simp [h0]
        · have := hi (by omega); simp [this]
      rw [this]
    · rw [vint_ge h1] at hd ⊢
      obtain ⟨hx, hr⟩ := get_of_drop hd
      have hs := st1_yes hx
      have hy := vint_hi n
      rw [varS_more l f i m a false (by rw [hs]; simp only; rw [hy]; omega), hs]
      simp only
      rw [hy, show (n % 128 + 128) % 128 = n % 128 by omega]
      have hf : 0 < f := by
        cases f with
        | zero => simp at hn; omega
        | succ f => omega
      rw [ih (i + 1) _ (a + 1) (n / 128) r hr (by rw [Nat.pow_succ] at hn; omega) hf (fun _ => by omega)]
      have e : m + n % 128 * 2 ^ (7 * i) + n / 128 * 2 ^ (7 * (i + 1)) = m + n * 2 ^ (7 * i) := by
        rw [show 7 * (i + 1) = 7 * i + 7 by omega, Nat.pow_add]
        have : n = 128 * (n / 128) + n % 128 := (Nat.div_add_mod n 128).symm
        generalize n / 128 = d at *
        generalize n % 128 = e at *
        subst this
        rw [Nat.add_mul, show (2 : Nat) ^ 7 = 128 by decide]
        rw [Nat.mul_comm (2 ^ (7 * i)) 128, ← Nat.mul_assoc, Nat.mul_comm d 128]
        omega
      rw [e]
      simp only [List.length_cons]
      rw [show a + 1 + (vint (n / 128)).length = a + ((vint (n / 128)).length + 1) by omega]
theorem varS_back (l : List UInt8) : ∀ (f i m a : Nat) (t : Bool) (v a' : Nat), varS l f i m a t = (v, a', false) → t = false ∧ ∃ n, v = m + n * 2 ^ (7 * i) ∧ l.drop a = vint n ++ l.drop a' ∧ (0 < i → 0 < n) ∧ a' = a + (vint n).length ∧ n < 128 ^ f := by
  intro f
  induction f with
  | zero => intro i m a t v a' h; unfold varS at h; injection h with _ h; injection h with _ h; cases h
  | succ f ih =>
    intro i m a t v a' h
    obtain ⟨s, hs⟩ : ∃ s, st1 l a t = s := ⟨_, rfl⟩
    obtain ⟨y, a1, t1⟩ := s
    by_cases hy : y.toNat < 128
    · rw [varS_last l f i m a t (by rw [hs]; exact hy), hs] at h
      simp only at h
      injection h with h1 h2
      injection h2 with h2 h3
      have ht1 : t1 = false := by
        cases t1
        · rfl
        · simp at h3
      subst ht1
      obtain ⟨rfl, hx, rfl⟩ := st1_false hs
      have hlt : a < l.length := (List.getElem?_eq_some_iff.1 hx).1
      have hd : l.drop a = y :: l.drop (a + 1) := by
        rw [List.drop_eq_getElem_cons hlt]
        rw [List.getElem?_eq_getElem hlt] at hx
        injection hx with hx
        rw [hx]
      have hyv : vint y.toNat = [y] := by rw [vint_lt hy]; congr 1; exact byte_ext (vint_toNat hy)
      refine ⟨rfl, y.toNat, ?_, ?_, ?_, ?_, ?_⟩
      · rw [← h1, Nat.mod_eq_of_lt hy]
      · rw [hyv, ← h2, hd]; rfl
      · intro hi
        simp at h3
        omega
      · rw [hyv, ← h2]; rfl
      · have h7 : 128 ^ 1 ≤ 128 ^ (f + 1) := Nat.pow_le_pow_right (by omega) (by omega)
        rw [Nat.pow_one] at h7
        omega
    · rw [varS_more l f i m a t (by rw [hs]; exact hy), hs] at h
      simp only at h
      obtain ⟨ht1, n, hv, hd, hn0, ha', hnf⟩ := ih _ _ _ _ _ _ h
      subst ht1
      obtain ⟨rfl, hx, rfl⟩ := st1_false hs
      have hlt : a < l.length := (List.getElem?_eq_some_iff.1 hx).1
      have hda : l.drop a = y :: l.drop (a + 1) := by
        rw [List.drop_eq_getElem_cons hlt]
        rw [List.getElem?_eq_getElem hlt] at hx
        injection hx with hx
        rw [hx]
      have hn := hn0 (by omega)
      have hyl := y.toNat_lt
      have hN : ¬ y.toNat % 128 + 128 * n < 128 := by omega
      have hV : vint (y.toNat % 128 + 128 * n) = y :: vint n := by
        rw [vint_ge hN, show (y.toNat % 128 + 128 * n) / 128 = n by omega]
        congr 1
        apply byte_ext
        rw [toNat_of]; omega
      refine ⟨rfl, y.toNat % 128 + 128 * n, ?_, ?_, ?_, ?_, ?_⟩
      · rw [hv, show 7 * (i + 1) = 7 * i + 7 by omega, Nat.pow_add, Nat.add_mul, show (2 : Nat) ^ 7 = 128 by decide]
        rw [Nat.mul_comm (2 ^ (7 * i)) 128, ← Nat.mul_assoc, Nat.mul_comm n 128]
        omega
      · rw [hV, hda, hd]; rfl
      · intro _; omega
      · rw [hV, ha', List.length_cons]; omega
      · rw [Nat.pow_succ]; omega
end Go.Proofs.YtfigjfmldpfjkaaGreat
