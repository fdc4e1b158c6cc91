/- The tokens of a text that is cut behind a token, and of what is written anew. -/
import Derived.Test.YtencibjmiphinaaGreatDoorQZaw
import Derived.Test.YtencibjmiphinaaGreatDoorQLxLexCut
import Derived.Test.YtencibjmiphinaaGreatDoorQZay
namespace Go.Proofs.YtencibjmiphinaaGreatDoor.Lx
open Go.RowKit

theorem blank_cases {c : Int} (h : isBlank c = true) : c = 32 ∨ c = 9 ∨ c = 10 ∨ c = 13 := by
  unfold isBlank at h
  simp only [Bool.or_eq_true, beq_iff_eq] at h
  omega
theorem blank_notName {c : Int} (h : isBlank c = true) : okB c = false := by
  rcases blank_cases h with rfl | rfl | rfl | rfl <;> decide
theorem blank_notDig {c : Int} (h : isBlank c = true) : isDig c = false := by
  rcases blank_cases h with rfl | rfl | rfl | rfl <;> decide
/-- A rest that begins with a blank, or is empty. -/
def Parted (r : List UInt8) : Prop := ∀ c r', r = c :: r' → isBlank (c.toNat : Int) = true
theorem Parted.rl {p : Int → Bool} {r : List UInt8} (h : Parted r) (hp : ∀ c, isBlank c = true → p c = false) : rl p r = 0 := by
  cases r with
  | nil => rfl
  | cons c r => exact rl_no (hp _ (h c r rfl))
theorem rl_full {p : Int → Bool} {l r : List UInt8} (h : rl p l = l.length) (hr : rl p r = 0) : rl p (l ++ r) = l.length := by
  have hm := rl_mem (p := p) l
  rw [h, List.take_length] at hm
  rw [rl_app l r hm, hr]; rfl
theorem take_len_app (l r : List UInt8) : (l ++ r).take l.length = l := by simp
/-- A rest that goes on with no letter, digit or line below. -/
def Fr (r : List UInt8) : Prop := rl okB r = 0 ∧ rl isDig r = 0
theorem Parted.fr {r : List UInt8} (h : Parted r) : Fr r := ⟨h.rl fun _ => blank_notName, h.rl fun _ => blank_notDig⟩
theorem tokL_app {l : List UInt8} {k : Int} {n : Nat} {v : Int} {t : ByteArray} (h : tokL l = some (k, n, v, t)) (hn : n = l.length) (r : List UInt8) (hr : Fr r) : tokL (l ++ r) = some (k, n, v, t) := by
  cases l with
  | nil => simp [tokL] at h
  | cons c l =>
    rw [List.cons_append]
    cases hL : isLet (c.toNat : Int) with
    | true =>
      cases hx : nameOk ⟨((c :: l).take (rl okB (c :: l))).toArray⟩ with
      | false => rw [tokL_noname hL hx] at h; cases h
      | true =>
        rw [tokL_name hL hx] at h
        cases h
        have e : rl okB (c :: (l ++ r)) = rl okB (c :: l) := by
          rw [← List.cons_append, rl_full hn hr.1, hn]
        have e2 : (c :: (l ++ r)).take (rl okB (c :: l)) = (c :: l).take (rl okB (c :: l)) := by
          rw [hn, List.take_length, ← List.cons_append, take_len_app]
        rw [tokL_name hL (by rw [e, e2]; exact hx), e, e2]
    | false =>
      cases hN : (c == 45 || isDig (c.toNat : Int)) with
      | true =>
        cases hq : pv ((c :: l).take (rl isDig l + 1)) with
        | none => rw [tokL_nonum hL hN hq] at h; cases h
        | some q =>
          rw [tokL_num hL hN hq] at h
          cases h
          have hl : rl isDig l = l.length := by simpa using hn
          have e : rl isDig (l ++ r) = rl isDig l := by rw [rl_full hl hr.2, hl]
          have e2 : (c :: (l ++ r)).take (rl isDig l + 1) = (c :: l).take (rl isDig l + 1) := by
            rw [hn, List.take_length, ← List.cons_append, take_len_app]
          rw [tokL_num (q := q) hL hN (by rw [e, e2]; exact hq), e]
      | false =>
        cases hM : (c == 34) with
        | true =>
          cases hw : wl false l with
          | none => rw [tokL_noend hL hN hM hw] at h; cases h
          | some n' =>
            cases hq : pv ((c :: l).take (n' + 1)) with
            | none => rw [tokL_noword hL hN hM hw hq] at h; cases h
            | some q =>
              rw [tokL_word hL hN hM hw hq] at h
              cases h
              have e2 : (c :: (l ++ r)).take (n' + 1) = (c :: l).take (n' + 1) := by
                rw [hn, List.take_length, ← List.cons_append, take_len_app]
              exact tokL_word (q := q) hL hN hM (wl_app _ _ _ _ hw) (by rw [e2]; exact hq)
        | false =>
          cases hS : isSign c with
          | false => rw [tokL_nosign hL hN hM hS] at h; cases h
          | true =>
            rw [tokL_sign hL hN hM hS] at h
            rw [tokL_sign hL hN hM hS]
            exact h
theorem drop_len {a b : List UInt8} {n : Nat} (h : a.length = n) : (a ++ b).drop n = b := by subst h; exact List.drop_left
theorem rl_more {p : Int → Bool} : ∀ (l r : List UInt8), rl p l < l.length → rl p (l ++ r) = rl p l
  | [], _, h => by simp at h
  | c :: l, r, h => by
    cases hc : p (c.toNat : Int) with
    | false => rw [List.cons_append, rl_no hc, rl_no hc]
    | true =>
      rw [rl_yes hc] at h
      rw [List.cons_append, rl_yes hc, rl_yes hc, rl_more l r (by simp at h; omega)]
theorem take_more {l : List UInt8} {n : Nat} (h : n ≤ l.length) (r : List UInt8) : (l ++ r).take n = l.take n := by
  rw [List.take_append_of_le_length h]
theorem tokL_more {l : List UInt8} {k : Int} {n : Nat} {v : Int} {t : ByteArray} (h : tokL l = some (k, n, v, t)) (hn : n < l.length) (r : List UInt8) : tokL (l ++ r) = some (k, n, v, t) := by
  cases l with
  | nil => simp [tokL] at h
  | cons c l =>
    rw [List.cons_append]
    cases hL : isLet (c.toNat : Int) with
    | true =>
      cases hx : nameOk ⟨((c :: l).take (rl okB (c :: l))).toArray⟩ with
      | false => rw [tokL_noname hL hx] at h; cases h
      | true =>
        rw [tokL_name hL hx] at h
        cases h
        have e : rl okB (c :: (l ++ r)) = rl okB (c :: l) := rl_more (c :: l) r hn
        have e2 : (c :: (l ++ r)).take (rl okB (c :: l)) = (c :: l).take (rl okB (c :: l)) := take_more (l := c :: l) (by omega) r
        rw [tokL_name hL (by rw [e, e2]; exact hx), e, e2]
    | false =>
      cases hN : (c == 45 || isDig (c.toNat : Int)) with
      | true =>
        cases hq : pv ((c :: l).take (rl isDig l + 1)) with
        | none => rw [tokL_nonum hL hN hq] at h; cases h
        | some q =>
          rw [tokL_num hL hN hq] at h
          cases h
          have hl : rl isDig l < l.length := by simpa using hn
          have e : rl isDig (l ++ r) = rl isDig l := rl_more l r hl
          have e2 : (c :: (l ++ r)).take (rl isDig l + 1) = (c :: l).take (rl isDig l + 1) := take_more (l := c :: l) (by simp; omega) r
          rw [tokL_num (q := q) hL hN (by rw [e, e2]; exact hq), e]
      | false =>
        cases hM : (c == 34) with
        | true =>
          cases hw : wl false l with
          | none => rw [tokL_noend hL hN hM hw] at h; cases h
          | some n' =>
            cases hq : pv ((c :: l).take (n' + 1)) with
            | none => rw [tokL_noword hL hN hM hw hq] at h; cases h
            | some q =>
              rw [tokL_word hL hN hM hw hq] at h
              cases h
              have e2 : (c :: (l ++ r)).take (n' + 1) = (c :: l).take (n' + 1) := take_more (l := c :: l) (by omega) r
              exact tokL_word (q := q) hL hN hM (wl_app _ _ _ _ hw) (by rw [e2]; exact hq)
        | false =>
          cases hS : isSign c with
          | false => rw [tokL_nosign hL hN hM hS] at h; cases h
          | true =>
            rw [tokL_sign hL hN hM hS] at h
            rw [tokL_sign hL hN hM hS]
            exact h
/-- The text of a token, alone. -/
def Wr (x : Tok) (wr : List UInt8) : Prop := tokL wr = some (x.1, wr.length, x.2.2.2.1, x.2.2.2.2)
theorem wr_head {x : Tok} {wr : List UInt8} (h : Wr x wr) : ∀ r, rl isBlank (wr ++ r) = 0 ∧ 0 < wr.length := by
  intro r
  unfold Wr at h
  have hl := tokL_len h
  cases wr with
  | nil => simp [tokL] at h
  | cons c l =>
    refine ⟨?_, by simp⟩
    rw [List.cons_append]
    apply rl_no
    cases hb : isBlank (c.toNat : Int) with
    | false => rfl
    | true =>
      have hs : isLet (c.toNat : Int) = false ∧ (c == 45 || isDig (c.toNat : Int)) = false ∧ (c == 34) = false ∧ isSign c = false := by
        have : c = 32 ∨ c = 9 ∨ c = 10 ∨ c = 13 := by
          rcases blank_cases hb with h | h | h | h
          · exact Or.inl (UInt8.toNat_inj.1 (by have e : (32 : UInt8).toNat = 32 := rfl; omega))
          · exact Or.inr (Or.inl (UInt8.toNat_inj.1 (by have e : (9 : UInt8).toNat = 9 := rfl; omega)))
          · exact Or.inr (Or.inr (Or.inl (UInt8.toNat_inj.1 (by have e : (10 : UInt8).toNat = 10 := rfl; omega))))
          · exact Or.inr (Or.inr (Or.inr (UInt8.toNat_inj.1 (by have e : (13 : UInt8).toNat = 13 := rfl; omega))))
        rcases this with rfl | rfl | rfl | rfl <;> decide
      rw [tokL_nosign hs.1 hs.2.1 hs.2.2.1 hs.2.2.2] at h
      cases h
theorem toksL_in : ∀ (N : Nat) (l : List UInt8) (i : Nat), l.length ≤ N → ∀ t ∈ (toksL l i).1, ∃ f e : Nat, t.2.1 = f ∧ t.2.2.1 = e ∧ i ≤ f ∧ f < e ∧ e ≤ i + l.length
  | N, l, i, hN, t, ht => by
    by_cases h : l.length ≤ rl isBlank l
    · rw [toksL_end h] at ht; cases ht
    · cases hk : tokL (l.drop (rl isBlank l)) with
      | none => rw [toksL_bad h hk] at ht; cases ht
      | some q =>
        obtain ⟨k, n, v, x⟩ := q
        rw [toksL_step h hk] at ht
        have hn := tokL_len hk
        simp only [List.length_drop] at hn
        rcases List.mem_cons.1 ht with rfl | ht
        · exact ⟨i + rl isBlank l, i + rl isBlank l + n, rfl, rfl, by omega, by omega, by omega⟩
        · have h0 : 0 < N := by omega
          obtain ⟨f, e, h1, h2, h3, h4, h5⟩ := toksL_in (N - 1) ((l.drop (rl isBlank l)).drop n) (i + rl isBlank l + n) (by simp only [List.length_drop]; omega) t ht
          simp only [List.length_drop] at h5
          exact ⟨f, e, h1, h2, by omega, h4, by omega⟩
termination_by N => N
decreasing_by omega
theorem toksL_rise : ∀ (N : Nat) (l : List UInt8) (i : Nat), l.length ≤ N → (toksL l i).1.Pairwise (fun x y => x.2.1 < y.2.1)
  | N, l, i, hN => by
    by_cases h : l.length ≤ rl isBlank l
    · rw [toksL_end h]; exact List.Pairwise.nil
    · cases hk : tokL (l.drop (rl isBlank l)) with
      | none => rw [toksL_bad h hk]; exact List.Pairwise.nil
      | some q =>
        obtain ⟨k, n, v, x⟩ := q
        rw [toksL_step h hk]
        have hn := tokL_len hk
        simp only [List.length_drop] at hn
        have h0 : 0 < N := by omega
        refine List.Pairwise.cons (fun y hy => ?_) (toksL_rise (N - 1) ((l.drop (rl isBlank l)).drop n) (i + rl isBlank l + n) (by simp only [List.length_drop]; omega))
        obtain ⟨f, e, h1, _, h3, _⟩ := toksL_in l.length _ _ (by simp only [List.length_drop]; omega) y hy
        rw [h1]
        show ((i + rl isBlank l : Nat) : Int) < (f : Int)
        omega
termination_by N => N
decreasing_by omega
/-- The tokens of a text that is cut behind a token of its, with a blank and more behind. -/
theorem toksL_cut (m : List UInt8) : ∀ (a : List Tok) (l : List UInt8) (i : Nat) (t : Tok) (b : List Tok) (e : Nat), (toksL l i).1 = a ++ t :: b → t.2.2.1 = ((i + e : Nat) : Int) → toksL (l.take e ++ 32 :: m) i = (a ++ t :: (toksL (32 :: m) (i + e)).1, (toksL (32 :: m) (i + e)).2)
  | a, l, i, t, b, e, hL, he => by
    by_cases h : l.length ≤ rl isBlank l
    · rw [toksL_end h] at hL; simp at hL
    · cases hk : tokL (l.drop (rl isBlank l)) with
      | none => rw [toksL_bad h hk] at hL; simp at hL
      | some q =>
        obtain ⟨k, n, v, x⟩ := q
        rw [toksL_step h hk] at hL
        have hn := tokL_len hk
        simp only [List.length_drop] at hn
        obtain ⟨b0, hb0⟩ : ∃ b0, rl isBlank l = b0 := ⟨_, rfl⟩
        rw [hb0] at hL hk hn h
        -- the first token of the cut text, where the cut is behind it
        have key : b0 + n ≤ e → toksL (l.take e ++ 32 :: m) i = ((k, ((i + b0 : Nat) : Int), ((i + b0 + n : Nat) : Int), v, x) :: (toksL (((l.drop b0).drop n).take (e - (b0 + n)) ++ 32 :: m) (i + b0 + n)).1, (toksL (((l.drop b0).drop n).take (e - (b0 + n)) ++ 32 :: m) (i + b0 + n)).2) := fun hle => by
          have hsp : l.take e ++ 32 :: m = l.take b0 ++ ((l.drop b0).take n ++ (((l.drop b0).drop n).take (e - (b0 + n)) ++ 32 :: m)) := by
            rw [← List.append_assoc, ← List.append_assoc]
            congr 1
            have e1 : e = b0 + (n + (e - (b0 + n))) := by omega
            conv => lhs; rw [e1, List.take_add, List.take_add]
            rw [List.append_assoc]
          have hbl : ∀ c ∈ l.take b0, isBlank (c.toNat : Int) = true := by rw [← hb0]; exact rl_mem l
          have hlen : ((l.drop b0).take n).length = n := by simp; omega
          have htk : tokL ((l.drop b0).take n) = some (k, n, v, x) := tokL_take hk n (Nat.le_refl _)
          have hw : Wr (k, 0, 0, v, x) ((l.drop b0).take n) := by unfold Wr; rw [hlen]; exact htk
          have hd := (wr_head hw (((l.drop b0).drop n).take (e - (b0 + n)) ++ 32 :: m)).1
          have hrl : rl isBlank (l.take e ++ 32 :: m) = b0 := by
            rw [hsp, rl_app _ _ hbl, hd]; simp; omega
          have hdrop : (l.take e ++ 32 :: m).drop b0 = (l.drop b0).take n ++ (((l.drop b0).drop n).take (e - (b0 + n)) ++ 32 :: m) := by
            rw [hsp]
            exact drop_len (by simp; omega)
          have hfr : tokL ((l.drop b0).take n ++ (((l.drop b0).drop n).take (e - (b0 + n)) ++ 32 :: m)) = some (k, n, v, x) := by
            by_cases hz : e - (b0 + n) = 0
            · rw [hz]
              exact tokL_app htk hlen.symm _ (Parted.fr (by intro c r hc; simp at hc; rw [← hc.1]; decide))
            · have e3 : (l.drop b0).take n ++ (((l.drop b0).drop n).take (e - (b0 + n)) ++ 32 :: m) = ((l.drop b0).take (e - b0)) ++ 32 :: m := by
                rw [← List.append_assoc]
                congr 1
                have e1 : e - b0 = n + (e - (b0 + n)) := by omega
                rw [e1, List.take_add]
              rw [e3]
              have h5 := tokL_take hk (e - b0) (by omega)
              by_cases hz2 : l.length - b0 ≤ n
              · have e4 : (l.drop b0).take (e - b0) = (l.drop b0).take n := by
                  rw [List.take_of_length_le (by simp; omega), List.take_of_length_le (by simp; omega)]
                rw [e4]
                exact tokL_app htk hlen.symm _ (Parted.fr (by intro c r hc; simp at hc; rw [← hc.1]; decide))
              · exact tokL_more h5 (by simp; omega) _
          have hne : ¬ (l.take e ++ 32 :: m).length ≤ rl isBlank (l.take e ++ 32 :: m) := by rw [hrl]; simp; omega
          have ht2 : tokL ((l.take e ++ 32 :: m).drop (rl isBlank (l.take e ++ 32 :: m))) = some (k, n, v, x) := by rw [hrl, hdrop]; exact hfr
          have hdd : ((l.take e ++ 32 :: m).drop b0).drop n = ((l.drop b0).drop n).take (e - (b0 + n)) ++ 32 :: m := by
            rw [hdrop]
            exact drop_len hlen
          rw [toksL_step hne ht2, hrl, hdd]
        cases a with
        | nil =>
          simp only [List.nil_append, List.cons.injEq] at hL
          obtain ⟨rfl, _⟩ := hL
          have e5 : e = b0 + n := by
            have : ((i + b0 + n : Nat) : Int) = ((i + e : Nat) : Int) := he
            omega
          have := key (by omega)
          rw [this]
          subst e5
          have e6 : i + b0 + n = i + (b0 + n) := by omega
          simp only [Nat.sub_self, List.take_zero, List.nil_append, e6]
        | cons t0 a =>
          simp only [List.cons_append, List.cons.injEq] at hL
          obtain ⟨rfl, hL2⟩ := hL
          obtain ⟨f, e7, h1, h2, h3, h4, h5⟩ := toksL_in l.length ((l.drop b0).drop n) (i + b0 + n) (by simp only [List.length_drop]; omega) t (by rw [hL2]; simp)
          have h6 : (e7 : Int) = ((i + e : Nat) : Int) := h2.symm.trans he
          rw [key (by omega), toksL_cut m a ((l.drop b0).drop n) (i + b0 + n) t b (e - (b0 + n)) hL2 (by rw [he]; congr 1; omega)]
          have e8 : i + b0 + n + (e - (b0 + n)) = i + e := by omega
          rw [e8]; rfl
end Go.Proofs.YtencibjmiphinaaGreatDoor.Lx
