/- The tokens of a text that is cut behind a token, and of what is written anew. -/
import Derived.Test.YtencibjmiphinaaGreatDoorQZaw
import Derived.Test.YtencibjmiphinaaGreatDoorQLxLexCut
import Derived.Test.YtencibjmiphinaaGreatDoorQZay
import Derived.Test.YtencibjmiphinaaGreatDoorQZal
import Derived.Lib.ItoaLen
namespace Go.Proofs.YtencibjmiphinaaGreatDoor.Lx
open Go.RowKit

theorem blank_cases {c : Int} (h : isBlank c = true) : c = 32 ∨ c = 9 ∨ c = 10 ∨ c = 13 := by
  unfold isBlank at h
  simp only [Bool.or_eq_true, beq_iff_eq] at h
  omega
theorem blank_notName {c : Int} (h : isBlank c = true) : okB c = false := by
  rcases blank_cases h with rfl | rfl | rfl | rfl <;> decide
theorem blank_notDig {c : Int} (h : isBlank c = true) : isDig c = false := by
  rcases blank_cases h with rfl | rfl | rfl | rfl <;> decide
/-- A rest that begins with a blank, or is empty. -/
def Parted (r : List UInt8) : Prop := ∀ c r', r = c :: r' → isBlank (c.toNat : Int) = true
theorem Parted.rl {p : Int → Bool} {r : List UInt8} (h : Parted r) (hp : ∀ c, isBlank c = true → p c = false) : rl p r = 0 := by
  cases r with
  | nil => rfl
  | cons c r => exact rl_no (hp _ (h c r rfl))
theorem rl_full {p : Int → Bool} {l r : List UInt8} (h : rl p l = l.length) (hr : rl p r = 0) : rl p (l ++ r) = l.length := by
  have hm := rl_mem (p := p) l
  rw [h, List.take_length] at hm
  rw [rl_app l r hm, hr]; rfl
theorem take_len_app (l r : List UInt8) : (l ++ r).take l.length = l := by simp
/-- A rest that goes on with no letter, digit or line below. -/
def Fr (r : List UInt8) : Prop := rl okB r = 0 ∧ rl isDig r = 0
theorem Parted.fr {r : List UInt8} (h : Parted r) : Fr r := ⟨h.rl fun _ => blank_notName, h.rl fun _ => blank_notDig⟩
theorem tokL_app {l : List UInt8} {k : Int} {n : Nat} {v : Int} {t : ByteArray} (h : tokL l = some (k, n, v, t)) (hn : n = l.length) (r : List UInt8) (hr : Fr r) : tokL (l ++ r) = some (k, n, v, t) := by
  cases l with
  | nil => simp [tokL] at h
  | cons c l =>
    rw [List.cons_append]
    cases hL : isLet (c.toNat : Int) with
    | true =>
      cases hx : nameOk ⟨((c :: l).take (rl okB (c :: l))).toArray⟩ with
      | false => rw [tokL_noname hL hx] at h; cases h
      | true =>
        rw [tokL_name hL hx] at h
        cases h
        have e : rl okB (c :: (l ++ r)) = rl okB (c :: l) := by
          rw [← List.cons_append, rl_full hn hr.1, hn]
        have e2 : (c :: (l ++ r)).take (rl okB (c :: l)) = (c :: l).take (rl okB (c :: l)) := by
          rw [hn, List.take_length, ← List.cons_append, take_len_app]
        rw [tokL_name hL (by rw [e, e2]; exact hx), e, e2]
    | false =>
      cases hN : (c == 45 || isDig (c.toNat : Int)) with
      | true =>
        cases hq : pv ((c :: l).take (rl isDig l + 1)) with
        | none => rw [tokL_nonum hL hN hq] at h; cases h
        | some q =>
          rw [tokL_num hL hN hq] at h
          cases h
          have hl : rl isDig l = l.length := by simpa using hn
          have e : rl isDig (l ++ r) = rl isDig l := by rw [rl_full hl hr.2, hl]
          have e2 : (c :: (l ++ r)).take (rl isDig l + 1) = (c :: l).take (rl isDig l + 1) := by
            rw [hn, List.take_length, ← List.cons_append, take_len_app]
          rw [tokL_num (q := q) hL hN (by rw [e, e2]; exact hq), e]
      | false =>
        cases hM : (c == 34) with
        | true =>
          cases hw : wl false l with
          | none => rw [tokL_noend hL hN hM hw] at h; cases h
          | some n' =>
            cases hq : pv ((c :: l).take (n' + 1)) with
            | none => rw [tokL_noword hL hN hM hw hq] at h; cases h
            | some q =>
              rw [tokL_word hL hN hM hw hq] at h
              cases h
              have e2 : (c :: (l ++ r)).take (n' + 1) = (c :: l).take (n' + 1) := by
                rw [hn, List.take_length, ← List.cons_append, take_len_app]
              exact tokL_word (q := q) hL hN hM (wl_app _ _ _ _ hw) (by rw [e2]; exact hq)
        | false =>
          cases hS : isSign c with
          | false => rw [tokL_nosign hL hN hM hS] at h; cases h
          | true =>
            rw [tokL_sign hL hN hM hS] at h
            rw [tokL_sign hL hN hM hS]
            exact h
theorem drop_len {a b : List UInt8} {n : Nat} (h : a.length = n) : (a ++ b).drop n = b := by subst h; exact List.drop_left
theorem rl_more {p : Int → Bool} : ∀ (l r : List UInt8), rl p l < l.length → rl p (l ++ r) = rl p l
  | [], _, h => by simp at h
  | c :: l, r, h => by
    cases hc : p (c.toNat : Int) with
    | false => rw [List.cons_append, rl_no hc, rl_no hc]
    | true =>
      rw [rl_yes hc] at h
      rw [List.cons_append, rl_yes hc, rl_yes hc, rl_more l r (by simp at h; omega)]
theorem take_more {l : List UInt8} {n : Nat} (h : n ≤ l.length) (r : List UInt8) : (l ++ r).take n = l.take n := by
  rw [List.take_append_of_le_length h]
theorem tokL_more {l : List UInt8} {k : Int} {n : Nat} {v : Int} {t : ByteArray} (h : tokL l = some (k, n, v, t)) (hn : n < l.length) (r : List UInt8) : tokL (l ++ r) = some (k, n, v, t) := by
  cases l with
  | nil => simp [tokL] at h
  | cons c l =>
    rw [List.cons_append]
    cases hL : isLet (c.toNat : Int) with
    | true =>
      cases hx : nameOk ⟨((c :: l).take (rl okB (c :: l))).toArray⟩ with
      | false => rw [tokL_noname hL hx] at h; cases h
      | true =>
        rw [tokL_name hL hx] at h
        cases h
        have e : rl okB (c :: (l ++ r)) = rl okB (c :: l) := rl_more (c :: l) r hn
        have e2 : (c :: (l ++ r)).take (rl okB (c :: l)) = (c :: l).take (rl okB (c :: l)) := take_more (l := c :: l) (by omega) r
        rw [tokL_name hL (by rw [e, e2]; exact hx), e, e2]
    | false =>
      cases hN : (c == 45 || isDig (c.toNat : Int)) with
      | true =>
        cases hq : pv ((c :: l).take (rl isDig l + 1)) with
        | none => rw [tokL_nonum hL hN hq] at h; cases h
        | some q =>
          rw [tokL_num hL hN hq] at h
          cases h
          have hl : rl isDig l < l.length := by simpa using hn
          have e : rl isDig (l ++ r) = rl isDig l := rl_more l r hl
          have e2 : (c :: (l ++ r)).take (rl isDig l + 1) = (c :: l).take (rl isDig l + 1) := take_more (l := c :: l) (by simp; omega) r
          rw [tokL_num (q := q) hL hN (by rw [e, e2]; exact hq), e]
      | false =>
        cases hM : (c == 34) with
        | true =>
          cases hw : wl false l with
          | none => rw [tokL_noend hL hN hM hw] at h; cases h
          | some n' =>
            cases hq : pv ((c :: l).take (n' + 1)) with
            | none => rw [tokL_noword hL hN hM hw hq] at h; cases h
            | some q =>
              rw [tokL_word hL hN hM hw hq] at h
              cases h
              have e2 : (c :: (l ++ r)).take (n' + 1) = (c :: l).take (n' + 1) := take_more (l := c :: l) (by omega) r
              exact tokL_word (q := q) hL hN hM (wl_app _ _ _ _ hw) (by rw [e2]; exact hq)
        | false =>
          cases hS : isSign c with
          | false => rw [tokL_nosign hL hN hM hS] at h; cases h
          | true =>
            rw [tokL_sign hL hN hM hS] at h
            rw [tokL_sign hL hN hM hS]
            exact h
/-- The text of a token, alone. -/
def Wr (x : Tok) (wr : List UInt8) : Prop := tokL wr = some (x.1, wr.length, x.2.2.2.1, x.2.2.2.2)
theorem wr_head {x : Tok} {wr : List UInt8} (h : Wr x wr) : ∀ r, rl isBlank (wr ++ r) = 0 ∧ 0 < wr.length := by
  intro r
  unfold Wr at h
  have hl := tokL_len h
  cases wr with
  | nil => simp [tokL] at h
  | cons c l =>
    refine ⟨?_, by simp⟩
    rw [List.cons_append]
    apply rl_no
    cases hb : isBlank (c.toNat : Int) with
    | false => rfl
    | true =>
      have hs : isLet (c.toNat : Int) = false ∧ (c == 45 || isDig (c.toNat : Int)) = false ∧ (c == 34) = false ∧ isSign c = false := by
        have : c = 32 ∨ c = 9 ∨ c = 10 ∨ c = 13 := by
          rcases blank_cases hb with h | h | h | h
          · exact Or.inl (UInt8.toNat_inj.1 (by have e : (32 : UInt8).toNat = 32 := rfl; omega))
          · exact Or.inr (Or.inl (UInt8.toNat_inj.1 (by have e : (9 : UInt8).toNat = 9 := rfl; omega)))
          · exact Or.inr (Or.inr (Or.inl (UInt8.toNat_inj.1 (by have e : (10 : UInt8).toNat = 10 := rfl; omega))))
          · exact Or.inr (Or.inr (Or.inr (UInt8.toNat_inj.1 (by have e : (13 : UInt8).toNat = 13 := rfl; omega))))
        rcases this with rfl | rfl | rfl | rfl <;> decide
      rw [tokL_nosign hs.1 hs.2.1 hs.2.2.1 hs.2.2.2] at h
      cases h
theorem toksL_in : ∀ (N : Nat) (l : List UInt8) (i : Nat), l.length ≤ N → ∀ t ∈ (toksL l i).1, ∃ f e : Nat, t.2.1 = f ∧ t.2.2.1 = e ∧ i ≤ f ∧ f < e ∧ e ≤ i + l.length
  | N, l, i, hN, t, ht => by
    by_cases h : l.length ≤ rl isBlank l
    · rw [toksL_end h] at ht; cases ht
    · cases hk : tokL (l.drop (rl isBlank l)) with
      | none => rw [toksL_bad h hk] at ht; cases ht
      | some q =>
        obtain ⟨k, n, v, x⟩ := q
        rw [toksL_step h hk] at ht
        have hn := tokL_len hk
        simp only [List.length_drop] at hn
        rcases List.mem_cons.1 ht with rfl | ht
        · exact ⟨i + rl isBlank l, i + rl isBlank l + n, rfl, rfl, by omega, by omega, by omega⟩
        · have h0 : 0 < N := by omega
          obtain ⟨f, e, h1, h2, h3, h4, h5⟩ := toksL_in (N - 1) ((l.drop (rl isBlank l)).drop n) (i + rl isBlank l + n) (by simp only [List.length_drop]; omega) t ht
          simp only [List.length_drop] at h5
          exact ⟨f, e, h1, h2, by omega, h4, by omega⟩
termination_by N => N
decreasing_by omega
theorem toksL_rise : ∀ (N : Nat) (l : List UInt8) (i : Nat), l.length ≤ N → (toksL l i).1.Pairwise (fun x y => x.2.1 < y.2.1)
  | N, l, i, hN => by
    by_cases h : l.length ≤ rl isBlank l
    · rw [toksL_end h]; exact List.Pairwise.nil
    · cases hk : tokL (l.drop (rl isBlank l)) with
      | none => rw [toksL_bad h hk]; exact List.Pairwise.nil
      | some q =>
        obtain ⟨k, n, v, x⟩ := q
        rw [toksL_step h hk]
        have hn := tokL_len hk
        simp only [List.length_drop] at hn
        have h0 : 0 < N := by omega
        refine List.Pairwise.cons (fun y hy => ?_) (toksL_rise (N - 1) ((l.drop (rl isBlank l)).drop n) (i + rl isBlank l + n) (by simp only [List.length_drop]; omega))
        obtain ⟨f, e, h1, _, h3, _⟩ := toksL_in l.length _ _ (by simp only [List.length_drop]; omega) y hy
        rw [h1]
        show ((i + rl isBlank l : Nat) : Int) < (f : Int)
        omega
termination_by N => N
decreasing_by omega
/-- The tokens of a text that is cut behind a token of its, with a blank and more behind. -/
theorem toksL_cut (m : List UInt8) : ∀ (a : List Tok) (l : List UInt8) (i : Nat) (t : Tok) (b : List Tok) (e : Nat), (toksL l i).1 = a ++ t :: b → t.2.2.1 = ((i + e : Nat) : Int) → toksL (l.take e ++ 32 :: m) i = (a ++ t :: (toksL (32 :: m) (i + e)).1, (toksL (32 :: m) (i + e)).2)
  | a, l, i, t, b, e, hL, he => by
    by_cases h : l.length ≤ rl isBlank l
    · rw [toksL_end h] at hL; simp at hL
    · cases hk : tokL (l.drop (rl isBlank l)) with
      | none => rw [toksL_bad h hk] at hL; simp at hL
      | some q =>
        obtain ⟨k, n, v, x⟩ := q
        rw [toksL_step h hk] at hL
        have hn := tokL_len hk
        simp only [List.length_drop] at hn
        obtain ⟨b0, hb0⟩ : ∃ b0, rl isBlank l = b0 := ⟨_, rfl⟩
        rw [hb0] at hL hk hn h
        -- the first token of the cut text, where the cut is behind it
        have key : b0 + n ≤ e → toksL (l.take e ++ 32 :: m) i = ((k, ((i + b0 : Nat) : Int), ((i + b0 + n : Nat) : Int), v, x) :: (toksL (((l.drop b0).drop n).take (e - (b0 + n)) ++ 32 :: m) (i + b0 + n)).1, (toksL (((l.drop b0).drop n).take (e - (b0 + n)) ++ 32 :: m) (i + b0 + n)).2) := fun hle => by
          have hsp : l.take e ++ 32 :: m = l.take b0 ++ ((l.drop b0).take n ++ (((l.drop b0).drop n).take (e - (b0 + n)) ++ 32 :: m)) := by
            rw [← List.append_assoc, ← List.append_assoc]
            congr 1
            have e1 : e = b0 + (n + (e - (b0 + n))) := by omega
            conv => lhs; rw [e1, List.take_add, List.take_add]
            rw [List.append_assoc]
          have hbl : ∀ c ∈ l.take b0, isBlank (c.toNat : Int) = true := by rw [← hb0]; exact rl_mem l
          have hlen : ((l.drop b0).take n).length = n := by simp; omega
          have htk : tokL ((l.drop b0).take n) = some (k, n, v, x) := tokL_take hk n (Nat.le_refl _)
          have hw : Wr (k, 0, 0, v, x) ((l.drop b0).take n) := by unfold Wr; rw [hlen]; exact htk
          have hd := (wr_head hw (((l.drop b0).drop n).take (e - (b0 + n)) ++ 32 :: m)).1
          have hrl : rl isBlank (l.take e ++ 32 :: m) = b0 := by
            rw [hsp, rl_app _ _ hbl, hd]; simp; omega
          have hdrop : (l.take e ++ 32 :: m).drop b0 = (l.drop b0).take n ++ (((l.drop b0).drop n).take (e - (b0 + n)) ++ 32 :: m) := by
            rw [hsp]
            exact drop_len (by simp; omega)
          have hfr : tokL ((l.drop b0).take n ++ (((l.drop b0).drop n).take (e - (b0 + n)) ++ 32 :: m)) = some (k, n, v, x) := by
            by_cases hz : e - (b0 + n) = 0
            · rw [hz]
              exact tokL_app htk hlen.symm _ (Parted.fr (by intro c r hc; simp at hc; rw [← hc.1]; decide))
            · have e3 : (l.drop b0).take n ++ (((l.drop b0).drop n).take (e - (b0 + n)) ++ 32 :: m) = ((l.drop b0).take (e - b0)) ++ 32 :: m := by
                rw [← List.append_assoc]
                congr 1
                have e1 : e - b0 = n + (e - (b0 + n)) := by omega
                rw [e1, List.take_add]
              rw [e3]
              have h5 := tokL_take hk (e - b0) (by omega)
              by_cases hz2 : l.length - b0 ≤ n
              · have e4 : (l.drop b0).take (e - b0) = (l.drop b0).take n := by
                  rw [List.take_of_length_le (by simp; omega), List.take_of_length_le (by simp; omega)]
                rw [e4]
                exact tokL_app htk hlen.symm _ (Parted.fr (by intro c r hc; simp at hc; rw [← hc.1]; decide))
              · exact tokL_more h5 (by simp; omega) _
          have hne : ¬ (l.take e ++ 32 :: m).length ≤ rl isBlank (l.take e ++ 32 :: m) := by rw [hrl]; simp; omega
          have ht2 : tokL ((l.take e ++ 32 :: m).drop (rl isBlank (l.take e ++ 32 :: m))) = some (k, n, v, x) := by rw [hrl, hdrop]; exact hfr
          have hdd : ((l.take e ++ 32 :: m).drop b0).drop n = ((l.drop b0).drop n).take (e - (b0 + n)) ++ 32 :: m := by
            rw [hdrop]
            exact drop_len hlen
          rw [toksL_step hne ht2, hrl, hdd]
        cases a with
        | nil =>
          simp only [List.nil_append, List.cons.injEq] at hL
          obtain ⟨rfl, _⟩ := hL
          have e5 : e = b0 + n := by
            have : ((i + b0 + n : Nat) : Int) = ((i + e : Nat) : Int) := he
            omega
          have := key (by omega)
          rw [this]
          subst e5
          have e6 : i + b0 + n = i + (b0 + n) := by omega
          simp only [Nat.sub_self, List.take_zero, List.nil_append, e6]
        | cons t0 a =>
          simp only [List.cons_append, List.cons.injEq] at hL
          obtain ⟨rfl, hL2⟩ := hL
          obtain ⟨f, e7, h1, h2, h3, h4, h5⟩ := toksL_in l.length ((l.drop b0).drop n) (i + b0 + n) (by simp only [List.length_drop]; omega) t (by rw [hL2]; simp)
          have h6 : (e7 : Int) = ((i + e : Nat) : Int) := h2.symm.trans he
          rw [key (by omega), toksL_cut m a ((l.drop b0).drop n) (i + b0 + n) t b (e - (b0 + n)) hL2 (by rw [he]; congr 1; omega)]
          have e8 : i + b0 + n + (e - (b0 + n)) = i + e := by omega
          rw [e8]; rfl
end Go.Proofs.YtencibjmiphinaaGreatDoor.Lx
namespace Go.Proofs.YtencibjmiphinaaGreatDoor
open Go.RowKit

theorem hexd_inj {m n : Nat} (hm : m < 16) (hn : n < 16) (h : hexd m = hexd n) : m = n := by
  have hh : ((List.range 16).all fun a => (List.range 16).all fun b => decide (hexd a = hexd b → a = b)) = true := by decide +kernel
  rw [List.all_eq_true] at hh
  have h1 := hh m (List.mem_range.2 hm)
  rw [List.all_eq_true] at h1
  have h2 := h1 n (List.mem_range.2 hn)
  simp only [decide_eq_true_eq] at h2
  exact h2 h
theorem esc_shape (c : UInt8) : (needs c = true ∧ esc c = [92, c]) ∨ (needs c = false ∧ esc c = [c]) ∨ (esc c = [92, 120, hexd (c.toNat / 16), hexd (c.toNat % 16)]) := by
  unfold esc
  cases nc : needs c
  · cases pc : prints c
    · right; right; simp
    · right; left; simp
  · left; simp
theorem esc_free {c d : UInt8} {r s : List UInt8} (h : esc c ++ r = esc d ++ s) : c = d ∧ r = s := by
  have hlc := c.toNat_lt
  have hld := d.toNat_lt
  have n92 : needs 92 = true := by decide
  have n120 : needs 120 = false := by decide
  rcases esc_shape c with ⟨nc, ec⟩ | ⟨nc, ec⟩ | ec <;> rcases esc_shape d with ⟨nd, ed⟩ | ⟨nd, ed⟩ | ed <;> rw [ec, ed] at h <;> simp only [List.cons_append, List.nil_append, List.cons.injEq, true_and] at h
  · exact h
  · rw [← h.1, n92] at nd; cases nd
  · rw [h.1, n120] at nc; cases nc
  · rw [h.1, n92] at nc; cases nc
  · exact h
  · rw [h.1, n92] at nc; cases nc
  · rw [← h.1, n120] at nd; cases nd
  · rw [← h.1, n92] at nd; cases nd
  · obtain ⟨h1, h2, h3⟩ := h
    have e1 := hexd_inj (by omega) (by omega) h1
    have e2 := hexd_inj (by omega) (by omega) h2
    exact ⟨UInt8.toNat_inj.1 (by omega), h3⟩
theorem esc_head (c : UInt8) : ∃ x t, esc c = x :: t ∧ x ≠ 34 := by
  rcases esc_shape c with ⟨_, e⟩ | ⟨nc, e⟩ | e
  · exact ⟨_, _, e, by decide⟩
  · refine ⟨_, _, e, fun h => ?_⟩
    subst h
    exact absurd nc (by decide)
  · exact ⟨_, _, e, by decide⟩
theorem escs_free : ∀ (a b r s : List UInt8), escs a ++ 34 :: r = escs b ++ 34 :: s → a = b ∧ r = s
  | [], [], r, s, h => by simpa [escs] using h
  | [], d :: b, r, s, h => by
    obtain ⟨x, t, e, hx⟩ := esc_head d
    simp only [escs, List.flatMap_nil, List.flatMap_cons, e, List.nil_append, List.cons_append, List.cons.injEq] at h
    exact absurd h.1.symm hx
  | c :: a, [], r, s, h => by
    obtain ⟨x, t, e, hx⟩ := esc_head c
    simp only [escs, List.flatMap_nil, List.flatMap_cons, e, List.nil_append, List.cons_append, List.cons.injEq] at h
    exact absurd h.1 hx
  | c :: a, d :: b, r, s, h => by
    have e1 : escs (c :: a) = esc c ++ escs a := by simp [escs]
    have e2 : escs (d :: b) = esc d ++ escs b := by simp [escs]
    rw [e1, e2, List.append_assoc, List.append_assoc] at h
    obtain ⟨h1, h2⟩ := esc_free h
    obtain ⟨h3, h4⟩ := escs_free a b r s h2
    exact ⟨by rw [h1, h3], h4⟩
theorem quote_free {a b r s : List UInt8} (h : quoteL a ++ r = quoteL b ++ s) : a = b ∧ r = s := by
  unfold quoteL at h
  simp only [List.cons_append, List.append_assoc, List.cons.injEq, true_and, List.nil_append] at h
  exact escs_free a b r s h
/-- Signs of one sort, and behind them one of another: where they end is told. -/
theorem run_free {p : UInt8 → Prop} : ∀ (a b : List UInt8) {x y : UInt8} {r s : List UInt8}, (∀ c ∈ a, p c) → (∀ c ∈ b, p c) → ¬ p x → ¬ p y → a ++ x :: r = b ++ y :: s → a = b ∧ x = y ∧ r = s
  | [], [], x, y, r, s, _, _, _, _, h => by simpa using h
  | [], d :: b, x, y, r, s, _, hb, hx, _, h => by
    simp only [List.nil_append, List.cons_append, List.cons.injEq] at h
    exact absurd (h.1 ▸ hb d List.mem_cons_self) hx
  | c :: a, [], x, y, r, s, ha, _, _, hy, h => by
    simp only [List.nil_append, List.cons_append, List.cons.injEq] at h
    exact absurd (h.1 ▸ ha c List.mem_cons_self) hy
  | c :: a, d :: b, x, y, r, s, ha, hb, hx, hy, h => by
    simp only [List.cons_append, List.cons.injEq] at h
    obtain ⟨h1, h2, h3⟩ := run_free a b (fun z hz => ha z (List.mem_cons_of_mem _ hz)) (fun z hz => hb z (List.mem_cons_of_mem _ hz)) hx hy h.2
    exact ⟨by rw [h.1, h1], h2, h3⟩
def jt (sep : List UInt8) : List (List UInt8) → List UInt8
  | [] => []
  | x :: xs => sep ++ x ++ jt sep xs
theorem jl_succ (sep : List UInt8) : ∀ (l : List (List UInt8)) (i : Nat), jl sep (i + 1) l = jt sep l
  | [], _ => rfl
  | x :: xs, i => by rw [jl_1 _ _ _ (by omega), jl_succ sep xs (i + 1)]; rfl
theorem jl_zero (sep x : List UInt8) (xs : List (List UInt8)) : jl sep 0 (x :: xs) = x ++ jt sep xs := by rw [jl_0 _ _ _ (by omega), jl_succ]
section
variable {α : Type} {f : α → List UInt8} {sep : List UInt8} {A B : α → Prop} {P Q : List UInt8 → Prop}
theorem jt_rest (hs : ∀ t, P (sep ++ t)) (hq : ∀ t, Q t → P t) (l : List α) {t : List UInt8} (ht : Q t) : P (jt sep (l.map f) ++ t) := by
  cases l with
  | nil => exact hq t ht
  | cons x l =>
    simp only [List.map_cons, jt, List.append_assoc]
    exact hs _
theorem jt_free (hf : ∀ x y r s, A x → B y → P r → P s → f x ++ r = f y ++ s → x = y ∧ r = s)
    (hs : ∀ t, P (sep ++ t)) (hq : ∀ t, Q t → P t) (hn : ∀ t u, Q t → t ≠ sep ++ u) :
    ∀ (a b : List α) (r s : List UInt8), (∀ x ∈ a, A x) → (∀ y ∈ b, B y) → Q r → Q s → jt sep (a.map f) ++ r = jt sep (b.map f) ++ s → a = b ∧ r = s
  | [], [], r, s, _, _, _, _, h => ⟨rfl, by simpa [jt] using h⟩
  | [], y :: b, r, s, _, _, hr, _, h => by
    simp only [List.map_nil, List.map_cons, jt, List.nil_append, List.append_assoc] at h
    exact absurd h (hn r _ hr)
  | x :: a, [], r, s, _, _, _, hs', h => by
    simp only [List.map_nil, List.map_cons, jt, List.nil_append, List.append_assoc] at h
    exact absurd h.symm (hn s _ hs')
  | x :: a, y :: b, r, s, ha, hb, hr, hs', h => by
    simp only [List.map_cons, jt, List.append_assoc] at h
    have h2 := List.append_cancel_left h
    obtain ⟨e1, e2⟩ := hf x y _ _ (ha x List.mem_cons_self) (hb y List.mem_cons_self) (jt_rest hs hq a hr) (jt_rest hs hq b hs') h2
    obtain ⟨e3, e4⟩ := jt_free hf hs hq hn a b r s (fun z hz => ha z (List.mem_cons_of_mem _ hz)) (fun z hz => hb z (List.mem_cons_of_mem _ hz)) hr hs' e2
    exact ⟨by rw [e1, e3], e4⟩
theorem jl_free (hf : ∀ x y r s, A x → B y → P r → P s → f x ++ r = f y ++ s → x = y ∧ r = s)
    (hs : ∀ t, P (sep ++ t)) (hq : ∀ t, Q t → P t) (hn : ∀ t u, Q t → t ≠ sep ++ u) {a b : List α} {r s : List UInt8} (na : a ≠ []) (nb : b ≠ [])
    (ha : ∀ x ∈ a, A x) (hb : ∀ y ∈ b, B y) (hr : Q r) (hs' : Q s) (h : jl sep 0 (a.map f) ++ r = jl sep 0 (b.map f) ++ s) : a = b ∧ r = s := by
  cases a with
  | nil => exact absurd rfl na
  | cons x a =>
    cases b with
    | nil => exact absurd rfl nb
    | cons y b =>
      simp only [List.map_cons, jl_zero, List.append_assoc] at h
      obtain ⟨e1, e2⟩ := hf x y _ _ (ha x List.mem_cons_self) (hb y List.mem_cons_self) (jt_rest hs hq a hr) (jt_rest hs hq b hs') h
      obtain ⟨e3, e4⟩ := jt_free hf hs hq hn a b r s (fun z hz => ha z (List.mem_cons_of_mem _ hz)) (fun z hz => hb z (List.mem_cons_of_mem _ hz)) hr hs' e2
      exact ⟨by rw [e1, e3], e4⟩
end
/-- The number of a row of digits. -/
def numv (l : List UInt8) : Nat := l.foldl (fun a c => a * 10 + (c.toNat - 48)) 0
theorem dec_digit (u : Nat) : ∀ c ∈ Lib.decDigits u, 48 ≤ c.toNat ∧ c.toNat ≤ 57 := by
  induction u using Nat.strongRecOn with
  | _ u ih =>
    intro c hc
    rw [Lib.decDigits] at hc
    by_cases h : u < 10
    · rw [dif_pos h] at hc
      simp only [List.mem_singleton] at hc
      subst hc
      rw [UInt8.toNat_ofNat', Nat.mod_eq_of_lt (by omega)]
      omega
    · rw [dif_neg h] at hc
      rcases List.mem_append.1 hc with hc | hc
      · exact ih (u / 10) (by omega) c hc
      · simp only [List.mem_singleton] at hc
        subst hc
        rw [UInt8.toNat_ofNat', Nat.mod_eq_of_lt (by omega)]
        omega
theorem dec_ne (u : Nat) : Lib.decDigits u ≠ [] := by
  intro h
  have := Lib.decDigits_length u
  rw [h] at this
  have := Lib.nDigits_pos u
  simp at *; omega
theorem numv_dec (u : Nat) : numv (Lib.decDigits u) = u := by
  induction u using Nat.strongRecOn with
  | _ u ih =>
    rw [Lib.decDigits]
    by_cases h : u < 10
    · rw [dif_pos h]
      have e : (UInt8.ofNat (48 + u)).toNat = 48 + u := by rw [UInt8.toNat_ofNat', Nat.mod_eq_of_lt (by omega)]
      simp only [numv, List.foldl_cons, List.foldl_nil, e]
      omega
    · rw [dif_neg h]
      have e : (UInt8.ofNat (48 + u % 10)).toNat = 48 + u % 10 := by rw [UInt8.toNat_ofNat', Nat.mod_eq_of_lt (by omega)]
      have := ih (u / 10) (by omega)
      unfold numv at this ⊢
      rw [List.foldl_append, this]
      simp only [List.foldl_cons, List.foldl_nil, e]
      omega
theorem dec_inj {a b : Nat} (h : Lib.decDigits a = Lib.decDigits b) : a = b := by
  have h1 := numv_dec a
  rw [h, numv_dec b] at h1
  exact h1.symm
def numSign (c : UInt8) : Prop := c.toNat = 45 ∨ (48 ≤ c.toNat ∧ c.toNat ≤ 57)
theorem itoa_signs (n : Int) : ∀ c ∈ Lib.itoa n, numSign c := by
  intro c hc
  unfold Lib.itoa at hc
  split at hc
  · rcases List.mem_cons.1 hc with rfl | hc
    · exact Or.inl rfl
    · exact Or.inr (dec_digit _ c hc)
  · exact Or.inr (dec_digit _ c hc)
theorem itoa_inj {a b : Int} (ha : numOk a = true) (hb : numOk b = true) (h : Lib.itoa a = Lib.itoa b) : a = b := by
  unfold numOk at ha hb
  simp only [Bool.and_eq_true, decide_eq_true_eq] at ha hb
  unfold Lib.itoa at h
  have key : ∀ (m : Nat) (l : List UInt8), 45 :: l ≠ Lib.decDigits m := fun m l e => by
    have := dec_digit m 45 (by rw [← e]; exact List.mem_cons_self)
    have e45 : (45 : UInt8).toNat = 45 := rfl
    omega
  by_cases h1 : a < 0 <;> by_cases h2 : b < 0
  · rw [if_pos h1, if_pos h2] at h
    simp only [List.cons.injEq, true_and] at h
    have := dec_inj h
    omega
  · rw [if_pos h1, if_neg h2] at h
    exact absurd h (key _ _)
  · rw [if_neg h1, if_pos h2] at h
    exact absurd h.symm (key _ _)
  · rw [if_neg h1, if_neg h2] at h
    have := dec_inj h
    omega
theorem itI_eq {n : Int} (h : numOk n = true) : itI n = Lib.itoa n := by
  unfold itI textB
  rw [chk_num, h]
  simp [itoaB]
theorem itW_eq {s : ByteArray} (h : wordOk s = true) : itW s = quoteL s.data.toList := by
  unfold itW textB
  rw [chk_word, h]
  simp [quoteB]
/-- What stands behind a number is no sign of a number. -/
def NumEnd (t : List UInt8) : Prop := ∃ x u, t = x :: u ∧ ¬ numSign x
theorem itI_free (a b : Int) (r s : List UInt8) (ha : numOk a = true) (hb : numOk b = true) (hr : NumEnd r) (hs : NumEnd s) (h : itI a ++ r = itI b ++ s) : a = b ∧ r = s := by
  rw [itI_eq ha, itI_eq hb] at h
  obtain ⟨x, u, rfl, hx⟩ := hr
  obtain ⟨y, v, rfl, hy⟩ := hs
  obtain ⟨h1, h2, h3⟩ := run_free _ _ (itoa_signs a) (itoa_signs b) hx hy h
  exact ⟨itoa_inj ha hb h1, by rw [h2, h3]⟩
theorem itW_free (a b : ByteArray) (r s : List UInt8) (ha : wordOk a = true) (hb : wordOk b = true) (_ : True) (_ : True) (h : itW a ++ r = itW b ++ s) : a = b ∧ r = s := by
  rw [itW_eq ha, itW_eq hb] at h
  obtain ⟨h1, h2⟩ := quote_free h
  exact ⟨WideShapes.bytes_inj h1, h2⟩
theorem itI_head {n : Int} (h : numOk n = true) : ∃ c t, itI n = c :: t ∧ numSign c := by
  rw [itI_eq h]
  cases e : Lib.itoa n with
  | nil =>
    unfold Lib.itoa at e
    split at e
    · cases e
    · exact absurd e (dec_ne _)
  | cons c t => exact ⟨c, t, rfl, itoa_signs n c (by rw [e]; exact List.mem_cons_self)⟩
theorem itW_head {s : ByteArray} (h : wordOk s = true) : ∃ t, itW s = 34 :: t := by
  rw [itW_eq h]; exact ⟨_, rfl⟩
/-- Names. -/
def nameSign (c : UInt8) : Prop := (97 ≤ c.toNat ∧ c.toNat ≤ 122) ∨ (48 ≤ c.toNat ∧ c.toNat ≤ 57) ∨ c.toNat = 95
theorem byteI_list (s : ByteArray) (i : Nat) (h : i < s.data.toList.length) : byteI s i = ((s.data.toList[i]'h).toNat : Int) := by
  have h' : i < s.size := by simpa using h
  unfold byteI
  rw [dif_pos h']
  rfl
theorem name_signs {s : ByteArray} (h : nameOk s = true) : ∀ c ∈ s.data.toList, nameSign c := by
  intro c hc
  unfold nameOk at h
  simp only [Bool.and_eq_true, decide_eq_true_eq, List.all_eq_true] at h
  obtain ⟨i, hi, rfl⟩ := List.mem_iff_getElem.1 hc
  have := h.2 i (List.mem_range.2 (by simpa using hi))
  rw [byteI_list s i hi] at this
  unfold okB isLet isDig at this
  simp only [Bool.or_eq_true, Bool.and_eq_true, decide_eq_true_eq, beq_iff_eq] at this
  unfold nameSign
  omega
theorem name_head {s : ByteArray} (h : nameOk s = true) : ∃ c t, s.data.toList = c :: t ∧ 97 ≤ c.toNat := by
  unfold nameOk at h
  simp only [Bool.and_eq_true, decide_eq_true_eq, List.all_eq_true] at h
  have hl : 0 < s.data.toList.length := by have := h.1.1.1; rw [bytes_len]; omega
  have := h.1.2
  rw [byteI_list s 0 hl] at this
  unfold isLet at this
  simp only [Bool.and_eq_true, decide_eq_true_eq] at this
  cases e : s.data.toList with
  | nil => rw [e] at hl; simp at hl
  | cons c t =>
    refine ⟨c, t, rfl, ?_⟩
    simp only [e, List.getElem_cons_zero] at this
    omega
end Go.Proofs.YtencibjmiphinaaGreatDoor
namespace Go.Proofs.YtencibjmiphinaaGreatDoor
open Go.RowKit

theorem len_nil {α : Type} {l : List α} (h : l.length = 0) : l = [] := List.length_eq_zero_iff.1 h
theorem predB_is {k : Int} {a : ByteArray} {i : List Int} {w : List ByteArray} {l h : Int} (H : predB k a i w l h = true) :
    nameOk a = true ∧ ((k = 1 ∧ (∀ x ∈ i, numOk x = true) ∧ i ≠ [] ∧ w = [] ∧ l = 0 ∧ h = 0) ∨ (k = 2 ∧ (∀ x ∈ w, wordOk x = true) ∧ w ≠ [] ∧ i = [] ∧ l = 0 ∧ h = 0) ∨ (k = 3 ∧ numOk l = true ∧ numOk h = true ∧ i = [] ∧ w = []) ∨ (k = 4 ∧ (∃ x, w = [x] ∧ wordOk x = true) ∧ i = [] ∧ l = 0 ∧ h = 0)) := by
  unfold predB at H
  rw [Bool.and_eq_true] at H
  refine ⟨H.1, ?_⟩
  have H2 := H.2
  have ne : ∀ {β : Type} {m : List β}, 1 ≤ m.length → m ≠ [] := fun hm e => by rw [e] at hm; simp at hm
  by_cases k1 : k = 1
  · rw [if_pos k1] at H2
    simp only [memB, emptyB, Bool.and_eq_true, decide_eq_true_eq, List.all_eq_true] at H2
    obtain ⟨⟨h1, h2, _⟩, _, h3, h4, h5⟩ := H2
    exact Or.inl ⟨k1, h1, ne h2, len_nil h3, h4, h5⟩
  rw [if_neg k1] at H2
  by_cases k2 : k = 2
  · rw [if_pos k2] at H2
    simp only [memB, emptyB, Bool.and_eq_true, decide_eq_true_eq, List.all_eq_true] at H2
    obtain ⟨⟨h1, h2, _⟩, h3, _, h4, h5⟩ := H2
    exact Or.inr (Or.inl ⟨k2, h1, ne h2, len_nil h3, h4, h5⟩)
  rw [if_neg k2] at H2
  by_cases k3 : k = 3
  · rw [if_pos k3] at H2
    simp only [emptyB, Bool.and_eq_true, decide_eq_true_eq] at H2
    obtain ⟨⟨h1, h2⟩, h3, h4, _⟩ := H2
    exact Or.inr (Or.inr (Or.inl ⟨k3, h1, h2, len_nil h3, len_nil h4⟩))
  rw [if_neg k3] at H2
  by_cases k4 : k = 4
  · rw [if_pos k4] at H2
    simp only [memB, emptyB, Bool.and_eq_true, decide_eq_true_eq, List.all_eq_true] at H2
    obtain ⟨⟨h1, h2, h2'⟩, h3, _, h4, h5⟩ := H2
    have hw : w.length = 1 := by omega
    obtain ⟨x, rfl⟩ := List.length_eq_one_iff.1 hw
    exact Or.inr (Or.inr (Or.inr ⟨k4, ⟨x, rfl, h1 x List.mem_cons_self⟩, len_nil h3, h4, h5⟩))
  · rw [if_neg k4] at H2; cases H2
/-- What stands behind the name and the blank. -/
def bodyL (kind : Int) (ints : List Int) (words : List ByteArray) (lo hi : Int) : List UInt8 :=
  if kind = 1 then [123] ++ jl [44, 32] 0 (ints.map itI) ++ [125] else if kind = 2 then [123] ++ jl [44, 32] 0 (words.map itW) ++ [125] else if kind = 3 then [91] ++ jl [44, 32] 0 ([lo, hi].map itI) ++ [93] else if kind = 4 then [] ++ jl [44, 32] 0 (words.map itW) ++ [42] else []
theorem predL_eq (k : Int) (a : ByteArray) (i : List Int) (w : List ByteArray) (l h : Int) : predL k a i w l h = a.data.toList ++ 32 :: bodyL k i w l h := by
  unfold predL bodyL; rw [List.append_assoc]; rfl
theorem body1 (i : List Int) (w : List ByteArray) (l h : Int) : bodyL 1 i w l h = 123 :: (jl [44, 32] 0 (i.map itI) ++ [125]) := rfl
theorem body2 (i : List Int) (w : List ByteArray) (l h : Int) : bodyL 2 i w l h = 123 :: (jl [44, 32] 0 (w.map itW) ++ [125]) := rfl
theorem body3 (i : List Int) (w : List ByteArray) (l h : Int) : bodyL 3 i w l h = 91 :: (jl [44, 32] 0 ([l, h].map itI) ++ [93]) := rfl
theorem body4 (i : List Int) (x : ByteArray) (l h : Int) : bodyL 4 i [x] l h = itW x ++ [42] := by
  show [] ++ jl [44, 32] 0 [itW x] ++ [42] = _
  rw [jl_zero]; simp [jt]
theorem ints_free {a b : List Int} {x : UInt8} (hx : ¬ numSign x) (hx2 : x ≠ 44) {r s : List UInt8} (na : a ≠ []) (nb : b ≠ []) (ha : ∀ y ∈ a, numOk y = true) (hb : ∀ y ∈ b, numOk y = true) (h : jl [44, 32] 0 (a.map itI) ++ x :: r = jl [44, 32] 0 (b.map itI) ++ x :: s) : a = b ∧ r = s := by
  have hc : ¬ numSign 44 := by unfold numSign; have : (44 : UInt8).toNat = 44 := rfl; omega
  obtain ⟨h1, h2⟩ := jl_free (f := itI) (sep := [44, 32]) (A := fun y => numOk y = true) (B := fun y => numOk y = true) (P := NumEnd) (Q := fun t => ∃ u, t = x :: u) itI_free (fun t => ⟨44, _, rfl, hc⟩) (fun t ⟨u, e⟩ => ⟨x, u, e, hx⟩)
    (fun t u ⟨v, e⟩ e2 => by rw [e] at e2; simp only [List.cons_append, List.cons.injEq] at e2; exact hx2 e2.1) na nb ha hb ⟨r, rfl⟩ ⟨s, rfl⟩ h
  exact ⟨h1, by simpa using h2⟩
theorem words_free {a b : List ByteArray} {x : UInt8} (hx2 : x ≠ 44) {r s : List UInt8} (na : a ≠ []) (nb : b ≠ []) (ha : ∀ y ∈ a, wordOk y = true) (hb : ∀ y ∈ b, wordOk y = true) (h : jl [44, 32] 0 (a.map itW) ++ x :: r = jl [44, 32] 0 (b.map itW) ++ x :: s) : a = b ∧ r = s := by
  obtain ⟨h1, h2⟩ := jl_free (f := itW) (sep := [44, 32]) (A := fun y => wordOk y = true) (B := fun y => wordOk y = true) (P := fun _ => True) (Q := fun t => ∃ u, t = x :: u) itW_free (fun t => trivial) (fun t _ => trivial)
    (fun t u ⟨v, e⟩ e2 => by rw [e] at e2; simp only [List.cons_append, List.cons.injEq] at e2; exact hx2 e2.1) na nb ha hb ⟨r, rfl⟩ ⟨s, rfl⟩ h
  exact ⟨h1, by simpa using h2⟩
theorem no34 : ¬ numSign 34 := by unfold numSign; have : (34 : UInt8).toNat = 34 := rfl; omega
theorem no125 : ¬ numSign 125 := by unfold numSign; have : (125 : UInt8).toNat = 125 := rfl; omega
theorem no93 : ¬ numSign 93 := by unfold numSign; have : (93 : UInt8).toNat = 93 := rfl; omega
theorem ints_words {a : List Int} {b : List ByteArray} {r s : List UInt8} (na : a ≠ []) (nb : b ≠ []) (ha : ∀ y ∈ a, numOk y = true) (hb : ∀ y ∈ b, wordOk y = true) : jl [44, 32] 0 (a.map itI) ++ r ≠ jl [44, 32] 0 (b.map itW) ++ s := by
  intro h
  cases a with
  | nil => exact na rfl
  | cons x a =>
    cases b with
    | nil => exact nb rfl
    | cons y b =>
      obtain ⟨c, t, e, hc⟩ := itI_head (ha x List.mem_cons_self)
      obtain ⟨u, e2⟩ := itW_head (hb y List.mem_cons_self)
      simp only [List.map_cons, jl_zero, e, e2, List.cons_append, List.cons.injEq] at h
      rw [h.1] at hc
      exact no34 hc
theorem body_free {k k' : Int} {a a' : ByteArray} {i i' : List Int} {w w' : List ByteArray} {l l' h h' : Int} {r s : List UInt8} (H : predB k a i w l h = true) (H' : predB k' a' i' w' l' h' = true) (he : bodyL k i w l h ++ r = bodyL k' i' w' l' h' ++ s) :
    k = k' ∧ i = i' ∧ w = w' ∧ l = l' ∧ h = h' ∧ r = s := by
  obtain ⟨_, c⟩ := predB_is H
  obtain ⟨_, c'⟩ := predB_is H'
  have d1 : (123 : UInt8) ≠ 91 := by decide
  have d2 : (123 : UInt8) ≠ 34 := by decide
  have d3 : (91 : UInt8) ≠ 34 := by decide
  rcases c with ⟨rfl, h1, h2, rfl, rfl, rfl⟩ | ⟨rfl, h1, h2, rfl, rfl, rfl⟩ | ⟨rfl, h1, h2, rfl, rfl⟩ | ⟨rfl, ⟨x, rfl, h1⟩, rfl, rfl, rfl⟩ <;>
    rcases c' with ⟨rfl, g1, g2, rfl, rfl, rfl⟩ | ⟨rfl, g1, g2, rfl, rfl, rfl⟩ | ⟨rfl, g1, g2, rfl, rfl⟩ | ⟨rfl, ⟨y, rfl, g1⟩, rfl, rfl, rfl⟩
  · simp only [body1, List.cons_append, List.cons.injEq, true_and, List.append_assoc, List.nil_append] at he
    obtain ⟨e1, e2⟩ := ints_free no125 (by decide) h2 g2 h1 g1 he
    exact ⟨rfl, e1, rfl, rfl, rfl, e2⟩
  · simp only [body1, body2, List.cons_append, List.cons.injEq, true_and, List.append_assoc] at he
    exact absurd he (ints_words h2 g2 h1 g1)
  · simp only [body1, body3, List.cons_append, List.cons.injEq] at he
    exact absurd he.1 d1
  · obtain ⟨u, e⟩ := itW_head g1
    simp only [body1, body4, e, List.cons_append, List.cons.injEq] at he
    exact absurd he.1 d2
  · simp only [body1, body2, List.cons_append, List.cons.injEq, true_and, List.append_assoc] at he
    exact absurd he.symm (ints_words g2 h2 g1 h1)
  · simp only [body2, List.cons_append, List.cons.injEq, true_and, List.append_assoc, List.nil_append] at he
    obtain ⟨e1, e2⟩ := words_free (by decide) h2 g2 h1 g1 he
    exact ⟨rfl, rfl, e1, rfl, rfl, e2⟩
  · simp only [body2, body3, List.cons_append, List.cons.injEq] at he
    exact absurd he.1 d1
  · obtain ⟨u, e⟩ := itW_head g1
    simp only [body2, body4, e, List.cons_append, List.cons.injEq] at he
    exact absurd he.1 d2
  · simp only [body1, body3, List.cons_append, List.cons.injEq] at he
    exact absurd he.1.symm d1
  · simp only [body2, body3, List.cons_append, List.cons.injEq] at he
    exact absurd he.1.symm d1
  · simp only [body3, List.cons_append, List.cons.injEq, true_and, List.append_assoc, List.nil_append] at he
    obtain ⟨e1, e2⟩ := ints_free no93 (by decide) (by simp) (by simp) (fun y hy => by simp at hy; rcases hy with rfl | rfl <;> assumption) (fun y hy => by simp at hy; rcases hy with rfl | rfl <;> assumption) he
    simp only [List.cons.injEq, and_true] at e1
    exact ⟨rfl, rfl, rfl, e1.1, e1.2, e2⟩
  · obtain ⟨u, e⟩ := itW_head g1
    simp only [body3, body4, e, List.cons_append, List.cons.injEq] at he
    exact absurd he.1 d3
  · obtain ⟨u, e⟩ := itW_head h1
    simp only [body1, body4, e, List.cons_append, List.cons.injEq] at he
    exact absurd he.1.symm d2
  · obtain ⟨u, e⟩ := itW_head h1
    simp only [body2, body4, e, List.cons_append, List.cons.injEq] at he
    exact absurd he.1.symm d2
  · obtain ⟨u, e⟩ := itW_head h1
    simp only [body3, body4, e, List.cons_append, List.cons.injEq] at he
    exact absurd he.1.symm d3
  · rw [body4, body4, List.append_assoc, List.append_assoc] at he
    obtain ⟨e1, e2⟩ := itW_free x y _ _ h1 g1 trivial trivial he
    exact ⟨rfl, rfl, by rw [e1], rfl, rfl, by simpa using e2⟩
theorem pred_free {k k' : Int} {a a' : ByteArray} {i i' : List Int} {w w' : List ByteArray} {l l' h h' : Int} {r s : List UInt8} (H : predB k a i w l h = true) (H' : predB k' a' i' w' l' h' = true) (he : predL k a i w l h ++ r = predL k' a' i' w' l' h' ++ s) :
    k = k' ∧ a = a' ∧ i = i' ∧ w = w' ∧ l = l' ∧ h = h' ∧ r = s := by
  have n32 : ¬ nameSign 32 := by unfold nameSign; have : (32 : UInt8).toNat = 32 := rfl; omega
  rw [predL_eq, predL_eq, List.append_assoc, List.append_assoc] at he
  obtain ⟨e1, _, e2⟩ := run_free _ _ (name_signs (predB_is H).1) (name_signs (predB_is H').1) n32 n32 he
  obtain ⟨e3, e4, e5, e6, e7, e8⟩ := body_free H H' e2
  exact ⟨e3, WideShapes.bytes_inj e1, e4, e5, e6, e7, e8⟩
theorem pred_head {k : Int} {a : ByteArray} {i : List Int} {w : List ByteArray} {l h : Int} (H : predB k a i w l h = true) : ∃ c t, predL k a i w l h = c :: t ∧ 97 ≤ c.toNat := by
  obtain ⟨c, t, e, hc⟩ := name_head (predB_is H).1
  exact ⟨c, t ++ 32 :: bodyL k i w l h, by rw [predL_eq, e]; rfl, hc⟩
/-- A tree in form is one of three. -/
inductive Is : Nd → Prop
  | pred {k a i w l h} : predB k a i w l h = true → Is (.mk k a i w l h 1 [])
  | no {x} : chkN x = true → Is (.mk 0 ⟨#[]⟩ [] [] 0 0 2 [x])
  | join {op ks} : op = 3 ∨ op = 4 → 2 ≤ ks.length → (∀ x ∈ ks, chkN x = true) → Is (.mk 0 ⟨#[]⟩ [] [] 0 0 op ks)
theorem chkL_all {l : List Nd} (h : chkL l = true) : ∀ x ∈ l, chkN x = true := by
  induction l with
  | nil => intro x hx; simp at hx
  | cons y l ih =>
    simp only [chkL, Bool.and_eq_true] at h
    intro x hx
    rcases List.mem_cons.1 hx with rfl | hx
    · exact h.1
    · exact ih h.2 x hx
theorem is_of {t : Nd} (h : chkN t = true) : Is t := by
  cases t with
  | mk k a i w l hh op ks =>
    simp only [chkN, Bool.and_eq_true] at h
    obtain ⟨h1, h2⟩ := h
    have hz : ∀ {b : Bool}, (zeroB k a i.length w.length l hh && b) = true → k = 0 ∧ a = ⟨#[]⟩ ∧ i = [] ∧ w = [] ∧ l = 0 ∧ hh = 0 ∧ b = true := fun hb => by
      simp only [zeroB, emptyB, Bool.and_eq_true, decide_eq_true_eq] at hb
      obtain ⟨⟨q1, q2, q3, q4, q5, q6⟩, q7⟩ := hb
      exact ⟨q1, bytes_of_size q2, len_nil q3, len_nil q4, q5, q6, q7⟩
    unfold nodeB at h1
    by_cases o1 : op = 1
    · rw [if_pos o1] at h1
      simp only [Bool.and_eq_true, decide_eq_true_eq] at h1
      subst o1
      rw [len_nil h1.2]
      exact .pred h1.1
    rw [if_neg o1] at h1
    by_cases o2 : op = 2
    · rw [if_pos o2] at h1
      obtain ⟨rfl, rfl, rfl, rfl, rfl, rfl, q⟩ := hz h1
      simp only [decide_eq_true_eq] at q
      obtain ⟨x, rfl⟩ := List.length_eq_one_iff.1 q
      subst o2
      exact .no (chkL_all h2 x List.mem_cons_self)
    rw [if_neg o2] at h1
    by_cases o3 : op = 3 ∨ op = 4
    · rw [if_pos o3] at h1
      obtain ⟨rfl, rfl, rfl, rfl, rfl, rfl, q⟩ := hz h1
      simp only [decide_eq_true_eq] at q
      exact .join o3 q (chkL_all h2)
    · rw [if_neg o3] at h1; cases h1
/-- A kid as it stands in an And. -/
def unitL (x : Nd) : List UInt8 := kidL 3 x
def unitsN (x : Nd) : List Nd := if x.op = 3 then x.kids else [x]
def partsN (x : Nd) : List Nd := if x.op = 4 then x.kids else [x]
theorem brack2 (k : Int) : brack 2 k = brack 3 k := by simp [brack]
theorem kid2 (x : Nd) : kidL 2 x = unitL x := by unfold unitL kidL; rw [brack2]
theorem text_no (x : Nd) : textN (.mk 0 ⟨#[]⟩ [] [] 0 0 2 [x]) = 33 :: unitL x := by
  rw [textN_eq, if_neg (by decide), if_pos rfl, List.map_cons, jl_zero, kid2]; simp [jt]
theorem text_and (ks : List Nd) : textN (.mk 0 ⟨#[]⟩ [] [] 0 0 3 ks) = jl [32, 38, 32] 0 (ks.map unitL) := by
  rw [textN_eq, if_neg (by decide), if_neg (by decide), if_pos rfl]; rfl
theorem text_or (ks : List Nd) : textN (.mk 0 ⟨#[]⟩ [] [] 0 0 4 ks) = jl [32, 124, 32] 0 (ks.map (kidL 4)) := by
  rw [textN_eq, if_neg (by decide), if_neg (by decide), if_neg (by decide), if_pos rfl]
theorem unit_plain {x : Nd} (h3 : x.op ≠ 3) (h4 : x.op ≠ 4) : unitL x = textN x := by
  unfold unitL; exact kidL_no (by simp [brack, h3, h4])
theorem unit_join {x : Nd} (h : x.op = 3 ∨ x.op = 4) : unitL x = 40 :: (textN x ++ [41]) := by
  unfold unitL
  rw [kidL_yes (by rcases h with h | h <;> simp [brack, h])]; rfl
theorem kid4_units {x : Nd} (hx : chkN x = true) : kidL 4 x = jl [32, 38, 32] 0 ((unitsN x).map unitL) := by
  by_cases h3 : x.op = 3
  · rw [kidL_no (by simp [brack, h3])]
    have := is_of hx
    cases this with
    | pred h => simp [Nd.op] at h3
    | no h => simp [Nd.op] at h3
    | join ho _ _ =>
      simp only [Nd.op] at h3
      subst h3
      rw [text_and]; rfl
  · unfold unitsN
    rw [if_neg h3, List.map_cons, jl_zero]
    by_cases h4 : x.op = 4
    · rw [kidL_yes (by simp [brack, h4]), unit_join (Or.inr h4)]; simp [jt]
    · rw [kidL_no (by simp [brack, h3, h4]), unit_plain h3 h4]; simp [jt]
theorem text_parts {x : Nd} (hx : chkN x = true) : textN x = jl [32, 124, 32] 0 ((partsN x).map (kidL 4)) := by
  by_cases h4 : x.op = 4
  · have := is_of hx
    cases this with
    | pred h => simp [Nd.op] at h4
    | no h => simp [Nd.op] at h4
    | join ho _ _ =>
      simp only [Nd.op] at h4
      subst h4
      rw [text_or]; rfl
  · unfold partsN
    rw [if_neg h4, List.map_cons, jl_zero, kidL_no (by simp [brack, h4])]; simp [jt]
theorem join_is {x : Nd} (hx : chkN x = true) (h : x.op = 3 ∨ x.op = 4) : x = .mk 0 ⟨#[]⟩ [] [] 0 0 x.op x.kids ∧ 2 ≤ x.kids.length ∧ ∀ k ∈ x.kids, chkN k = true := by
  cases is_of hx with
  | pred hp => simp [Nd.op] at h
  | no hp => simp [Nd.op] at h
  | join ho h2 h3 => exact ⟨rfl, h2, h3⟩
theorem units_inj {x y : Nd} (hx : chkN x = true) (hy : chkN y = true) (h : unitsN x = unitsN y) : x = y := by
  unfold unitsN at h
  by_cases h1 : x.op = 3 <;> by_cases h2 : y.op = 3
  · rw [if_pos h1, if_pos h2] at h
    rw [(join_is hx (Or.inl h1)).1, (join_is hy (Or.inl h2)).1, h1, h2, h]
  · rw [if_pos h1, if_neg h2] at h
    have := (join_is hx (Or.inl h1)).2.1
    rw [h] at this; simp at this
  · rw [if_neg h1, if_pos h2] at h
    have := (join_is hy (Or.inl h2)).2.1
    rw [← h] at this; simp at this
  · rw [if_neg h1, if_neg h2] at h
    simpa using h
theorem parts_inj {x y : Nd} (hx : chkN x = true) (hy : chkN y = true) (h : partsN x = partsN y) : x = y := by
  unfold partsN at h
  by_cases h1 : x.op = 4 <;> by_cases h2 : y.op = 4
  · rw [if_pos h1, if_pos h2] at h
    rw [(join_is hx (Or.inr h1)).1, (join_is hy (Or.inr h2)).1, h1, h2, h]
  · rw [if_pos h1, if_neg h2] at h
    have := (join_is hx (Or.inr h1)).2.1
    rw [h] at this; simp at this
  · rw [if_neg h1, if_pos h2] at h
    have := (join_is hy (Or.inr h2)).2.1
    rw [← h] at this; simp at this
  · rw [if_neg h1, if_neg h2] at h
    simpa using h
theorem units_ok {x : Nd} (hx : chkN x = true) : unitsN x ≠ [] ∧ (∀ u ∈ unitsN x, chkN u = true) := by
  unfold unitsN
  by_cases h1 : x.op = 3
  · rw [if_pos h1]
    obtain ⟨_, h2, h3⟩ := join_is hx (Or.inl h1)
    exact ⟨fun e => by rw [e] at h2; simp at h2, h3⟩
  · rw [if_neg h1]
    exact ⟨by simp, fun u hu => by simp at hu; rw [hu]; exact hx⟩
theorem parts_ok {x : Nd} (hx : chkN x = true) : partsN x ≠ [] ∧ (∀ u ∈ partsN x, chkN u = true) := by
  unfold partsN
  by_cases h1 : x.op = 4
  · rw [if_pos h1]
    obtain ⟨_, h2, h3⟩ := join_is hx (Or.inr h1)
    exact ⟨fun e => by rw [e] at h2; simp at h2, h3⟩
  · rw [if_neg h1]
    exact ⟨by simp, fun u hu => by simp at hu; rw [hu]; exact hx⟩
theorem kid_size {x k : Nd} (h : k ∈ x.kids) : sizeN k < sizeN x := by
  cases x with
  | mk a b c d e f g ks =>
    have := sizeL_mem (show k ∈ ks from h)
    simp only [sizeN]; omega
theorem units_size {x u : Nd} (h : u ∈ unitsN x) : sizeN u ≤ sizeN x := by
  unfold unitsN at h
  split at h
  · exact Nat.le_of_lt (kid_size h)
  · simp at h; rw [h]; exact Nat.le_refl _
/-- Units smaller than n are told by their text. -/
def UF (n : Nat) : Prop := ∀ x y r s, sizeN x ≤ n → chkN x = true → chkN y = true → unitL x ++ r = unitL y ++ s → x = y ∧ r = s
theorem kid4_free {n : Nat} (H : UF n) (x y : Nd) (r s : List UInt8) (hx : chkN x = true ∧ ∀ u ∈ unitsN x, sizeN u ≤ n) (hy : chkN y = true) (hr : ∀ t, r ≠ [32, 38, 32] ++ t) (hs : ∀ t, s ≠ [32, 38, 32] ++ t) (h : kidL 4 x ++ r = kidL 4 y ++ s) : x = y ∧ r = s := by
  rw [kid4_units hx.1, kid4_units hy] at h
  obtain ⟨h1, h2⟩ := jl_free (f := unitL) (sep := [32, 38, 32]) (A := fun u => chkN u = true ∧ sizeN u ≤ n) (B := fun u => chkN u = true) (P := fun _ => True) (Q := fun r => ∀ t, r ≠ [32, 38, 32] ++ t)
    (fun u v r s hu hv _ _ he => H u v r s hu.2 hu.1 hv he) (fun _ => trivial) (fun _ _ => trivial) (fun t u ht => ht u) (units_ok hx.1).1 (units_ok hy).1 (fun u hu => ⟨(units_ok hx.1).2 u hu, hx.2 u hu⟩) (units_ok hy).2 hr hs h
  exact ⟨units_inj hx.1 hy h1, h2⟩
theorem text_free {n : Nat} (H : UF n) {x y : Nd} {r s : List UInt8} (hx : chkN x = true) (hxs : ∀ p ∈ partsN x, ∀ u ∈ unitsN p, sizeN u ≤ n) (hy : chkN y = true) (hr : r = [] ∨ ∃ t, r = 41 :: t) (hs : s = [] ∨ ∃ t, s = 41 :: t) (h : textN x ++ r = textN y ++ s) : x = y ∧ r = s := by
  rw [text_parts hx, text_parts hy] at h
  have q : ∀ (a b : UInt8) (c t u : List UInt8), (t = [] ∨ ∃ v, t = 41 :: v) → a = 32 → t ≠ (a :: b :: c) ++ u := fun a b c t u ht ha e => by
    rcases ht with ht | ⟨v, ht⟩
    · rw [ht] at e; simp at e
    · rw [ht] at e; simp only [List.cons_append, List.cons.injEq] at e; rw [ha] at e; exact absurd e.1 (by decide)
  obtain ⟨h1, h2⟩ := jl_free (f := kidL 4) (sep := [32, 124, 32]) (A := fun u => chkN u = true ∧ ∀ v ∈ unitsN u, sizeN v ≤ n) (B := fun u => chkN u = true) (P := fun r => ∀ t, r ≠ [32, 38, 32] ++ t) (Q := fun r => r = [] ∨ ∃ t, r = 41 :: t)
    (fun u v r s hu hv hr hs he => kid4_free H u v r s hu hv hr hs he) (fun t u e => by simp at e) (fun t ht u => q _ _ _ t u ht rfl) (fun t u ht => q _ _ _ t u ht rfl) (parts_ok hx).1 (parts_ok hy).1 (fun u hu => ⟨(parts_ok hx).2 u hu, hxs u hu⟩) (parts_ok hy).2 hr hs h
  exact ⟨parts_inj hx hy h1, h2⟩
theorem unit_free : ∀ n, UF n
  | 0 => fun x y r s hx => absurd hx (by cases x; simp only [sizeN]; omega)
  | n + 1 => by
    have H := unit_free n
    intro x y r s hxs hx hy h
    have ltr : ∀ {c : UInt8}, 97 ≤ c.toNat → c ≠ 33 ∧ c ≠ 40 := fun {c} hc => ⟨fun e => by subst e; exact absurd hc (by decide), fun e => by subst e; exact absurd hc (by decide)⟩
    have jn : ∀ {op : Int} {ks : List Nd}, op = 3 ∨ op = 4 → unitL (.mk 0 ⟨#[]⟩ [] [] 0 0 op ks) = 40 :: (textN (.mk 0 ⟨#[]⟩ [] [] 0 0 op ks) ++ [41]) := fun ho => unit_join ho
    have un : ∀ {z : Nd}, unitL (.mk 0 ⟨#[]⟩ [] [] 0 0 2 [z]) = 33 :: unitL z := fun {z} => by
      rw [unit_plain (by simp [Nd.op]) (by simp [Nd.op]), text_no]
    have up : ∀ {k a i w l h}, unitL (.mk k a i w l h 1 []) = predL k a i w l h := fun {k a i w l h} => by
      rw [unit_plain (by simp [Nd.op]) (by simp [Nd.op]), textN_eq, if_pos rfl]
    cases is_of hx with
    | pred h1 =>
      obtain ⟨c, t, e1, hc⟩ := pred_head h1
      cases is_of hy with
      | pred h2 =>
        rw [up, up] at h
        obtain ⟨rfl, rfl, rfl, rfl, rfl, rfl, e⟩ := pred_free h1 h2 h
        exact ⟨rfl, e⟩
      | no h2 =>
        rw [up, un, e1] at h
        simp only [List.cons_append, List.cons.injEq] at h
        exact absurd h.1 (ltr hc).1
      | join ho _ _ =>
        rw [up, jn ho, e1] at h
        simp only [List.cons_append, List.cons.injEq] at h
        exact absurd h.1 (ltr hc).2
    | no h1 =>
      rename_i z
      cases is_of hy with
      | pred h2 =>
        obtain ⟨c, t, e1, hc⟩ := pred_head h2
        rw [up, un, e1] at h
        simp only [List.cons_append, List.cons.injEq] at h
        exact absurd h.1.symm (ltr hc).1
      | no h2 =>
        rw [un, un] at h
        simp only [List.cons_append, List.cons.injEq, true_and] at h
        have hz : sizeN z ≤ n := by
          simp only [sizeN, sizeL] at hxs; omega
        obtain ⟨rfl, e⟩ := H _ _ r s hz h1 h2 h
        exact ⟨rfl, e⟩
      | join ho _ _ =>
        rw [un, jn ho] at h
        simp only [List.cons_append, List.cons.injEq] at h
        exact absurd h.1 (by decide)
    | join ho hl hk =>
      rename_i op ks
      cases is_of hy with
      | pred h2 =>
        obtain ⟨c, t, e1, hc⟩ := pred_head h2
        rw [up, jn ho, e1] at h
        simp only [List.cons_append, List.cons.injEq] at h
        exact absurd h.1.symm (ltr hc).2
      | no h2 =>
        rw [un, jn ho] at h
        simp only [List.cons_append, List.cons.injEq] at h
        exact absurd h.1 (by decide)
      | join ho2 _ _ =>
        rw [jn ho, jn ho2] at h
        simp only [List.cons_append, List.cons.injEq, true_and, List.append_assoc, List.nil_append] at h
        have hsz : ∀ p ∈ partsN (.mk 0 ⟨#[]⟩ [] [] 0 0 op ks), ∀ u ∈ unitsN p, sizeN u ≤ n := by
          intro p hp u hu
          have key : sizeN u < sizeN (.mk 0 ⟨#[]⟩ [] [] 0 0 op ks) := by
            unfold partsN at hp
            by_cases o4 : op = 4
            · rw [if_pos (by simpa [Nd.op] using o4)] at hp
              exact Nat.lt_of_le_of_lt (units_size hu) (kid_size hp)
            · have o3 : op = 3 := by rcases ho with ho | ho; exact ho; exact absurd ho o4
              rw [if_neg (by simpa [Nd.op] using o4)] at hp
              simp only [List.mem_singleton] at hp
              subst hp
              unfold unitsN at hu
              rw [if_pos (by simpa [Nd.op] using o3)] at hu
              exact kid_size hu
          omega
        obtain ⟨e1, e2⟩ := text_free H hx hsz hy (Or.inr ⟨r, rfl⟩) (Or.inr ⟨s, rfl⟩) h
        exact ⟨e1, by simpa using e2⟩
/-- Trees in form with one text are the same. -/
theorem text_inj {x y : Nd} (hx : chkN x = true) (hy : chkN y = true) (h : textN x = textN y) : x = y := by
  refine (text_free (unit_free (sizeN x)) (r := []) (s := []) hx (fun p hp u hu => ?_) hy (Or.inl rfl) (Or.inl rfl) (by simpa using h)).1
  refine Nat.le_trans (units_size hu) ?_
  unfold partsN at hp
  split at hp
  · exact Nat.le_of_lt (kid_size hp)
  · simp at hp; rw [hp]; exact Nat.le_refl _
/-- How long a text may be. -/
theorem jl_len {α : Type} {f : α → List UInt8} {g : α → Nat} {sep : List UInt8} : ∀ (l : List α) (i : Nat), (∀ x ∈ l, (f x).length + sep.length ≤ g x) → (jl sep i (l.map f)).length ≤ (l.map g).sum
  | [], i, _ => by simp [jl]
  | x :: l, i, h => by
    have h1 := h x List.mem_cons_self
    have h2 := jl_len l (i + 1) fun y hy => h y (List.mem_cons_of_mem _ hy)
    simp only [List.map_cons, jl, List.length_append, List.sum_cons]
    split
    · omega
    · simp only [List.length_nil]; omega
theorem itI_len (n : Int) : (itI n).length ≤ 21 := by
  by_cases h : numOk n = true
  · rw [itI_eq h]
    unfold numOk at h
    simp only [Bool.and_eq_true, decide_eq_true_eq] at h
    exact Lib.itoa_length_le n (by omega) (by omega)
  · unfold itI textB
    rw [chk_num, if_neg h]; simp
theorem itW_len (s : ByteArray) : (itW s).length ≤ 4 * s.size + 2 := by
  by_cases h : wordOk s = true
  · rw [itW_eq h]
    have := escs_le s.data.toList
    simp only [quoteL, List.cons_append, List.length_cons, List.length_append, List.length_nil]
    rw [bytes_len] at this
    omega
  · unfold itW textB
    rw [chk_word, if_neg h]; simp
theorem sum_ints (l : List Int) : (l.map fun _ => 23).sum = 23 * l.length := by
  induction l with
  | nil => rfl
  | cons x l ih => simp only [List.map_cons, List.sum_cons, ih, List.length_cons]; omega
theorem sum_words (l : List ByteArray) : (l.map fun s => 4 * s.size + 4).sum ≤ 4 * wordsWt l := by
  induction l with
  | nil => simp
  | cons x l ih => simp only [List.map_cons, List.sum_cons, wordsWt]; omega
theorem pred_len (k : Int) (a : ByteArray) (i : List Int) (w : List ByteArray) (l h : Int) : (predL k a i w l h).length ≤ a.size + 50 + 23 * i.length + 4 * wordsWt w := by
  have hi := jl_len (f := itI) (g := fun _ => 23) (sep := [44, 32]) i 0 (fun x _ => by have := itI_len x; simp only [List.length_cons, List.length_nil]; omega)
  have hlh := jl_len (f := itI) (g := fun _ => 23) (sep := [44, 32]) [l, h] 0 (fun x _ => by have := itI_len x; simp only [List.length_cons, List.length_nil]; omega)
  have hw := jl_len (f := itW) (g := fun s => 4 * s.size + 4) (sep := [44, 32]) w 0 (fun x _ => by have := itW_len x; simp only [List.length_cons, List.length_nil]; omega)
  rw [sum_ints] at hi hlh
  have hs := sum_words w
  rw [predL_eq, List.length_append, bytes_len, List.length_cons]
  unfold bodyL
  split
  · simp only [List.length_append, List.length_cons, List.length_nil]; omega
  split
  · simp only [List.length_append, List.length_cons, List.length_nil]; omega
  split
  · simp only [List.length_append, List.length_cons, List.length_nil] at hlh ⊢; omega
  split
  · simp only [List.length_append, List.length_cons, List.length_nil]; omega
  · simp only [List.length_nil]; omega
theorem sum_wt : ∀ (l : List Nd), (l.map fun x => 70 * wtN x).sum = 70 * wtL l
  | [] => rfl
  | x :: l => by simp only [List.map_cons, List.sum_cons, wtL, sum_wt l]; omega
theorem text_len : ∀ t, (textN t).length + 10 ≤ 70 * wtN t := by
  apply Nd.ind
  intro k a i w l h op ks ih
  have kid : ∀ (o : Int) (x : Nd), x ∈ ks → (kidL o x).length + 3 ≤ 70 * wtN x := fun o x hx => by
    have := ih x hx
    unfold kidL wrapB
    split
    · simp only [List.length_append, List.length_cons, List.length_nil]; omega
    · omega
  have kids : ∀ (o : Int) (sep : List UInt8), sep.length ≤ 3 → (jl sep 0 (ks.map (kidL o))).length ≤ 70 * wtL ks := fun o sep hs => by
    rw [← sum_wt]
    exact jl_len ks 0 fun x hx => by have := kid o x hx; omega
  have hp := pred_len k a i w l h
  rw [textN_eq]
  simp only [wtN]
  split
  · omega
  split
  · have := kids 2 [] (by decide)
    simp only [List.length_append, List.length_cons, List.length_nil]; omega
  split
  · have := kids 3 [32, 38, 32] (by decide); omega
  split
  · have := kids 4 [32, 124, 32] (by decide); omega
  · simp only [List.length_nil]; omega
end Go.Proofs.YtencibjmiphinaaGreatDoor
