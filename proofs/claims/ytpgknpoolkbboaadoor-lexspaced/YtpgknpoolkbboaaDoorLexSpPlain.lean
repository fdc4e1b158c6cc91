/- Tokens that are written with blanks between are the same tokens. -/
import Derived.Test.YtpgknpoolkbboaaDoorLexToGo
namespace Go.Proofs.YtpgknpoolkbboaaDoor
open Go.RowKit

theorem blank_cases {c : Int} (h : isBlank c = true) : c = 32 ∨ c = 9 ∨ c = 10 ∨ c = 13 := by
  unfold isBlank at h
  simp only [Bool.or_eq_true, beq_iff_eq] at h
  omega
theorem blank_notName {c : Int} (h : isBlank c = true) : okB c = false := by
  rcases blank_cases h with rfl | rfl | rfl | rfl <;> decide
theorem blank_notDig {c : Int} (h : isBlank c = true) : isDig c = false := by
  rcases blank_cases h with rfl | rfl | rfl | rfl <;> decide
/-- A rest that begins with a blank, or is empty. -/
def Parted (r : List UInt8) : Prop := ∀ c r', r = c :: r' → isBlank (c.toNat : Int) = true
theorem Parted.rl {p : Int → Bool} {r : List UInt8} (h : Parted r) (hp : ∀ c, isBlank c = true → p c = false) : rl p r = 0 := by
  cases r with
  | nil => rfl
  | cons c r => exact rl_no (hp _ (h c r rfl))
theorem rl_full {p : Int → Bool} {l r : List UInt8} (h : rl p l = l.length) (hr : rl p r = 0) : rl p (l ++ r) = l.length := by
  have hm := rl_mem (p := p) l
  rw [h, List.take_length] at hm
  rw [rl_app l r hm, hr]; rfl
theorem take_len_app (l r : List UInt8) : (l ++ r).take l.length = l := by simp
theorem tokL_app {l : List UInt8} {k : Int} {n : Nat} {v : Int} {t : ByteArray} (h : tokL l = some (k, n, v, t)) (hn : n = l.length) (r : List UInt8) (hr : Parted r) : tokL (l ++ r) = some (k, n, v, t) := by
  cases l with
  | nil => simp [tokL] at h
  | cons c l =>
    rw [List.cons_append]
    cases hL : isLet (c.toNat : Int) with
    | true =>
      cases hx : nameOk ⟨((c :: l).take (rl okB (c :: l))).toArray⟩ with
      | false => rw [tokL_noname hL hx] at h; cases h
      | true =>
        rw [tokL_name hL hx] at h
        cases h
        have e : rl okB (c :: (l ++ r)) = rl okB (c :: l) := by
          rw [← List.cons_append, rl_full hn (hr.rl fun _ => blank_notName), hn]
        have e2 : (c :: (l ++ r)).take (rl okB (c :: l)) = (c :: l).take (rl okB (c :: l)) := by
          rw [hn, List.take_length, ← List.cons_append, take_len_app]
        rw [tokL_name hL (by rw [e, e2]; exact hx), e, e2]
    | false =>
      cases hN : (c == 45 || isDig (c.toNat : Int)) with
      | true =>
        cases hq : pv ((c :: l).take (rl isDig l + 1)) with
        | none => rw [tokL_nonum hL hN hq] at h; cases h
        | some q =>
          rw [tokL_num hL hN hq] at h
          cases h
          have hl : rl isDig l = l.length := by simpa using hn
          have e : rl isDig (l ++ r) = rl isDig l := by rw [rl_full hl (hr.rl fun _ => blank_notDig), hl]
          have e2 : (c :: (l ++ r)).take (rl isDig l + 1) = (c :: l).take (rl isDig l + 1) := by
            rw [hn, List.take_length, ← List.cons_append, take_len_app]
          rw [tokL_num (q := q) hL hN (by rw [e, e2]; exact hq), e]
      | false =>
        cases hM : (c == 34) with
        | true =>
          cases hw : wl false l with
          | none => rw [tokL_noend hL hN hM hw] at h; cases h
          | some n' =>
            cases hq : pv ((c :: l).take (n' + 1)) with
            | none => rw [tokL_noword hL hN hM hw hq] at h; cases h
            | some q =>
              rw [tokL_word hL hN hM hw hq] at h
              cases h
              have e2 : (c :: (l ++ r)).take (n' + 1) = (c :: l).take (n' + 1) := by
                rw [hn, List.take_length, ← List.cons_append, take_len_app]
              exact tokL_word (q := q) hL hN hM (wl_app _ _ _ _ hw) (by rw [e2]; exact hq)
        | false =>
          cases hS : isSign c with
          | false => rw [tokL_nosign hL hN hM hS] at h; cases h
          | true =>
            rw [tokL_sign hL hN hM hS] at h
            rw [tokL_sign hL hN hM hS]
            exact h
/-- The text of a token, alone. -/
def Wr (x : Tok) (wr : List UInt8) : Prop := tokL wr = some (x.1, wr.length, x.2.2.2.1, x.2.2.2.2)
/-- The blank that a number stands for. -/
def blk4 (b : Int) : UInt8 := if b = 0 then 32 else if b = 1 then 9 else if b = 2 then 10 else 13
theorem blk4_blank (b : Int) : isBlank ((blk4 b).toNat : Int) = true := by
  unfold blk4
  split
  · decide
  · split
    · decide
    · split <;> decide
/-- What stands ahead of the i-th token. -/
def sepL (bl : List Int) (i : Nat) : List UInt8 := (if 0 < i then [32] else []) ++ (match bl[i]? with | some b => [blk4 b] | none => [])
def spc (bl : List Int) : Nat → List (List UInt8) → List UInt8
  | _, [] => []
  | i, x :: xs => sepL bl i ++ x ++ spc bl (i + 1) xs
theorem sepL_blank (bl : List Int) (i : Nat) : ∀ c ∈ sepL bl i, isBlank (c.toNat : Int) = true := by
  intro c hc
  unfold sepL at hc
  rcases List.mem_append.1 hc with h | h
  · split at h
    · have : c = 32 := by simpa using h
      subst this; decide
    · simp at h
  · split at h
    · rename_i b _
      have : c = blk4 b := by simpa using h
      subst this; exact blk4_blank b
    · simp at h
theorem spc_parted (bl : List Int) (i : Nat) (hi : 0 < i) (xs : List (List UInt8)) : Parted (spc bl i xs) := by
  cases xs with
  | nil => intro c r h; simp [spc] at h
  | cons x xs =>
    intro c r h
    have h1 : sepL bl i = 32 :: (match bl[i]? with | some b => [blk4 b] | none => []) := by unfold sepL; rw [if_pos hi]; rfl
    unfold spc at h
    rw [h1] at h
    simp only [List.cons_append, List.cons.injEq] at h
    rw [← h.1]; decide
theorem wr_head {x : Tok} {wr : List UInt8} (h : Wr x wr) : ∀ r, rl isBlank (wr ++ r) = 0 ∧ 0 < wr.length := by
  intro r
  unfold Wr at h
  have hl := tokL_len h
  cases wr with
  | nil => simp [tokL] at h
  | cons c l =>
    refine ⟨?_, by simp⟩
    rw [List.cons_append]
    apply rl_no
    cases hb : isBlank (c.toNat : Int) with
    | false => rfl
    | true =>
      have hs : isLet (c.toNat : Int) = false ∧ (c == 45 || isDig (c.toNat : Int)) = false ∧ (c == 34) = false ∧ isSign c = false := by
        have : c = 32 ∨ c = 9 ∨ c = 10 ∨ c = 13 := by
          rcases blank_cases hb with h | h | h | h
          · exact Or.inl (UInt8.toNat_inj.1 (by have e : (32 : UInt8).toNat = 32 := rfl; omega))
          · exact Or.inr (Or.inl (UInt8.toNat_inj.1 (by have e : (9 : UInt8).toNat = 9 := rfl; omega)))
          · exact Or.inr (Or.inr (Or.inl (UInt8.toNat_inj.1 (by have e : (10 : UInt8).toNat = 10 := rfl; omega))))
          · exact Or.inr (Or.inr (Or.inr (UInt8.toNat_inj.1 (by have e : (13 : UInt8).toNat = 13 := rfl; omega))))
        rcases this with rfl | rfl | rfl | rfl <;> decide
      rw [tokL_nosign hs.1 hs.2.1 hs.2.2.1 hs.2.2.2] at h
      cases h
/-- Two lists of the same length, place by place. -/
inductive Each : List Tok → List (List UInt8) → Prop
  | nil : Each [] []
  | cons {x y xs ys} : Wr x y → Each xs ys → Each (x :: xs) (y :: ys)
theorem spc_toks (bl : List Int) : ∀ (xs : List Tok) (ys : List (List UInt8)) (i j : Nat), Each xs ys → ∃ zs, toksL (spc bl i ys) j = (zs, none) ∧ xs.map strip = zs.map strip := by
  intro xs
  induction xs with
  | nil =>
    intro ys i j h
    cases h
    exact ⟨[], toksL_end (by simp [spc]), rfl⟩
  | cons x xs ih =>
    intro ys i j h
    cases h with
    | cons hx hxs =>
      rename_i y ys
      have hd := wr_head hx (spc bl (i + 1) ys)
      have hr : rl isBlank (spc bl i (y :: ys)) = (sepL bl i).length := by
        show rl isBlank (sepL bl i ++ y ++ spc bl (i + 1) ys) = _
        rw [List.append_assoc, rl_app _ _ (sepL_blank bl i), hd.1]; rfl
      have hdrop : (spc bl i (y :: ys)).drop (sepL bl i).length = y ++ spc bl (i + 1) ys := by
        show (sepL bl i ++ y ++ spc bl (i + 1) ys).drop _ = _
        rw [List.append_assoc]; simp
      have ht : tokL ((spc bl i (y :: ys)).drop (rl isBlank (spc bl i (y :: ys)))) = some (x.1, y.length, x.2.2.2.1, x.2.2.2.2) := by
        rw [hr, hdrop]
        exact tokL_app hx rfl _ (spc_parted bl (i + 1) (by omega) ys)
      have hne : ¬ (spc bl i (y :: ys)).length ≤ rl isBlank (spc bl i (y :: ys)) := by
        rw [hr]
        show ¬ (sepL bl i ++ y ++ spc bl (i + 1) ys).length ≤ _
        have := hd.2
        simp only [List.length_append]; omega
      obtain ⟨zs, hz, hs⟩ := ih ys (i + 1) (j + rl isBlank (spc bl i (y :: ys)) + y.length) hxs
      have hdd : ((spc bl i (y :: ys)).drop (rl isBlank (spc bl i (y :: ys)))).drop y.length = spc bl (i + 1) ys := by
        rw [hr, hdrop]; simp
      rw [toksL_step hne ht, hdd, hz]
      refine ⟨_, rfl, ?_⟩
      simp only [List.map_cons, hs]
      rfl
end Go.Proofs.YtpgknpoolkbboaaDoor
