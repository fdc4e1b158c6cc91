/- The loose reading of a quoted text: the plain function, and that it undoes Quote. -/
import Derived.Test.YtpgknpoolkbboaaDoorUnquote
namespace Go.Proofs.YtpgknpoolkbboaaDoor
open Go.RowKit

/-- A hexadecimal digit's number, else 0. -/
def dig (c : UInt8) : UInt8 := if 0 ≤ idx c then UInt8.ofNat (idx c).toNat else 0
/-- The loose reading of what is left, the closing mark with it. -/
def lo : Nat → List UInt8 → List UInt8
  | 0, _ => []
  | f + 1, c0 :: c1 :: r =>
    if c0 = 92 then
      match r with
      | c2 :: c3 :: r4 => if c1 = 120 then (dig c2 * 16 + dig c3) :: lo f r4 else c1 :: lo f r
      | _ => c1 :: lo f r
    else c0 :: lo f (c1 :: r)
  | _ + 1, _ => []
theorem dig_parts (c : UInt8) : dig (hexd (c.toNat / 16)) * 16 + dig (hexd (c.toNat % 16)) = c := by
  have := all_bytes (p := fun c => decide (dig (hexd (c.toNat / 16)) * 16 + dig (hexd (c.toNat % 16)) = c)) (by decide +kernel) c
  simpa using this
theorem lo_esc (f : Nat) (c d : UInt8) (r : List UInt8) : lo (f + 1) (esc c ++ (d :: r)) = c :: lo f (d :: r) := by
  cases hn : needs c
  · cases hp : prints c
    · have he : esc c = [92, 120, hexd (c.toNat / 16), hexd (c.toNat % 16)] := by unfold esc; rw [if_neg (by simp [hn]), if_neg (by simp [hp])]
      rw [he]
      simp only [List.cons_append, List.nil_append, lo, if_pos]
      rw [dig_parts]
    · have he : esc c = [c] := by unfold esc; rw [if_neg (by simp [hn]), if_pos hp]
      have hc : c ≠ 92 := fun h => by subst h; rw [needs_92] at hn; simp at hn
      rw [he]
      simp only [List.cons_append, List.nil_append, lo, if_neg hc]
  · have he : esc c = [92, c] := by unfold esc; rw [if_pos hn]
    have hc : c ≠ 120 := fun h => by subst h; rw [needs_120] at hn; simp at hn
    rw [he]
    cases r with
    | nil => simp only [List.cons_append, List.nil_append, lo, if_pos]
    | cons a r => simp only [List.cons_append, List.nil_append, lo, if_pos, if_neg hc]
theorem lo_escs : ∀ (t : List UInt8) (f : Nat), t.length < f → lo f (escs t ++ [34]) = t
  | [], f + 1, _ => by simp [escs, lo]
  | c :: t, f + 1, h => by
    rw [escs_cons, List.append_assoc]
    obtain ⟨d, r, hd⟩ : ∃ d r, escs t ++ [34] = d :: r := by
      cases h : escs t ++ [34] with
      | nil => simp at h
      | cons d r => exact ⟨d, r, rfl⟩
    rw [hd, lo_esc, ← hd, lo_escs t f (by simp at h; omega)]
theorem lo_plain (f : Nat) {c0 : UInt8} (c1 : UInt8) (r : List UInt8) (h : c0 ≠ 92) : lo (f + 1) (c0 :: c1 :: r) = c0 :: lo f (c1 :: r) := by
  match r with
  | [] => simp [lo, h]
  | [_] => simp [lo, h]
  | _ :: _ :: _ => simp [lo, h]
theorem lo_hex (f : Nat) (c2 c3 : UInt8) (r : List UInt8) : lo (f + 1) (92 :: 120 :: c2 :: c3 :: r) = (dig c2 * 16 + dig c3) :: lo f r := by rw [lo, if_pos rfl]; rfl
theorem lo_pair (f : Nat) {c1 : UInt8} {r : List UInt8} (h : ¬ (c1 = 120 ∧ 2 ≤ r.length)) : lo (f + 1) (92 :: c1 :: r) = c1 :: lo f r := by
  match r, h with
  | [], _ => simp [lo]
  | [a], _ => simp [lo]
  | c2 :: c3 :: r4, h =>
    have hx : c1 ≠ 120 := fun e => h ⟨e, by simp⟩
    rw [lo, if_pos rfl]
    simp only [if_neg hx]
/-- Enough rounds are enough. -/
theorem lo_more : ∀ (f : Nat) (r : List UInt8), r.length ≤ f → lo (f + 1) r = lo f r
  | 0, [], _ => rfl
  | 0, _ :: _, h => by simp at h
  | f + 1, [], _ => rfl
  | f + 1, [_], _ => rfl
  | f + 1, c0 :: c1 :: r, h => by
    simp only [List.length_cons] at h
    by_cases h92 : c0 = 92
    · subst h92
      by_cases hx : c1 = 120 ∧ 2 ≤ r.length
      · obtain ⟨rfl, hl⟩ := hx
        match r, hl, h with
        | c2 :: c3 :: r4, _, h =>
          simp only [List.length_cons] at h
          rw [lo_hex, lo_hex, lo_more f r4 (by omega)]
        | [], hl, _ => simp at hl
        | [_], hl, _ => simp at hl
      · rw [lo_pair _ hx, lo_pair _ hx, lo_more f r (by omega)]
    · rw [lo_plain _ _ _ h92, lo_plain _ _ _ h92, lo_more f (c1 :: r) (by simp; omega)]
/-- The loose reading, with as many rounds as it has bytes. -/
def loL (r : List UInt8) : List UInt8 := lo r.length r
theorem lo_enough : ∀ (k : Nat) (r : List UInt8), lo (r.length + k) r = loL r
  | 0, r => rfl
  | k + 1, r => by rw [← Nat.add_assoc, lo_more _ _ (by omega), lo_enough k r]
theorem lo_len : ∀ (f : Nat) (r : List UInt8), (lo f r).length ≤ r.length
  | 0, r => by simp [lo]
  | f + 1, [] => by simp [lo]
  | f + 1, [_] => by simp [lo]
  | f + 1, c0 :: c1 :: r => by
    by_cases h92 : c0 = 92
    · subst h92
      by_cases hx : c1 = 120 ∧ 2 ≤ r.length
      · obtain ⟨rfl, hl⟩ := hx
        match r, hl with
        | c2 :: c3 :: r4, _ => have := lo_len f r4; rw [lo_hex]; simp; omega
        | [], hl => simp at hl
        | [_], hl => simp at hl
      · have := lo_len f r; rw [lo_pair _ hx]; simp; omega
    · have := lo_len f (c1 :: r); rw [lo_plain _ _ _ h92]; simp at this ⊢; omega
theorem loL_plain {c0 c1 : UInt8} {r : List UInt8} (h : c0 ≠ 92) : loL (c0 :: c1 :: r) = c0 :: loL (c1 :: r) := by
  unfold loL; rw [List.length_cons, lo_plain _ _ _ h]
theorem loL_hex {c2 c3 : UInt8} {r : List UInt8} : loL (92 :: 120 :: c2 :: c3 :: r) = (dig c2 * 16 + dig c3) :: loL r := by
  conv => lhs; unfold loL
  rw [List.length_cons, lo_hex]
  congr 1
  exact lo_enough 3 r
theorem loL_pair {c1 : UInt8} {r : List UInt8} (h : ¬ (c1 = 120 ∧ 2 ≤ r.length)) : loL (92 :: c1 :: r) = c1 :: loL r := by
  conv => lhs; unfold loL
  rw [List.length_cons, lo_pair _ h]
  congr 1
  exact lo_enough 1 r
theorem loL_short {r : List UInt8} (h : r.length < 2) : loL r = [] := by
  match r, h with
  | [], _ => rfl
  | [_], _ => rfl
  | _ :: _ :: _, h => simp only [List.length_cons] at h; omega
theorem loose_quote (t : List UInt8) : loL ((quoteL t).drop 1) = t := by
  unfold quoteL loL
  simp only [List.cons_append, List.drop_succ_cons, List.drop_zero]
  exact lo_escs t _ (by have := escs_ge t; simp; omega)
end Go.Proofs.YtpgknpoolkbboaaDoor
