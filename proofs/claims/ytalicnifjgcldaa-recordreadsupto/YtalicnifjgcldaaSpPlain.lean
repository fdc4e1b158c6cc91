/- A record with one byte of its body or sum turned is none: plain. -/
import Derived.Test.YtalicnifjgcldaaEqC
namespace Go.Proofs.Ytalicnifjgcldaa

theorem four_inj {s t : Nat} (hs : s < 4294967296) (ht : t < 4294967296) (h : four s = four t) : s = t := by
  unfold four at h
  simp only [List.cons.injEq, and_true] at h
  obtain ⟨h0, h1, h2, h3⟩ := h
  have e0 := congrArg UInt8.toNat h0
  have e1 := congrArg UInt8.toNat h1
  have e2 := congrArg UInt8.toNat h2
  have e3 := congrArg UInt8.toNat h3
  simp only [toNat_of] at e0 e1 e2 e3
  omega
theorem set_parts {l : List UInt8} {k : Nat} (h : k < l.length) (y : UInt8) : l = l.take k ++ l[k] :: l.drop (k + 1) ∧ l.set k y = l.take k ++ y :: l.drop (k + 1) := by
  refine ⟨?_, ?_⟩
  · rw [← List.drop_eq_getElem_cons h, List.take_append_drop]
  · rw [List.set_eq_take_append_cons_drop, if_pos h]
theorem sum_set {l : List UInt8} {k : Nat} (h : k < l.length) {y : UInt8} (hy : y ≠ l[k]) : sumB (l.set k y) ≠ sumB l := by
  obtain ⟨h1, h2⟩ := set_parts h y
  intro e
  rw [h2] at e
  rw [show sumB l = sumB (l.take k ++ l[k] :: l.drop (k + 1)) by rw [← h1]] at e
  exact hy (sum_turn _ _ _ _ e)
/-- What stands in a record. -/
theorem rec_parts (b : List UInt8) : recB b = (67 :: (vint b.length ++ b)) ++ four (sumB (67 :: (vint b.length ++ b))) := rfl
theorem spoilt {b : List UInt8} {k : Nat} {y : UInt8} (hb : b.length < 4398046511104) (hk1 : 1 + (vint b.length).length ≤ k) (hk2 : k < (recB b).length) (hy : y ≠ (recB b)[k]) : recS ((recB b).set k y) = none := by
  obtain ⟨p, hp⟩ : ∃ p, 67 :: (vint b.length ++ b) = p := ⟨_, rfl⟩
  have hpl : p.length = 1 + (vint b.length).length + b.length := by rw [← hp]; simp; omega
  have hR : recB b = p ++ four (sumB p) := by rw [rec_parts, hp]
  have hRl : (recB b).length = p.length + 4 := by rw [hR]; simp [four_len]
  obtain ⟨l, hl⟩ : ∃ l, (recB b).set k y = l := ⟨_, rfl⟩
  rw [hl]
  have hll : l.length = p.length + 4 := by rw [← hl]; simp [hRl]
  have hget : ∀ j, j < k → l[j]? = (recB b)[j]? := fun j hj => by rw [← hl, List.getElem?_set_ne (by omega)]
  have hpre : l = 67 :: (vint b.length ++ l.drop (1 + (vint b.length).length)) := by
    apply List.ext_getElem?
    intro j
    by_cases hj : j < 1 + (vint b.length).length
    · rw [hget j (by omega), hR, ← hp]
      cases j with
      | zero => rfl
      | succ j =>
        simp only [List.cons_append, List.getElem?_cons_succ]
        rw [List.getElem?_append_left (by simp; omega), List.getElem?_append_left (by omega), List.getElem?_append_left (by omega)]
    · cases j with
      | zero => omega
      | succ j =>
        simp only [List.getElem?_cons_succ]
        rw [List.getElem?_append_right (by omega), List.getElem?_drop]
        congr 1
        omega
  have hv : recV l = (b.length, 1 + (vint b.length).length, false) := mark_read hpre hb
  cases hrec : recS l with
  | none => rfl
  | some x =>
    exfalso
    unfold recS at hrec
    rw [hv] at hrec
    simp only at hrec
    split at hrec
    · rename_i hh
      obtain ⟨_, _, hse⟩ := hh
      rw [← hpl] at hse
      obtain ⟨_, _, h4, _⟩ := sealS_ok hse
      by_cases hkp : k < p.length
      · have hl1 : l = p.set k y ++ four (sumB p) := by rw [← hl, hR, List.set_append_left _ _ hkp]
        have hpl2 : (p.set k y).length = p.length := by simp
        rw [← hpl2, take_pre hl1, drop_pre hl1, show (four (sumB p)).take 4 = four (sumB p) from rfl] at h4
        have hyk : y ≠ p[k] := by
          have : (recB b)[k] = p[k] := by simp [hR, List.getElem_append_left hkp]
          rw [this] at hy; exact hy
        exact sum_set hkp hyk (four_inj (sumB_lt _) (sumB_lt _) h4).symm
      · have hl1 : l = p ++ (four (sumB p)).set (k - p.length) y := by rw [← hl, hR, List.set_append_right _ _ (by omega)]
        rw [take_pre hl1, drop_pre hl1, List.take_of_length_le (by simp [four_len])] at h4
        have hkl : k - p.length < (four (sumB p)).length := by rw [four_len]; omega
        have e := congrArg (fun z : List UInt8 => z[k - p.length]?) h4
        rw [List.getElem?_set_self hkl, List.getElem?_eq_getElem hkl] at e
        injection e with e
        have : (recB b)[k] = (four (sumB p))[k - p.length] := by simp [hR, List.getElem_append_right (show p.length ≤ k by omega)]
        rw [this] at hy
        exact hy e
    · cases hrec
theorem spoilt_one {c : Ch} {k : Nat} {y : UInt8} (hc : MayB c) (hk1 : 1 + (vint (bodyB c).length).length ≤ k) (hk2 : k < (oneB c).length) (hy : y ≠ (oneB c)[k]) : decS ((oneB c).set k y) = none := by
  have hb := body_len c hc
  unfold decS
  rw [show recS ((oneB c).set k y) = none from spoilt (b := bodyB c) (by omega) hk1 hk2 hy]
/-- The second byte tells how long the number behind the mark is. -/
theorem one_second {c : Ch} (hc : MayB c) : ∃ (y : UInt8) (s : Nat), (oneB c)[1]? = some y ∧ s = 1 + (vint (bodyB c).length).length ∧ ((y.toNat < 128 ∧ s = 2) ∨ (¬ y.toNat < 128 ∧ s = 3)) ∧ s + 4 < (oneB c).length := by
  have hb := body_len c hc
  have hpos : 0 < (bodyB c).length := by simp [bodyB]
  have hR : oneB c = 67 :: (vint (bodyB c).length ++ (bodyB c ++ four (sumB (67 :: (vint (bodyB c).length ++ bodyB c))))) := by
    show recB (bodyB c) = _
    rw [rec_parts]; simp
  have hlen : (oneB c).length = 1 + (vint (bodyB c).length).length + (bodyB c).length + 4 := by rw [hR]; simp [four_len]; omega
  by_cases h1 : (bodyB c).length < 128
  · have hv := vint_lt h1
    refine ⟨UInt8.ofNat (bodyB c).length, 2, ?_, by rw [hv]; rfl, .inl ⟨by rw [vint_toNat h1]; exact h1, rfl⟩, ?_⟩
    · rw [hR, hv]; rfl
    · rw [hlen, hv]; simp; omega
  · have hv := vint_ge h1
    have hv2 : vint ((bodyB c).length / 128) = [UInt8.ofNat ((bodyB c).length / 128)] := vint_lt (by omega)
    refine ⟨UInt8.ofNat ((bodyB c).length % 128 + 128), 3, ?_, by rw [hv, hv2]; rfl, .inr ⟨by rw [vint_hi]; omega, rfl⟩, ?_⟩
    · rw [hR, hv]; rfl
    · rw [hlen, hv, hv2]; simp; omega
end Go.Proofs.Ytalicnifjgcldaa
