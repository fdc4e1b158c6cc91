/- Records, bodies and heads: what is read is what is written: plain. -/
import Derived.Test.YtfigjfmldpfjkaaGreatDecP
namespace Go.Proofs.YtfigjfmldpfjkaaGreat

/-- A mark and a number are read. -/
theorem mark_back {l : List UInt8} {k : UInt8} {n a : Nat} (h : varS l 6 0 0 (st1 l 0 false).2.1 ((st1 l 0 false).2.2 || !(((st1 l 0 false).1.toNat : Int) == (k.toNat : Int))) = (n, a, false)) :
    l = k :: (vint n ++ l.drop a) ∧ a = 1 + (vint n).length ∧ n < 4398046511104 := by
  obtain ⟨ht, m, hv, hd, _, ha, hm⟩ := varS_back l _ _ _ _ _ _ _ h
  obtain ⟨s, hs⟩ : ∃ s, st1 l 0 false = s := ⟨_, rfl⟩
  obtain ⟨y, a1, t1⟩ := s
  rw [hs] at ht hd ha
  simp only at ht hd ha
  have ht1 : t1 = false := by cases t1 <;> simp at ht ⊢
  subst ht1
  have hy : y = k := by
    simp at ht
    exact byte_ext (by omega)
  subst hy
  obtain ⟨_, hx, rfl⟩ := st1_false hs
  have hn : n = m := by simpa using hv
  subst hn
  cases l with
  | nil => simp at hx
  | cons x l =>
    simp at hx
    subst hx
    refine ⟨?_, by omega, by simpa using hm⟩
    rw [show List.drop (0 + 1) (x :: l) = l from rfl] at hd
    rw [← hd]
theorem mark_read {l r : List UInt8} {k : UInt8} {n : Nat} (h : l = k :: (vint n ++ r)) (hn : n < 4398046511104) :
    varS l 6 0 0 (st1 l 0 false).2.1 ((st1 l 0 false).2.2 || !(((st1 l 0 false).1.toNat : Int) == (k.toNat : Int))) = (n, 1 + (vint n).length, false) := by
  have hs : st1 l 0 false = (k, 1, false) := st1_yes (by rw [h]; rfl)
  rw [hs]
  simp only [beq_self_eq_true, Bool.not_true, Bool.or_false]
  rw [varS_read l 6 0 0 1 n r (by rw [h]; rfl) (by simpa using hn) (by omega) (fun h => by omega)]
  simp
theorem take_pre {l p r : List UInt8} (h : l = p ++ r) : l.take p.length = p := by rw [h]; simp
theorem drop_pre {l p r : List UInt8} (h : l = p ++ r) : l.drop p.length = r := by rw [h]; simp
/-- A sum is read. -/
theorem seal_back {l p : List UInt8} (hp : l.take p.length = p) (h : (sealS l p.length false).2 = false) : l = sealB p ++ l.drop (p.length + 4) := by
  obtain ⟨_, h1, h2, _⟩ := sealS_ok h
  rw [hp] at h2
  unfold sealB
  rw [← h2]
  have e1 : l = l.take p.length ++ l.drop p.length := (List.take_append_drop _ _).symm
  have e2 : l.drop p.length = (l.drop p.length).take 4 ++ (l.drop p.length).drop 4 := (List.take_append_drop _ _).symm
  rw [List.drop_drop] at e2
  rw [hp] at e1
  rw [List.append_assoc, ← e2, ← e1]
theorem seal_read {l p r : List UInt8} (h : l = sealB p ++ r) : sealS l p.length false = (p.length + 4, false) := by
  unfold sealB at h
  rw [List.append_assoc] at h
  unfold sealS
  rw [if_pos]
  refine ⟨rfl, ?_, ?_⟩
  · rw [h]; simp [four_len]
  · rw [take_pre h, drop_pre h]
    have : (four (sumB p)).length = 4 := rfl
    rw [← this]
    exact List.take_left
theorem recS_back {l b : List UInt8} {a : Nat} (h : recS l = some (b, a)) : l = recB b ++ l.drop a ∧ a = (recB b).length := by
  unfold recS at h
  split at h
  · rename_i hh
    injection h with h
    injection h with hb ha
    obtain ⟨v, hv⟩ : ∃ v, recV l = v := ⟨_, rfl⟩
    obtain ⟨n, a2, t2⟩ := v
    rw [hv] at hh hb ha
    simp only at hh hb ha
    obtain ⟨rfl, hlen, hse⟩ := hh
    obtain ⟨hl, ha2, _⟩ := mark_back hv
    have hbl : b.length = n := by rw [← hb]; simp; omega
    have hd : l.drop a2 = b ++ l.drop (a2 + n) := by
      have := (List.take_append_drop n (l.drop a2)).symm
      rw [hb, List.drop_drop] at this
      exact this
    have hP : l = (67 :: (vint b.length ++ b)) ++ l.drop (a2 + n) := by
      rw [hd] at hl
      rw [hbl]
      simpa using hl
    have hPl : (67 :: (vint b.length ++ b)).length = a2 + n := by simp [hbl]; omega
    have hs := seal_back (l := l) (p := 67 :: (vint b.length ++ b)) (take_pre hP) (by rw [hPl]; exact hse)
    rw [hPl, ha] at hs
    refine ⟨hs, ?_⟩
    unfold recB
    rw [seal_len, hPl, ha]
  · cases h
theorem recS_read {l b r : List UInt8} (h : l = recB b ++ r) (hb : b.length < 4398046511104) : recS l = some (b, (recB b).length) := by
  have h0 := h
  unfold recB at h
  have hs := seal_read h
  have h1 : l = 67 :: (vint b.length ++ (b ++ (four (sumB (67 :: (vint b.length ++ b))) ++ r))) := by
    rw [h]; simp [sealB]
  have hv : recV l = (b.length, 1 + (vint b.length).length, false) := mark_read h1 hb
  have hPl : (67 :: (vint b.length ++ b)).length = 1 + (vint b.length).length + b.length := by simp; omega
  rw [hPl] at hs
  have hd : l.drop (1 + (vint b.length).length) = b ++ (four (sumB (67 :: (vint b.length ++ b))) ++ r) := by
    rw [h1, Nat.add_comm]; simp
  unfold recS
  rw [hv]
  simp only
  rw [if_pos]
  · rw [hd, List.take_left]
    have : (recB b).length = 1 + (vint b.length).length + b.length + 4 := by unfold recB; rw [seal_len, hPl]
    rw [this]
  · refine ⟨trivial, ?_, by rw [hs]⟩
    rw [h0]
    unfold recB
    rw [List.length_append, seal_len, hPl]; omega
theorem body_back {l : List UInt8} (h : bodyOk l = true) : l = bodyB (bodyC l) ∧ MayB (bodyC l) := by
  obtain ⟨v, hv⟩ : ∃ v, varS l 6 0 0 (st1 l 0 false).2.1 (st1 l 0 false).2.2 = v := ⟨_, rfl⟩
  obtain ⟨n, a2, t2⟩ := v
  unfold bodyOk at h
  rw [hv] at h
  simp only [Bool.and_eq_true, decide_eq_true_eq] at h
  obtain ⟨ht, hm⟩ := h
  refine ⟨?_, hm⟩
  have ht2 : t2 = false := by cases t2 <;> simp at ht ⊢
  subst ht2
  obtain ⟨ht1, m, hvm, hd, _, ha, _⟩ := varS_back l _ _ _ _ _ _ _ hv
  obtain ⟨s, hs⟩ : ∃ s, st1 l 0 false = s := ⟨_, rfl⟩
  obtain ⟨y, a1, t1⟩ := s
  have hC : bodyC l = ⟨(y.toNat : Int), (n : Int), ⟨(l.drop a2).toArray⟩⟩ := by unfold bodyC; rw [hv, hs]
  rw [hs] at ht1 hd ha
  simp only at ht1 hd ha
  subst ht1
  obtain ⟨_, hx, rfl⟩ := st1_false hs
  have hn : n = m := by simpa using hvm
  subst hn
  rw [hC]
  unfold bodyB
  simp only [Int.toNat_natCast]
  rw [show UInt8.ofNat y.toNat = y from byte_ext (by rw [toNat_of]; have := y.toNat_lt; omega)]
  cases l with
  | nil => simp at hx
  | cons x l =>
    simp at hx
    subst hx
    rw [show List.drop (0 + 1) (x :: l) = l from rfl] at hd
    rw [← hd]
theorem body_read {c : Ch} (h : MayB c) : bodyOk (bodyB c) = true ∧ bodyC (bodyB c) = c := by
  obtain ⟨kind, id, text⟩ := c
  obtain ⟨⟨h1, h2⟩, h3⟩ := h
  simp only at h1 h2 h3
  have hk : kind = ((kind.toNat : Nat) : Int) := by rcases h3 with h | h <;> omega
  have hkl : kind.toNat < 256 := by rcases h3 with h | h <;> omega
  have hid : id = ((id.toNat : Nat) : Int) := by omega
  obtain ⟨l, hl⟩ : ∃ l, bodyB ⟨kind, id, text⟩ = l := ⟨_, rfl⟩
  have hl2 : l = UInt8.ofNat kind.toNat :: (vint id.toNat ++ text.data.toList) := hl.symm
  have hs : st1 l 0 false = (UInt8.ofNat kind.toNat, 1, false) := st1_yes (by rw [hl2]; rfl)
  have hv := varS_read l 6 0 0 1 id.toNat text.data.toList (by rw [hl2]; rfl) (by have : (128 : Nat) ^ 6 = 4398046511104 := by decide
                                                                                  omega) (by omega) (fun h => by omega)
  rw [hl]
  have hC : bodyC l = ⟨kind, id, text⟩ := by
    unfold bodyC
    rw [hs]
    simp only
    rw [hv]
    simp only [Nat.zero_add, Nat.mul_zero, Nat.pow_zero, Nat.mul_one]
    rw [toNat_of, Nat.mod_eq_of_lt hkl, ← hk, ← hid]
    congr 1
    rw [show l.drop (1 + (vint id.toNat).length) = text.data.toList by rw [hl2, Nat.add_comm]; simp]
  refine ⟨?_, hC⟩
  unfold bodyOk
  rw [hC, hs]
  simp only
  rw [hv]
  simp only [Bool.not_false, Bool.true_and, decide_eq_true_eq]
  exact ⟨⟨h1, h2⟩, h3⟩
/-- Decode finds just the records of changes that may be. -/
theorem decS_back {l : List UInt8} {c : Ch} {n : Nat} (h : decS l = some (c, n)) : MayB c ∧ l = oneB c ++ l.drop n ∧ n = (oneB c).length := by
  unfold decS at h
  cases hr : recS l with
  | none => rw [hr] at h; cases h
  | some x =>
    obtain ⟨b, a⟩ := x
    rw [hr] at h
    simp only at h
    split at h
    · rename_i hok
      injection h with h
      injection h with h1 h2
      obtain ⟨hb, hm⟩ := body_back hok
      obtain ⟨h3, h4⟩ := recS_back hr
      subst h1 h2
      rw [hb] at h3 h4
      exact ⟨hm, h3, h4⟩
    · cases h
theorem decS_read {l r : List UInt8} {c : Ch} (hc : MayB c) (h : l = oneB c ++ r) : decS l = some (c, (oneB c).length) := by
  have hb := body_len c hc
  have hr := recS_read (b := bodyB c) h (by omega)
  obtain ⟨h1, h2⟩ := body_read hc
  unfold decS
  rw [hr]
  simp only
  rw [if_pos h1, h2]
  rfl
theorem head_back {l : List UInt8} (h : headOk l = true) : ∃ n : Nat, (headV l).1 = n ∧ 1 ≤ n ∧ n ≤ 1099511627777 ∧ (sealS l (headV l).2.1 (headV l).2.2).1 = (headB n).length ∧ l = headB n ++ l.drop (headB n).length := by
  unfold headOk at h
  simp only [Bool.and_eq_true, decide_eq_true_eq] at h
  obtain ⟨hs, hn1, hn2⟩ := h
  have hs2 : (sealS l (headV l).2.1 (headV l).2.2).2 = false := by
    cases h2 : (sealS l (headV l).2.1 (headV l).2.2).2
    · rfl
    · rw [h2] at hs; simp at hs
  obtain ⟨v, hv⟩ : ∃ v, headV l = v := ⟨_, rfl⟩
  obtain ⟨n, a2, t2⟩ := v
  rw [hv] at hs2 hn1 hn2 ⊢
  simp only at hs2 hn1 hn2 ⊢
  obtain ⟨rfl, h4, _, he⟩ := sealS_ok hs2
  obtain ⟨hl, ha2, _⟩ := mark_back hv
  have hP : l = (72 :: vint n) ++ l.drop a2 := by simpa using hl
  have hPl : (72 :: vint n).length = a2 := by simp; omega
  have hse := seal_back (l := l) (p := 72 :: vint n) (take_pre hP) (by rw [hPl]; exact hs2)
  refine ⟨n, rfl, by omega, by omega, ?_, ?_⟩
  · rw [he]; unfold headB; rw [seal_len, hPl]
  · unfold headB; rw [seal_len]; exact hse
theorem head_read {l r : List UInt8} {n : Nat} (h1 : 1 ≤ n) (h2 : n ≤ 1099511627777) (h : l = headB n ++ r) : headOk l = true ∧ (headV l).1 = n ∧ (sealS l (headV l).2.1 (headV l).2.2).1 = (headB n).length := by
  unfold headB at h
  have hs := seal_read h
  have hl : l = 72 :: (vint n ++ (four (sumB (72 :: vint n)) ++ r)) := by rw [h]; simp [sealB]
  have hv : headV l = (n, 1 + (vint n).length, false) := mark_read hl (by omega)
  have hPl : (72 :: vint n).length = 1 + (vint n).length := by simp; omega
  rw [hPl] at hs
  refine ⟨?_, ?_, ?_⟩
  · unfold headOk
    rw [hv]
    simp only
    rw [hs]
    simp
    omega
  · rw [hv]
  · rw [hv]; simp only; rw [hs]; unfold headB; rw [seal_len, hPl]
end Go.Proofs.YtfigjfmldpfjkaaGreat
