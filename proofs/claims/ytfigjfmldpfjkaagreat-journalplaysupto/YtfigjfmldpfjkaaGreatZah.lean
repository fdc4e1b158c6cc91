/- What is read is what is written: plain. -/
import Derived.Test.YtfigjfmldpfjkaaGreatScan
namespace Go.Proofs.YtfigjfmldpfjkaaGreat

theorem get_of_drop {l r : List UInt8} {a : Nat} {x : UInt8} (h : l.drop a = x :: r) : l[a]? = some x ∧ l.drop (a + 1) = r := by
  have hlt : a < l.length := by
    have := congrArg List.length h
    simp at this; omega
  rw [List.drop_eq_getElem_cons hlt] at h
  injection h with h1 h2
  exact ⟨by rw [List.getElem?_eq_getElem hlt, h1], h2⟩
theorem st1_false {l : List UInt8} {a a' : Nat} {t : Bool} {y : UInt8} (h : st1 l a t = (y, a', false)) : t = false ∧ l[a]? = some y ∧ a' = a + 1 := by
  unfold st1 at h
  split at h
  · rename_i x hx
    injection h with h1 h2
    injection h2 with h2 _
    exact ⟨rfl, by rw [hx, h1], h2.symm⟩
  · injection h with _ h2
    injection h2 with _ h3
    cases h3
theorem vint_toNat {n : Nat} (h : n < 128) : (UInt8.ofNat n).toNat = n := by rw [toNat_of]; omega
theorem vint_hi (n : Nat) : (UInt8.ofNat (n % 128 + 128)).toNat = n % 128 + 128 := by rw [toNat_of]; omega
theorem varS_read (l : List UInt8) : ∀ (f i m a n : Nat) (r : List UInt8), l.drop a = vint n ++ r → n < 128 ^ f → 0 < f → (0 < i → 0 < n) → varS l f i m a false = (m + n * 2 ^ (7 * i), a + (vint n).length, false) := by
  intro f
  induction f with
  | zero => intro i m a n r _ _ h0; omega
  | succ f ih =>
    intro i m a n r hd hn _ hi
    by_cases h1 : n < 128
    · rw [vint_lt h1] at hd ⊢
      obtain ⟨hx, _⟩ := get_of_drop hd
      have hs := st1_yes hx
      rw [varS_last l f i m a false (by rw [hs]; simp only; rw [vint_toNat h1]; exact h1), hs]
      simp only [vint_toNat h1, List.length_singleton, Bool.false_or]
      rw [Nat.mod_eq_of_lt h1]
      have : (!(decide (0 < n) || decide (i = 0))) = false := by
        by_cases h0 : i = 0
        · simp [h0]
        · have := hi (by omega); simp [this]
      rw [this]
    · rw [vint_ge h1] at hd ⊢
      obtain ⟨hx, hr⟩ := get_of_drop hd
      have hs := st1_yes hx
      have hy := vint_hi n
      rw [varS_more l f i m a false (by rw [hs]; simp only; rw [hy]; omega), hs]
      simp only
      rw [hy, show (n % 128 + 128) % 128 = n % 128 by omega]
      have hf : 0 < f := by
        cases f with
        | zero => simp at hn; omega
        | succ f => omega
      rw [ih (i + 1) _ (a + 1) (n / 128) r hr (by rw [Nat.pow_succ] at hn; omega) hf (fun _ => by omega)]
      have e : m + n % 128 * 2 ^ (7 * i) + n / 128 * 2 ^ (7 * (i + 1)) = m + n * 2 ^ (7 * i) := by
        rw [show 7 * (i + 1) = 7 * i + 7 by omega, Nat.pow_add]
        have : n = 128 * (n / 128) + n % 128 := (Nat.div_add_mod n 128).symm
        generalize n / 128 = d at *
        generalize n % 128 = e at *
        subst this
        rw [Nat.add_mul, show (2 : Nat) ^ 7 = 128 by decide]
        rw [Nat.mul_comm (2 ^ (7 * i)) 128, ← Nat.mul_assoc, Nat.mul_comm d 128]
        omega
      rw [e]
      simp only [List.length_cons]
      rw [show a + 1 + (vint (n / 128)).length = a + ((vint (n / 128)).length + 1) by omega]
theorem varS_back (l : List UInt8) : ∀ (f i m a : Nat) (t : Bool) (v a' : Nat), varS l f i m a t = (v, a', false) → t = false ∧ ∃ n, v = m + n * 2 ^ (7 * i) ∧ l.drop a = vint n ++ l.drop a' ∧ (0 < i → 0 < n) ∧ a' = a + (vint n).length ∧ n < 128 ^ f := by
  intro f
  induction f with
  | zero => intro i m a t v a' h; unfold varS at h; injection h with _ h; injection h with _ h; cases h
  | succ f ih =>
    intro i m a t v a' h
    obtain ⟨s, hs⟩ : ∃ s, st1 l a t = s := ⟨_, rfl⟩
    obtain ⟨y, a1, t1⟩ := s
    by_cases hy : y.toNat < 128
    · rw [varS_last l f i m a t (by rw [hs]; exact hy), hs] at h
      simp only at h
      injection h with h1 h2
      injection h2 with h2 h3
      have ht1 : t1 = false := by
        cases t1
        · rfl
        · simp at h3
      subst ht1
      obtain ⟨rfl, hx, rfl⟩ := st1_false hs
      have hlt : a < l.length := (List.getElem?_eq_some_iff.1 hx).1
      have hd : l.drop a = y :: l.drop (a + 1) := by
        rw [List.drop_eq_getElem_cons hlt]
        rw [List.getElem?_eq_getElem hlt] at hx
        injection hx with hx
        rw [hx]
      have hyv : vint y.toNat = [y] := by rw [vint_lt hy]; congr 1; exact byte_ext (vint_toNat hy)
      refine ⟨rfl, y.toNat, ?_, ?_, ?_, ?_, ?_⟩
      · rw [← h1, Nat.mod_eq_of_lt hy]
      · rw [hyv, ← h2, hd]; rfl
      · intro hi
        simp at h3
        omega
      · rw [hyv, ← h2]; rfl
      · have h7 : 128 ^ 1 ≤ 128 ^ (f + 1) := Nat.pow_le_pow_right (by omega) (by omega)
        rw [Nat.pow_one] at h7
        omega
    · rw [varS_more l f i m a t (by rw [hs]; exact hy), hs] at h
      simp only at h
      obtain ⟨ht1, n, hv, hd, hn0, ha', hnf⟩ := ih _ _ _ _ _ _ h
      subst ht1
      obtain ⟨rfl, hx, rfl⟩ := st1_false hs
      have hlt : a < l.length := (List.getElem?_eq_some_iff.1 hx).1
      have hda : l.drop a = y :: l.drop (a + 1) := by
        rw [List.drop_eq_getElem_cons hlt]
        rw [List.getElem?_eq_getElem hlt] at hx
        injection hx with hx
        rw [hx]
      have hn := hn0 (by omega)
      have hyl := y.toNat_lt
      have hN : ¬ y.toNat % 128 + 128 * n < 128 := by omega
      have hV : vint (y.toNat % 128 + 128 * n) = y :: vint n := by
        rw [vint_ge hN, show (y.toNat % 128 + 128 * n) / 128 = n by omega]
        congr 1
        apply byte_ext
        rw [toNat_of]; omega
      refine ⟨rfl, y.toNat % 128 + 128 * n, ?_, ?_, ?_, ?_, ?_⟩
      · rw [hv, show 7 * (i + 1) = 7 * i + 7 by omega, Nat.pow_add, Nat.add_mul, show (2 : Nat) ^ 7 = 128 by decide]
        rw [Nat.mul_comm (2 ^ (7 * i)) 128, ← Nat.mul_assoc, Nat.mul_comm n 128]
        omega
      · rw [hV, hda, hd]; rfl
      · intro _; omega
      · rw [hV, ha', List.length_cons]; omega
      · rw [Nat.pow_succ]; omega
end Go.Proofs.YtfigjfmldpfjkaaGreat
namespace Go.Proofs.YtfigjfmldpfjkaaGreat

/-- A mark and a number are read. -/
theorem mark_back {l : List UInt8} {k : UInt8} {n a : Nat} (h : varS l 6 0 0 (st1 l 0 false).2.1 ((st1 l 0 false).2.2 || !(((st1 l 0 false).1.toNat : Int) == (k.toNat : Int))) = (n, a, false)) :
    l = k :: (vint n ++ l.drop a) ∧ a = 1 + (vint n).length ∧ n < 4398046511104 := by
  obtain ⟨ht, m, hv, hd, _, ha, hm⟩ := varS_back l _ _ _ _ _ _ _ h
  obtain ⟨s, hs⟩ : ∃ s, st1 l 0 false = s := ⟨_, rfl⟩
  obtain ⟨y, a1, t1⟩ := s
  rw [hs] at ht hd ha
  simp only at ht hd ha
  have ht1 : t1 = false := by cases t1 <;> simp at ht ⊢
  subst ht1
  have hy : y = k := by
    simp at ht
    exact byte_ext (by omega)
  subst hy
  obtain ⟨_, hx, rfl⟩ := st1_false hs
  have hn : n = m := by simpa using hv
  subst hn
  cases l with
  | nil => simp at hx
  | cons x l =>
    simp at hx
    subst hx
    refine ⟨?_, by omega, by simpa using hm⟩
    rw [show List.drop (0 + 1) (x :: l) = l from rfl] at hd
    rw [← hd]
theorem mark_read {l r : List UInt8} {k : UInt8} {n : Nat} (h : l = k :: (vint n ++ r)) (hn : n < 4398046511104) :
    varS l 6 0 0 (st1 l 0 false).2.1 ((st1 l 0 false).2.2 || !(((st1 l 0 false).1.toNat : Int) == (k.toNat : Int))) = (n, 1 + (vint n).length, false) := by
  have hs : st1 l 0 false = (k, 1, false) := st1_yes (by rw [h]; rfl)
  rw [hs]
  simp only [beq_self_eq_true, Bool.not_true, Bool.or_false]
  rw [varS_read l 6 0 0 1 n r (by rw [h]; rfl) (by simpa using hn) (by omega) (fun h => by omega)]
  simp
theorem take_pre {l p r : List UInt8} (h : l = p ++ r) : l.take p.length = p := by rw [h]; simp
theorem drop_pre {l p r : List UInt8} (h : l = p ++ r) : l.drop p.length = r := by rw [h]; simp
/-- A sum is read. -/
theorem seal_back {l p : List UInt8} (hp : l.take p.length = p) (h : (sealS l p.length false).2 = false) : l = sealB p ++ l.drop (p.length + 4) := by
  obtain ⟨_, h1, h2, _⟩ := sealS_ok h
  rw [hp] at h2
  unfold sealB
  rw [← h2]
  have e1 : l = l.take p.length ++ l.drop p.length := (List.take_append_drop _ _).symm
  have e2 : l.drop p.length = (l.drop p.length).take 4 ++ (l.drop p.length).drop 4 := (List.take_append_drop _ _).symm
  rw [List.drop_drop] at e2
  rw [hp] at e1
  rw [List.append_assoc, ← e2, ← e1]
theorem seal_read {l p r : List UInt8} (h : l = sealB p ++ r) : sealS l p.length false = (p.length + 4, false) := by
  unfold sealB at h
  rw [List.append_assoc] at h
  unfold sealS
  rw [if_pos]
  refine ⟨rfl, ?_, ?_⟩
  · rw [h]; simp [four_len]
  · rw [take_pre h, drop_pre h]
    have : (four (sumB p)).length = 4 := rfl
    rw [← this]
    exact List.take_left
theorem recS_back {l b : List UInt8} {a : Nat} (h : recS l = some (b, a)) : l = recB b ++ l.drop a ∧ a = (recB b).length := by
  unfold recS at h
  split at h
  · rename_i hh
    injection h with h
    injection h with hb ha
    obtain ⟨v, hv⟩ : ∃ v, recV l = v := ⟨_, rfl⟩
    obtain ⟨n, a2, t2⟩ := v
    rw [hv] at hh hb ha
    simp only at hh hb ha
    obtain ⟨rfl, hlen, hse⟩ := hh
    obtain ⟨hl, ha2, _⟩ := mark_back hv
    have hbl : b.length = n := by rw [← hb]; simp; omega
    have hd : l.drop a2 = b ++ l.drop (a2 + n) := by
      have := (List.take_append_drop n (l.drop a2)).symm
      rw [hb, List.drop_drop] at this
      exact this
    have hP : l = (67 :: (vint b.length ++ b)) ++ l.drop (a2 + n) := by
      rw [hd] at hl
      rw [hbl]
      simpa using hl
    have hPl : (67 :: (vint b.length ++ b)).length = a2 + n := by simp [hbl]; omega
    have hs := seal_back (l := l) (p := 67 :: (vint b.length ++ b)) (take_pre hP) (by rw [hPl]; exact hse)
    rw [hPl, ha] at hs
    refine ⟨hs, ?_⟩
    unfold recB
    rw [seal_len, hPl, ha]
  · cases h
theorem recS_read {l b r : List UInt8} (h : l = recB b ++ r) (hb : b.length < 4398046511104) : recS l = some (b, (recB b).length) := by
  have h0 := h
  unfold recB at h
  have hs := seal_read h
  have h1 : l = 67 :: (vint b.length ++ (b ++ (four (sumB (67 :: (vint b.length ++ b))) ++ r))) := by
    rw [h]; simp [sealB]
  have hv : recV l = (b.length, 1 + (vint b.length).length, false) := mark_read h1 hb
  have hPl : (67 :: (vint b.length ++ b)).length = 1 + (vint b.length).length + b.length := by simp; omega
  rw [hPl] at hs
  have hd : l.drop (1 + (vint b.length).length) = b ++ (four (sumB (67 :: (vint b.length ++ b))) ++ r) := by
    rw [h1, Nat.add_comm]; simp
  unfold recS
  rw [hv]
  simp only
  rw [if_pos]
  · rw [hd, List.take_left]
    have : (recB b).length = 1 + (vint b.length).length + b.length + 4 := by unfold recB; rw [seal_len, hPl]
    rw [this]
  · refine ⟨trivial, ?_, by rw [hs]⟩
    rw [h0]
    unfold recB
    rw [List.length_append, seal_len, hPl]; omega
theorem body_back {l : List UInt8} (h : bodyOk l = true) : l = bodyB (bodyC l) ∧ MayB (bodyC l) := by
  obtain ⟨v, hv⟩ : ∃ v, varS l 6 0 0 (st1 l 0 false).2.1 (st1 l 0 false).2.2 = v := ⟨_, rfl⟩
  obtain ⟨n, a2, t2⟩ := v
  unfold bodyOk at h
  rw [hv] at h
  simp only [Bool.and_eq_true, decide_eq_true_eq] at h
  obtain ⟨ht, hm⟩ := h
  refine ⟨?_, hm⟩
  have ht2 : t2 = false := by cases t2 <;> simp at ht ⊢
  subst ht2
  obtain ⟨ht1, m, hvm, hd, _, ha, _⟩ := varS_back l _ _ _ _ _ _ _ hv
  obtain ⟨s, hs⟩ : ∃ s, st1 l 0 false = s := ⟨_, rfl⟩
  obtain ⟨y, a1, t1⟩ := s
  have hC : bodyC l = ⟨(y.toNat : Int), (n : Int), ⟨(l.drop a2).toArray⟩⟩ := by unfold bodyC; rw [hv, hs]
  rw [hs] at ht1 hd ha
  simp only at ht1 hd ha
  subst ht1
  obtain ⟨_, hx, rfl⟩ := st1_false hs
  have hn : n = m := by simpa using hvm
  subst hn
  rw [hC]
  unfold bodyB
  simp only [Int.toNat_natCast]
  rw [show UInt8.ofNat y.toNat = y from byte_ext (by rw [toNat_of]; have := y.toNat_lt; omega)]
  cases l with
  | nil => simp at hx
  | cons x l =>
    simp at hx
    subst hx
    rw [show List.drop (0 + 1) (x :: l) = l from rfl] at hd
    rw [← hd]
theorem body_read {c : Ch} (h : MayB c) : bodyOk (bodyB c) = true ∧ bodyC (bodyB c) = c := by
  obtain ⟨kind, id, text⟩ := c
  obtain ⟨⟨h1, h2⟩, h3⟩ := h
  simp only at h1 h2 h3
  have hk : kind = ((kind.toNat : Nat) : Int) := by rcases h3 with h | h <;> omega
  have hkl : kind.toNat < 256 := by rcases h3 with h | h <;> omega
  have hid : id = ((id.toNat : Nat) : Int) := by omega
  obtain ⟨l, hl⟩ : ∃ l, bodyB ⟨kind, id, text⟩ = l := ⟨_, rfl⟩
  have hl2 : l = UInt8.ofNat kind.toNat :: (vint id.toNat ++ text.data.toList) := hl.symm
  have hs : st1 l 0 false = (UInt8.ofNat kind.toNat, 1, false) := st1_yes (by rw [hl2]; rfl)
  have hv := varS_read l 6 0 0 1 id.toNat text.data.toList (by rw [hl2]; rfl) (by have : (128 : Nat) ^ 6 = 4398046511104 := by decide
                                                                                  omega) (by omega) (fun h => by omega)
  rw [hl]
  have hC : bodyC l = ⟨kind, id, text⟩ := by
    unfold bodyC
    rw [hs]
    simp only
    rw [hv]
    simp only [Nat.zero_add, Nat.mul_zero, Nat.pow_zero, Nat.mul_one]
    rw [toNat_of, Nat.mod_eq_of_lt hkl, ← hk, ← hid]
    congr 1
    rw [show l.drop (1 + (vint id.toNat).length) = text.data.toList by rw [hl2, Nat.add_comm]; simp]
  refine ⟨?_, hC⟩
  unfold bodyOk
  rw [hC, hs]
  simp only
  rw [hv]
  simp only [Bool.not_false, Bool.true_and, decide_eq_true_eq]
  exact ⟨⟨h1, h2⟩, h3⟩
/-- Decode finds just the records of changes that may be. -/
theorem decS_back {l : List UInt8} {c : Ch} {n : Nat} (h : decS l = some (c, n)) : MayB c ∧ l = oneB c ++ l.drop n ∧ n = (oneB c).length := by
  unfold decS at h
  cases hr : recS l with
  | none => rw [hr] at h; cases h
  | some x =>
    obtain ⟨b, a⟩ := x
    rw [hr] at h
    simp only at h
    split at h
    · rename_i hok
      injection h with h
      injection h with h1 h2
      obtain ⟨hb, hm⟩ := body_back hok
      obtain ⟨h3, h4⟩ := recS_back hr
      subst h1 h2
      rw [hb] at h3 h4
      exact ⟨hm, h3, h4⟩
    · cases h
theorem decS_read {l r : List UInt8} {c : Ch} (hc : MayB c) (h : l = oneB c ++ r) : decS l = some (c, (oneB c).length) := by
  have hb := body_len c hc
  have hr := recS_read (b := bodyB c) h (by omega)
  obtain ⟨h1, h2⟩ := body_read hc
  unfold decS
  rw [hr]
  simp only
  rw [if_pos h1, h2]
  rfl
theorem head_back {l : List UInt8} (h : headOk l = true) : ∃ n : Nat, (headV l).1 = n ∧ 1 ≤ n ∧ n ≤ 1099511627777 ∧ (sealS l (headV l).2.1 (headV l).2.2).1 = (headB n).length ∧ l = headB n ++ l.drop (headB n).length := by
  unfold headOk at h
  simp only [Bool.and_eq_true, decide_eq_true_eq] at h
  obtain ⟨hs, hn1, hn2⟩ := h
  have hs2 : (sealS l (headV l).2.1 (headV l).2.2).2 = false := by
    cases h2 : (sealS l (headV l).2.1 (headV l).2.2).2
    · rfl
    · rw [h2] at hs; simp at hs
  obtain ⟨v, hv⟩ : ∃ v, headV l = v := ⟨_, rfl⟩
  obtain ⟨n, a2, t2⟩ := v
  rw [hv] at hs2 hn1 hn2 ⊢
  simp only at hs2 hn1 hn2 ⊢
  obtain ⟨rfl, h4, _, he⟩ := sealS_ok hs2
  obtain ⟨hl, ha2, _⟩ := mark_back hv
  have hP : l = (72 :: vint n) ++ l.drop a2 := by simpa using hl
  have hPl : (72 :: vint n).length = a2 := by simp; omega
  have hse := seal_back (l := l) (p := 72 :: vint n) (take_pre hP) (by rw [hPl]; exact hs2)
  refine ⟨n, rfl, by omega, by omega, ?_, ?_⟩
  · rw [he]; unfold headB; rw [seal_len, hPl]
  · unfold headB; rw [seal_len]; exact hse
theorem head_read {l r : List UInt8} {n : Nat} (h1 : 1 ≤ n) (h2 : n ≤ 1099511627777) (h : l = headB n ++ r) : headOk l = true ∧ (headV l).1 = n ∧ (sealS l (headV l).2.1 (headV l).2.2).1 = (headB n).length := by
  unfold headB at h
  have hs := seal_read h
  have hl : l = 72 :: (vint n ++ (four (sumB (72 :: vint n)) ++ r)) := by rw [h]; simp [sealB]
  have hv : headV l = (n, 1 + (vint n).length, false) := mark_read hl (by omega)
  have hPl : (72 :: vint n).length = 1 + (vint n).length := by simp; omega
  rw [hPl] at hs
  refine ⟨?_, ?_, ?_⟩
  · unfold headOk
    rw [hv]
    simp only
    rw [hs]
    simp
    omega
  · rw [hv]
  · rw [hv]; simp only; rw [hs]; unfold headB; rw [seal_len, hPl]
end Go.Proofs.YtfigjfmldpfjkaaGreat
namespace Go.Proofs.YtfigjfmldpfjkaaGreat
open Go.RowKit Go.Sort Go.Shelf

instance : DecidableEq Ch := fun a b =>
  if h : a.kind = b.kind ∧ a.id = b.id ∧ a.text = b.text then isTrue (by cases a; cases b; obtain ⟨h1, h2, h3⟩ := h; simp only at h1 h2 h3; rw [h1, h2, h3]) else isFalse (fun e => h (by rw [e]; exact ⟨rfl, rfl, rfl⟩))
theorem ba_extR {s t : ByteArray} (h : s.toList = t.toList) : s = t := by
  rw [ByteArray.toList_eq, ByteArray.toList_eq] at h
  cases s; cases t
  simp only at h
  rw [Array.toList_inj.1 h]
theorem eqlC (x y : Ch) (w : World) : (binOp .eql 63 (.agg #[.int .i64 x.kind, .int .i64 x.id, .string x.text]) (.agg #[.int .i64 y.kind, .int .i64 y.id, .string y.text])).run Tryz.prog w = .ok (.bool (decide (x = y))) w := by
  have u3 := Tryz.underlying3
  have a3 := Tryz.isAgg3
  have z3 := Tryz.sizeOf3
  have u9 := Tryz.underlying9
  have a9 := Tryz.isAgg9
  have z9 := Tryz.sizeOf9
  have hS : Tryz.prog.underlying 63 = some (.struct (Tryz.prog.fieldsOf 63)) := by kernel_rfl
  have hp : Tryz.prog.stoodInHeld 63 = false := by kernel_rfl
  rw [run_eql_struct, show (10000 : Nat) = 9999 + 1 from rfl, run_equalIn_agg w 9999 63 _ _ hS hp]
  simp only [Program.fieldsOf, Tryz.underlying63]
  go_simp
  obtain ⟨k, n, s⟩ := x
  obtain ⟨k', n', s'⟩ := y
  have hd : ((⟨k, n, s⟩ : Ch) = ⟨k', n', s'⟩) ↔ (k = k' ∧ n = n' ∧ s.toList = s'.toList) := ⟨fun h => by injection h with h1 h2 h3; exact ⟨h1, h2, by rw [h3]⟩, fun ⟨h1, h2, h3⟩ => by rw [h1, h2, ba_extR h3]⟩
  rw [show decide ((⟨k, n, s⟩ : Ch) = ⟨k', n', s'⟩) = decide (k = k' ∧ n = n' ∧ s.toList = s'.toList) from decide_eq_decide.2 hd]
  by_cases h1 : k = k' <;> by_cases h2 : n = n' <;> by_cases h3 : s.toList = s'.toList <;> simp [h1, h2, h3]
theorem neqC (x y : Ch) (w : World) : (binOp .neq 63 (.agg #[.int .i64 x.kind, .int .i64 x.id, .string x.text]) (.agg #[.int .i64 y.kind, .int .i64 y.id, .string y.text])).run Tryz.prog w = .ok (.bool (!decide (x = y))) w := by
  have u3 := Tryz.underlying3
  have a3 := Tryz.isAgg3
  have z3 := Tryz.sizeOf3
  have u9 := Tryz.underlying9
  have a9 := Tryz.isAgg9
  have z9 := Tryz.sizeOf9
  have hS : Tryz.prog.underlying 63 = some (.struct (Tryz.prog.fieldsOf 63)) := by kernel_rfl
  have hp : Tryz.prog.stoodInHeld 63 = false := by kernel_rfl
  rw [run_neq_struct, show (10000 : Nat) = 9999 + 1 from rfl, run_equalIn_agg w 9999 63 _ _ hS hp]
  simp only [Program.fieldsOf, Tryz.underlying63]
  go_simp
  obtain ⟨k, n, s⟩ := x
  obtain ⟨k', n', s'⟩ := y
  have hd : ((⟨k, n, s⟩ : Ch) = ⟨k', n', s'⟩) ↔ (k = k' ∧ n = n' ∧ s.toList = s'.toList) := ⟨fun h => by injection h with h1 h2 h3; exact ⟨h1, h2, by rw [h3]⟩, fun ⟨h1, h2, h3⟩ => by rw [h1, h2, ba_extR h3]⟩
  rw [show decide ((⟨k, n, s⟩ : Ch) = ⟨k', n', s'⟩) = decide (k = k' ∧ n = n' ∧ s.toList = s'.toList) from decide_eq_decide.2 hd]
  by_cases h1 : k = k' <;> by_cases h2 : n = n' <;> by_cases h3 : s.toList = s'.toList <;> simp [h1, h2, h3]
/-- A byte of a row of the call's own is written. -/
theorem own_set {B : Nat} {w : World} {g cap : Nat} {l : List UInt8} (h : OwnK encB 5 1 B w (some ⟨g, 0, none⟩) cap l) (j : Nat) (hj : j < l.length) (y : UInt8) : OwnK encB 5 1 B (w.setCell ⟨g, j, none⟩ (bv y)) (some ⟨g, 0, none⟩) cap (l.set j y) ∧ w.cell? ⟨g, j, none⟩ = some (bv l[j]) ∧ w.frozen? ⟨g, j, none⟩ = false := by
  unfold OwnK at h ⊢
  rw [flatB] at h ⊢
  rcases h.2 with ⟨h0, _⟩ | ⟨g', cp, cur, hv, hB, hblk, hn, hm, hs, ht⟩
  · injection h0 with h0; cases h0
  · injection hv with h1 _ h2
    injection h1 with h1
    injection h1 with h1
    subst h1 h2
    rw [Nat.mul_one] at hs ht
    refine ⟨⟨by simp, .inr ⟨g, cap, cur.set! j (bv y), by simp, hB, heap_setCell_same w g j cur 5 _ hblk, by simpa using hn, hm, by simpa using hs, ?_⟩⟩, ?_, frozen_free hblk⟩
    · rw [Nat.mul_one, List.length_set]
      rw [List.map_set, ← ht]
      simp [List.take_set]
    · unfold World.cell?
      rw [hblk]
      have hcj : (cur.toList.take l.length)[j]? = some (bv l[j]) := by rw [ht]; simp [hj]
      rw [List.getElem?_take_of_lt hj] at hcj
      simpa using hcj
set_option maxHeartbeats 400000 in
set_option maxRecDepth 100000 in
theorem sameC_any (q q' : Option Addr) (c c' : Nat) (l m : List Ch) (w : World) (h : SlOf encC 3 w q c l) (h' : SlOf encC 3 w q' c' m) (hl : l.length ≤ 1000000000000) (hl' : m.length ≤ 1000000000000) :
    Calls Tryz.prog 18 #[.slice q l.length c, .slice q' m.length c'] w fun e w' => e = .returned (.bool (decide (l = m))) ∧ Below w.heap.size w w' := by
  by_cases hlen : l.length = m.length
  · have hli : ((l.length : Int) == (m.length : Int)) = true := by rw [hlen]; simp
    obtain ⟨R, hR⟩ : ∃ R, decide (l = m) = R := ⟨_, rfl⟩
    rw [hR]
    have HR := hide hR
    have mixed : Tryz.prog.follows .mixedOrders = true := by kernel_rfl
    have HLn := hide hlen
    clear hR
    rw [hlen]
    rw [hlen] at hli
    go_enter Tryz.func18, Tryz.ntmps18
    go_wp2
    go_loopw [13] (fun i wr => ∃ k : Nat, k ≤ m.length ∧ i = .int .i64 (k : Int) ∧ Hid (l.take k = m.take k) ∧ Hid (Below w.heap.size w wr)) (fun i _ => m.length - (intOf i).toNat)
    case atStart => exact ⟨0, Nat.zero_le _, rfl, hide rfl, hide (Below.refl _ _)⟩
    case round =>
      obtain ⟨k, hk, rfl, HT, HB⟩ := hrel
      by_cases hlt : k < m.length
      · obtain ⟨y, hy, _⟩ := get_at hlt
        obtain ⟨x, hx, _⟩ := get_at (show k < l.length by have := unhide HLn; omega)
        obtain ⟨b, off, hq, hb, c0, c1, c2⟩ := changeAt (h.below (unhide HB)) hx
        obtain ⟨b', off', hq', hb', d0, d1, d2⟩ := changeAt (h'.below (unhide HB)) hy
        subst hq hq'
        have q0 := cell_regrown c0
        have q1 := cell_regrown c1
        have q2 := cell_regrown c2
        have r0 := cell_regrown d0
        have r1 := cell_regrown d1
        have r2 := cell_regrown d2
        have hne := neqC x y
        have ki0 : (0 : Int) ≤ (k : Int) := by omega
        have ki1 : (k : Int) < (m.length : Int) := by omega
        by_cases hxy : x = y
        · have HT2 := hide (show l.take (k + 1) = m.take (k + 1) by rw [take_snoc_of hx, take_snoc_of hy, unhide HT, hxy])
          rw [decide_eq_true hxy] at hne
          clear h h' hx hy hxy
          go_wp2
          refine wp_region_quiet_below (by assumption) (by kernel_rfl) ?_
          repeat (go_big_quiet_step (fail))
          refine wpQuiet_nil ?_
          intro _ hw'
          obtain ⟨⟨dq, osq⟩, hw''⟩ := hw'
          subst hw''
          go_wp2
          go_roundw
          case rel => exact ⟨k + 1, by omega, by go_num, HT2, hide ((unhide HB).trans ((below_regrown _ _ _).mono (unhide HB).size))⟩
          case measure => simp [intOf]; omega
        · have HN := hide (show R = false by
            rw [← unhide HR]
            exact decide_eq_false (fun e => by subst e; rw [hx] at hy; injection hy with hy; exact hxy hy))
          rw [decide_eq_false hxy] at hne
          clear h h' hx hy hxy
          go_wp2
          refine wp_region_quiet_below (by assumption) (by kernel_rfl) ?_
          repeat (go_big_quiet_step (fail))
          refine wpQuiet_nil ?_
          intro _ hw'
          obtain ⟨⟨dq, osq⟩, hw''⟩ := hw'
          subst hw''
          go_wp2
          go_ret
          exact ⟨ret_bool (unhide HN).symm, (unhide HB).trans ((below_regrown _ _ _).mono (unhide HB).size)⟩
      · obtain rfl : k = m.length := by omega
        have ki1 : ¬ (m.length : Int) < (m.length : Int) := by omega
        clear h h'
        go_wp2
        go_ret
        refine ⟨ret_bool ?_, unhide HB⟩
        rw [← unhide HR]
        symm
        refine decide_eq_true ?_
        have h1 := unhide HT
        rw [List.take_length, ← unhide HLn, List.take_length] at h1
        exact h1
  · have hli : ((l.length : Int) == (m.length : Int)) = false := by simp; omega
    rw [decide_eq_false (fun e => hlen (by rw [e]))]
    clear h h'
    go_enter Tryz.func18, Tryz.ntmps18
    go_wp2
    go_ret
    exact ⟨rfl, Below.refl _ _⟩
end Go.Proofs.YtfigjfmldpfjkaaGreat
namespace Go.Proofs.YtfigjfmldpfjkaaGreat

/-- Two records with which one row of bytes begins are one. -/
theorem one_uniq {l r r' : List UInt8} {c c' : Ch} (hc : MayB c) (hc' : MayB c') (h : l = oneB c ++ r) (h' : l = oneB c' ++ r') : c = c' := by
  have e := (decS_read hc h).symm.trans (decS_read hc' h')
  injection e with e
  injection e with e
theorem head_uniq {l r r' : List UInt8} {n n' : Nat} (h1 : 1 ≤ n) (h2 : n ≤ 1099511627777) (h1' : 1 ≤ n') (h2' : n' ≤ 1099511627777) (h : l = headB n ++ r) (h' : l = headB n' ++ r') : n = n' :=
  ((head_read h1 h2 h).2.1).symm.trans (head_read h1' h2' h').2.1
theorem dec_short {A : List UInt8} {c : Ch} {m : Nat} (hc : MayB c) (hm : m < (oneB c).length) : decS ((oneB c ++ A).take m) = none := by
  cases h : decS ((oneB c ++ A).take m) with
  | none => rfl
  | some x =>
    exfalso
    obtain ⟨c', n'⟩ := x
    obtain ⟨hm', hl, hn⟩ := decS_back h
    have hlen := decS_len h
    have hA : oneB c ++ A = oneB c' ++ (((oneB c ++ A).take m).drop n' ++ (oneB c ++ A).drop m) := by
      rw [← List.append_assoc, ← hl, List.take_append_drop]
    have := one_uniq hc hm' rfl hA
    subst this
    rw [List.length_take] at hlen
    omega
theorem head_short {A : List UInt8} {n m : Nat} (h1 : 1 ≤ n) (h2 : n ≤ 1099511627777) (hm : m < (headB n).length) : headOk ((headB n ++ A).take m) = false := by
  cases h : headOk ((headB n ++ A).take m) with
  | false => rfl
  | true =>
    exfalso
    obtain ⟨n', _, h1', h2', _, hl⟩ := head_back h
    have hA : headB n ++ A = headB n' ++ (((headB n ++ A).take m).drop (headB n').length ++ (headB n ++ A).drop m) := by
      rw [← List.append_assoc, ← hl, List.take_append_drop]
    have := head_uniq h1 h2 h1' h2' rfl hA
    subst this
    have hll := congrArg List.length hl
    rw [List.length_append, List.length_take] at hll
    omega
/-- How many records are whole within so many bytes. -/
def fit : List Ch → Nat → Nat
  | [], _ => 0
  | c :: cs, m => if (oneB c).length ≤ m then fit cs (m - (oneB c).length) + 1 else 0
theorem fit_pos {c : Ch} {cs : List Ch} {m : Nat} (h : (oneB c).length ≤ m) : fit (c :: cs) m = fit cs (m - (oneB c).length) + 1 := by rw [fit, if_pos h]
theorem fit_neg {c : Ch} {cs : List Ch} {m : Nat} (h : ¬ (oneB c).length ≤ m) : fit (c :: cs) m = 0 := by rw [fit, if_neg h]
theorem fit_le : ∀ (cs : List Ch) (m : Nat), fit cs m ≤ cs.length := by
  intro cs
  induction cs with
  | nil => intro m; simp [fit]
  | cons c cs ih => intro m; unfold fit; split
                    · have := ih (m - (oneB c).length); simp; omega
                    · simp
theorem fit_eq : ∀ (cs : List Ch) (m i : Nat), i ≤ cs.length → (encs (cs.take i)).length ≤ m → (i = cs.length ∨ m < (encs (cs.take (i + 1))).length) → fit cs m = i := by
  intro cs
  induction cs with
  | nil => intro m i hi _ _; simp at hi; simp [fit, hi]
  | cons c cs ih =>
    intro m i hi h1 h2
    cases i with
    | zero =>
      unfold fit
      rw [if_neg]
      rcases h2 with h | h
      · simp at h
      · simp [encs] at h; omega
    | succ i =>
      simp only [List.take_succ_cons, encs_cons, List.length_append] at h1 h2
      have h3 : i = cs.length ∨ m - (oneB c).length < (encs (cs.take (i + 1))).length := by
        rcases h2 with h | h
        · left; simpa using h
        · right; omega
      rw [fit_pos (by omega), ih (m - (oneB c).length) i (by simpa using hi) (by omega) h3]
theorem scan_take : ∀ (cs : List Ch) (m f : Nat), (∀ c ∈ cs, MayB c) → m ≤ (encs cs).length → m < f → scanL f ((encs cs).take m) = (cs.take (fit cs m), (encs (cs.take (fit cs m))).length) := by
  intro cs
  induction cs with
  | nil => intro m f _ hm hf; simp [encs] at hm; subst hm
           simp [encs, fit]; exact scanL_none decS_nil
  | cons c cs ih =>
    intro m f hc hm hf
    have hcm := hc c (by simp)
    rw [encs_cons] at hm ⊢
    by_cases h1 : (oneB c).length ≤ m
    · have e : (oneB c ++ encs cs).take m = oneB c ++ (encs cs).take (m - (oneB c).length) := by
        rw [List.take_append, List.take_of_length_le h1]
      rw [e]
      obtain ⟨f', rfl⟩ : ∃ f', f = f' + 1 := ⟨f - 1, by omega⟩
      have hd := decS_read hcm (l := oneB c ++ (encs cs).take (m - (oneB c).length)) rfl
      have hpos := (decS_len hd).1
      rw [scanL_some hd, drop_pre rfl, ih (m - (oneB c).length) f' (fun x hx => hc x (List.mem_cons_of_mem _ hx)) (by simp at hm; omega) (by omega)]
      rw [fit_pos h1]
      simp [encs_cons]
    · rw [scanL_none (dec_short hcm (by omega))]
      rw [fit_neg h1]
      simp [encs]
end Go.Proofs.YtfigjfmldpfjkaaGreat
namespace Go.Proofs.YtfigjfmldpfjkaaGreat

theorem scan_app : ∀ (cs : List Ch) (m : List UInt8) (f : Nat), (∀ c ∈ cs, MayB c) → (encs cs ++ m).length < f → ∃ f', m.length < f' ∧ scanL f (encs cs ++ m) = (cs ++ (scanL f' m).1, (encs cs).length + (scanL f' m).2) := by
  intro cs
  induction cs with
  | nil => intro m f _ hf; exact ⟨f, by simpa [encs] using hf, by simp [encs]⟩
  | cons c cs ih =>
    intro m f hc hf
    have hcm := hc c (by simp)
    rw [encs_cons, List.append_assoc] at hf ⊢
    obtain ⟨f1, rfl⟩ : ∃ f1, f = f1 + 1 := ⟨f - 1, by omega⟩
    have hd := decS_read hcm (l := oneB c ++ (encs cs ++ m)) rfl
    have hpos := (decS_len hd).1
    obtain ⟨f', hf', he⟩ := ih m f1 (fun x hx => hc x (List.mem_cons_of_mem _ hx)) (by rw [List.length_append] at hf; omega)
    refine ⟨f', hf', ?_⟩
    rw [scanL_some hd, drop_pre rfl, he]
    simp; omega
theorem scan_back : ∀ (f : Nat) (m : List UInt8), (∀ c ∈ (scanL f m).1, MayB c) ∧ (scanL f m).2 = (encs (scanL f m).1).length ∧ ∃ r, m = encs (scanL f m).1 ++ r := by
  intro f
  induction f with
  | zero => intro m; refine ⟨fun c hc => by simp [scanL] at hc, by simp [scanL, encs], m, by simp [scanL, encs]⟩
  | succ f ih =>
    intro m
    cases hd : decS m with
    | none => rw [scanL_none hd]; exact ⟨fun c hc => by simp at hc, by simp [encs], m, by simp [encs]⟩
    | some x =>
      obtain ⟨c, n⟩ := x
      obtain ⟨hm, hl, hn⟩ := decS_back hd
      rw [scanL_some hd]
      obtain ⟨h1, h2, r, h3⟩ := ih (m.drop n)
      refine ⟨fun x hx => ?_, ?_, r, ?_⟩
      · simp at hx
        rcases hx with rfl | hx
        · exact hm
        · exact h1 x hx
      · simp only [encs_cons, List.length_append]; rw [h2, hn]
      · simp only [encs_cons, List.append_assoc]
        rw [← h3]; exact hl
theorem one_len8 (c : Ch) : 8 ≤ (oneB c).length := by
  have h1 := vint_len_pos c.id.toNat
  have h2 := vint_len_pos (bodyB c).length
  have : (bodyB c).length = 1 + ((vint c.id.toNat).length + c.text.data.size) := by simp [bodyB]; omega
  simp [oneB, recB, seal_len]; omega
/-- What Scan finds of a head, records and whatever stands behind. -/
theorem back_scan (n : Nat) (cs : List Ch) (m : List UInt8) (h1 : 1 ≤ n) (h2 : n ≤ 1099511627777) (hm : ∀ c ∈ cs, MayB c) (l : List UInt8) (hl : l = headB n ++ (encs cs ++ m)) :
    headOk l = true ∧ (headV l).1 = n ∧ (sealS l (headV l).2.1 (headV l).2.2).1 = (headB n).length ∧ ∃ (ds : List Ch) (r : List UInt8), (∀ c ∈ cs ++ ds, MayB c) ∧ scanL (l.length + 1) (l.drop (headB n).length) = (cs ++ ds, (encs (cs ++ ds)).length) ∧ l = headB n ++ (encs (cs ++ ds) ++ r) := by
  obtain ⟨r1, r2, r3⟩ := head_read h1 h2 hl
  refine ⟨r1, r2, r3, ?_⟩
  rw [drop_pre hl]
  obtain ⟨f', hf', he⟩ := scan_app cs m (l.length + 1) hm (by rw [hl]; simp; omega)
  obtain ⟨b1, b2, r, b3⟩ := scan_back f' m
  have ea : encs (cs ++ (scanL f' m).1) = encs cs ++ encs (scanL f' m).1 := by simp [encs]
  refine ⟨(scanL f' m).1, r, ?_, ?_, ?_⟩
  · intro c hc
    rcases List.mem_append.1 hc with h | h
    · exact hm c h
    · exact b1 c h
  · rw [he, b2, ea, List.length_append]
  · rw [ea, List.append_assoc, ← b3]; exact hl
end Go.Proofs.YtfigjfmldpfjkaaGreat
