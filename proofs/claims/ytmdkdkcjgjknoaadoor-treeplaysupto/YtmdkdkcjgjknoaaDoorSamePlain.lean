/- The texts of trees in form tell the trees apart: plain lists of bytes. -/
import Derived.Test.YtmdkdkcjgjknoaaDoorTextTree
import Derived.Lib.ItoaLen
namespace Go.Proofs.YtmdkdkcjgjknoaaDoor
open Go.RowKit

theorem hexd_inj {m n : Nat} (hm : m < 16) (hn : n < 16) (h : hexd m = hexd n) : m = n := by
  have hh : ((List.range 16).all fun a => (List.range 16).all fun b => decide (hexd a = hexd b → a = b)) = true := by decide +kernel
  rw [List.all_eq_true] at hh
  have h1 := hh m (List.mem_range.2 hm)
  rw [List.all_eq_true] at h1
  have h2 := h1 n (List.mem_range.2 hn)
  simp only [decide_eq_true_eq] at h2
  exact h2 h
theorem esc_shape (c : UInt8) : (needs c = true ∧ esc c = [92, c]) ∨ (needs c = false ∧ esc c = [c]) ∨ (esc c = [92, 120, hexd (c.toNat / 16), hexd (c.toNat % 16)]) := by
  unfold esc
  cases nc : needs c
  · cases pc : prints c
    · right; right; simp
    · right; left; simp
  · left; simp
theorem esc_free {c d : UInt8} {r s : List UInt8} (h : esc c ++ r = esc d ++ s) : c = d ∧ r = s := by
  have hlc := c.toNat_lt
  have hld := d.toNat_lt
  have n92 : needs 92 = true := by decide
  have n120 : needs 120 = false := by decide
  rcases esc_shape c with ⟨nc, ec⟩ | ⟨nc, ec⟩ | ec <;> rcases esc_shape d with ⟨nd, ed⟩ | ⟨nd, ed⟩ | ed <;> rw [ec, ed] at h <;> simp only [List.cons_append, List.nil_append, List.cons.injEq, true_and] at h
  · exact h
  · rw [← h.1, n92] at nd; cases nd
  · rw [h.1, n120] at nc; cases nc
  · rw [h.1, n92] at nc; cases nc
  · exact h
  · rw [h.1, n92] at nc; cases nc
  · rw [← h.1, n120] at nd; cases nd
  · rw [← h.1, n92] at nd; cases nd
  · obtain ⟨h1, h2, h3⟩ := h
    have e1 := hexd_inj (by omega) (by omega) h1
    have e2 := hexd_inj (by omega) (by omega) h2
    exact ⟨UInt8.toNat_inj.1 (by omega), h3⟩
theorem esc_head (c : UInt8) : ∃ x t, esc c = x :: t ∧ x ≠ 34 := by
  rcases esc_shape c with ⟨_, e⟩ | ⟨nc, e⟩ | e
  · exact ⟨_, _, e, by decide⟩
  · refine ⟨_, _, e, fun h => ?_⟩
    subst h
    exact absurd nc (by decide)
  · exact ⟨_, _, e, by decide⟩
theorem escs_free : ∀ (a b r s : List UInt8), escs a ++ 34 :: r = escs b ++ 34 :: s → a = b ∧ r = s
  | [], [], r, s, h => by simpa [escs] using h
  | [], d :: b, r, s, h => by
    obtain ⟨x, t, e, hx⟩ := esc_head d
    simp only [escs, List.flatMap_nil, List.flatMap_cons, e, List.nil_append, List.cons_append, List.cons.injEq] at h
    exact absurd h.1.symm hx
  | c :: a, [], r, s, h => by
    obtain ⟨x, t, e, hx⟩ := esc_head c
    simp only [escs, List.flatMap_nil, List.flatMap_cons, e, List.nil_append, List.cons_append, List.cons.injEq] at h
    exact absurd h.1 hx
  | c :: a, d :: b, r, s, h => by
    have e1 : escs (c :: a) = esc c ++ escs a := by simp [escs]
    have e2 : escs (d :: b) = esc d ++ escs b := by simp [escs]
    rw [e1, e2, List.append_assoc, List.append_assoc] at h
    obtain ⟨h1, h2⟩ := esc_free h
    obtain ⟨h3, h4⟩ := escs_free a b r s h2
    exact ⟨by rw [h1, h3], h4⟩
theorem quote_free {a b r s : List UInt8} (h : quoteL a ++ r = quoteL b ++ s) : a = b ∧ r = s := by
  unfold quoteL at h
  simp only [List.cons_append, List.append_assoc, List.cons.injEq, true_and, List.nil_append] at h
  exact escs_free a b r s h
/-- Signs of one sort, and behind them one of another: where they end is told. -/
theorem run_free {p : UInt8 → Prop} : ∀ (a b : List UInt8) {x y : UInt8} {r s : List UInt8}, (∀ c ∈ a, p c) → (∀ c ∈ b, p c) → ¬ p x → ¬ p y → a ++ x :: r = b ++ y :: s → a = b ∧ x = y ∧ r = s
  | [], [], x, y, r, s, _, _, _, _, h => by simpa using h
  | [], d :: b, x, y, r, s, _, hb, hx, _, h => by
    simp only [List.nil_append, List.cons_append, List.cons.injEq] at h
    exact absurd (h.1 ▸ hb d List.mem_cons_self) hx
  | c :: a, [], x, y, r, s, ha, _, _, hy, h => by
    simp only [List.nil_append, List.cons_append, List.cons.injEq] at h
    exact absurd (h.1 ▸ ha c List.mem_cons_self) hy
  | c :: a, d :: b, x, y, r, s, ha, hb, hx, hy, h => by
    simp only [List.cons_append, List.cons.injEq] at h
    obtain ⟨h1, h2, h3⟩ := run_free a b (fun z hz => ha z (List.mem_cons_of_mem _ hz)) (fun z hz => hb z (List.mem_cons_of_mem _ hz)) hx hy h.2
    exact ⟨by rw [h.1, h1], h2, h3⟩
def jt (sep : List UInt8) : List (List UInt8) → List UInt8
  | [] => []
  | x :: xs => sep ++ x ++ jt sep xs
theorem jl_succ (sep : List UInt8) : ∀ (l : List (List UInt8)) (i : Nat), jl sep (i + 1) l = jt sep l
  | [], _ => rfl
  | x :: xs, i => by rw [jl_1 _ _ _ (by omega), jl_succ sep xs (i + 1)]; rfl
theorem jl_zero (sep x : List UInt8) (xs : List (List UInt8)) : jl sep 0 (x :: xs) = x ++ jt sep xs := by rw [jl_0 _ _ _ (by omega), jl_succ]
section
variable {α : Type} {f : α → List UInt8} {sep : List UInt8} {A B : α → Prop} {P Q : List UInt8 → Prop}
theorem jt_rest (hs : ∀ t, P (sep ++ t)) (hq : ∀ t, Q t → P t) (l : List α) {t : List UInt8} (ht : Q t) : P (jt sep (l.map f) ++ t) := by
  cases l with
  | nil => exact hq t ht
  | cons x l =>
    simp only [List.map_cons, jt, List.append_assoc]
    exact hs _
theorem jt_free (hf : ∀ x y r s, A x → B y → P r → P s → f x ++ r = f y ++ s → x = y ∧ r = s)
    (hs : ∀ t, P (sep ++ t)) (hq : ∀ t, Q t → P t) (hn : ∀ t u, Q t → t ≠ sep ++ u) :
    ∀ (a b : List α) (r s : List UInt8), (∀ x ∈ a, A x) → (∀ y ∈ b, B y) → Q r → Q s → jt sep (a.map f) ++ r = jt sep (b.map f) ++ s → a = b ∧ r = s
  | [], [], r, s, _, _, _, _, h => ⟨rfl, by simpa [jt] using h⟩
  | [], y :: b, r, s, _, _, hr, _, h => by
    simp only [List.map_nil, List.map_cons, jt, List.nil_append, List.append_assoc] at h
    exact absurd h (hn r _ hr)
  | x :: a, [], r, s, _, _, _, hs', h => by
    simp only [List.map_nil, List.map_cons, jt, List.nil_append, List.append_assoc] at h
    exact absurd h.symm (hn s _ hs')
  | x :: a, y :: b, r, s, ha, hb, hr, hs', h => by
    simp only [List.map_cons, jt, List.append_assoc] at h
    have h2 := List.append_cancel_left h
    obtain ⟨e1, e2⟩ := hf x y _ _ (ha x List.mem_cons_self) (hb y List.mem_cons_self) (jt_rest hs hq a hr) (jt_rest hs hq b hs') h2
    obtain ⟨e3, e4⟩ := jt_free hf hs hq hn a b r s (fun z hz => ha z (List.mem_cons_of_mem _ hz)) (fun z hz => hb z (List.mem_cons_of_mem _ hz)) hr hs' e2
    exact ⟨by rw [e1, e3], e4⟩
theorem jl_free (hf : ∀ x y r s, A x → B y → P r → P s → f x ++ r = f y ++ s → x = y ∧ r = s)
    (hs : ∀ t, P (sep ++ t)) (hq : ∀ t, Q t → P t) (hn : ∀ t u, Q t → t ≠ sep ++ u) {a b : List α} {r s : List UInt8} (na : a ≠ []) (nb : b ≠ [])
    (ha : ∀ x ∈ a, A x) (hb : ∀ y ∈ b, B y) (hr : Q r) (hs' : Q s) (h : jl sep 0 (a.map f) ++ r = jl sep 0 (b.map f) ++ s) : a = b ∧ r = s := by
  cases a with
  | nil => exact absurd rfl na
  | cons x a =>
    cases b with
    | nil => exact absurd rfl nb
    | cons y b =>
      simp only [List.map_cons, jl_zero, List.append_assoc] at h
      obtain ⟨e1, e2⟩ := hf x y _ _ (ha x List.mem_cons_self) (hb y List.mem_cons_self) (jt_rest hs hq a hr) (jt_rest hs hq b hs') h
      obtain ⟨e3, e4⟩ := jt_free hf hs hq hn a b r s (fun z hz => ha z (List.mem_cons_of_mem _ hz)) (fun z hz => hb z (List.mem_cons_of_mem _ hz)) hr hs' e2
      exact ⟨by rw [e1, e3], e4⟩
end
/-- The number of a row of digits. -/
def numv (l : List UInt8) : Nat := l.foldl (fun a c => a * 10 + (c.toNat - 48)) 0
theorem dec_digit (u : Nat) : ∀ c ∈ Lib.decDigits u, 48 ≤ c.toNat ∧ c.toNat ≤ 57 := by
  induction u using Nat.strongRecOn with
  | _ u ih =>
    intro c hc
    rw [Lib.decDigits] at hc
    by_cases h : u < 10
    · rw [dif_pos h] at hc
      simp only [List.mem_singleton] at hc
      subst hc
      rw [UInt8.toNat_ofNat', Nat.mod_eq_of_lt (by omega)]
      omega
    · rw [dif_neg h] at hc
      rcases List.mem_append.1 hc with hc | hc
      · exact ih (u / 10) (by omega) c hc
      · simp only [List.mem_singleton] at hc
        subst hc
        rw [UInt8.toNat_ofNat', Nat.mod_eq_of_lt (by omega)]
        omega
theorem dec_ne (u : Nat) : Lib.decDigits u ≠ [] := by
  intro h
  have := Lib.decDigits_length u
  rw [h] at this
  have := Lib.nDigits_pos u
  simp at *; omega
theorem numv_dec (u : Nat) : numv (Lib.decDigits u) = u := by
  induction u using Nat.strongRecOn with
  | _ u ih =>
    rw [Lib.decDigits]
    by_cases h : u < 10
    · rw [dif_pos h]
      have e : (UInt8.ofNat (48 + u)).toNat = 48 + u := by rw [UInt8.toNat_ofNat', Nat.mod_eq_of_lt (by omega)]
      simp only [numv, List.foldl_cons, List.foldl_nil, e]
      omega
    · rw [dif_neg h]
      have e : (UInt8.ofNat (48 + u % 10)).toNat = 48 + u % 10 := by rw [UInt8.toNat_ofNat', Nat.mod_eq_of_lt (by omega)]
      have := ih (u / 10) (by omega)
      unfold numv at this ⊢
      rw [List.foldl_append, this]
      simp only [List.foldl_cons, List.foldl_nil, e]
      omega
theorem dec_inj {a b : Nat} (h : Lib.decDigits a = Lib.decDigits b) : a = b := by
  have h1 := numv_dec a
  rw [h, numv_dec b] at h1
  exact h1.symm
def numSign (c : UInt8) : Prop := c.toNat = 45 ∨ (48 ≤ c.toNat ∧ c.toNat ≤ 57)
theorem itoa_signs (n : Int) : ∀ c ∈ Lib.itoa n, numSign c := by
  intro c hc
  unfold Lib.itoa at hc
  split at hc
  · rcases List.mem_cons.1 hc with rfl | hc
    · exact Or.inl rfl
    · exact Or.inr (dec_digit _ c hc)
  · exact Or.inr (dec_digit _ c hc)
theorem itoa_inj {a b : Int} (ha : numOk a = true) (hb : numOk b = true) (h : Lib.itoa a = Lib.itoa b) : a = b := by
  unfold numOk at ha hb
  simp only [Bool.and_eq_true, decide_eq_true_eq] at ha hb
  unfold Lib.itoa at h
  have key : ∀ (m : Nat) (l : List UInt8), 45 :: l ≠ Lib.decDigits m := fun m l e => by
    have := dec_digit m 45 (by rw [← e]; exact List.mem_cons_self)
    have e45 : (45 : UInt8).toNat = 45 := rfl
    omega
  by_cases h1 : a < 0 <;> by_cases h2 : b < 0
  · rw [if_pos h1, if_pos h2] at h
    simp only [List.cons.injEq, true_and] at h
    have := dec_inj h
    omega
  · rw [if_pos h1, if_neg h2] at h
    exact absurd h (key _ _)
  · rw [if_neg h1, if_pos h2] at h
    exact absurd h.symm (key _ _)
  · rw [if_neg h1, if_neg h2] at h
    have := dec_inj h
    omega
theorem itI_eq {n : Int} (h : numOk n = true) : itI n = Lib.itoa n := by
  unfold itI textB
  rw [chk_num, h]
  simp [itoaB]
theorem itW_eq {s : ByteArray} (h : wordOk s = true) : itW s = quoteL s.data.toList := by
  unfold itW textB
  rw [chk_word, h]
  simp [quoteB]
/-- What stands behind a number is no sign of a number. -/
def NumEnd (t : List UInt8) : Prop := ∃ x u, t = x :: u ∧ ¬ numSign x
theorem itI_free (a b : Int) (r s : List UInt8) (ha : numOk a = true) (hb : numOk b = true) (hr : NumEnd r) (hs : NumEnd s) (h : itI a ++ r = itI b ++ s) : a = b ∧ r = s := by
  rw [itI_eq ha, itI_eq hb] at h
  obtain ⟨x, u, rfl, hx⟩ := hr
  obtain ⟨y, v, rfl, hy⟩ := hs
  obtain ⟨h1, h2, h3⟩ := run_free _ _ (itoa_signs a) (itoa_signs b) hx hy h
  exact ⟨itoa_inj ha hb h1, by rw [h2, h3]⟩
theorem itW_free (a b : ByteArray) (r s : List UInt8) (ha : wordOk a = true) (hb : wordOk b = true) (_ : True) (_ : True) (h : itW a ++ r = itW b ++ s) : a = b ∧ r = s := by
  rw [itW_eq ha, itW_eq hb] at h
  obtain ⟨h1, h2⟩ := quote_free h
  exact ⟨WideShapes.bytes_inj h1, h2⟩
theorem itI_head {n : Int} (h : numOk n = true) : ∃ c t, itI n = c :: t ∧ numSign c := by
  rw [itI_eq h]
  cases e : Lib.itoa n with
  | nil =>
    unfold Lib.itoa at e
    split at e
    · cases e
    · exact absurd e (dec_ne _)
  | cons c t => exact ⟨c, t, rfl, itoa_signs n c (by rw [e]; exact List.mem_cons_self)⟩
theorem itW_head {s : ByteArray} (h : wordOk s = true) : ∃ t, itW s = 34 :: t := by
  rw [itW_eq h]; exact ⟨_, rfl⟩
/-- Names. -/
def nameSign (c : UInt8) : Prop := (97 ≤ c.toNat ∧ c.toNat ≤ 122) ∨ (48 ≤ c.toNat ∧ c.toNat ≤ 57) ∨ c.toNat = 95
theorem byteI_list (s : ByteArray) (i : Nat) (h : i < s.data.toList.length) : byteI s i = ((s.data.toList[i]'h).toNat : Int) := by
  have h' : i < s.size := by simpa using h
  unfold byteI
  rw [dif_pos h']
  rfl
theorem name_signs {s : ByteArray} (h : nameOk s = true) : ∀ c ∈ s.data.toList, nameSign c := by
  intro c hc
  unfold nameOk at h
  simp only [Bool.and_eq_true, decide_eq_true_eq, List.all_eq_true] at h
  obtain ⟨i, hi, rfl⟩ := List.mem_iff_getElem.1 hc
  have := h.2 i (List.mem_range.2 (by simpa using hi))
  rw [byteI_list s i hi] at this
  unfold okB isLet isDig at this
  simp only [Bool.or_eq_true, Bool.and_eq_true, decide_eq_true_eq, beq_iff_eq] at this
  unfold nameSign
  omega
theorem name_head {s : ByteArray} (h : nameOk s = true) : ∃ c t, s.data.toList = c :: t ∧ 97 ≤ c.toNat := by
  unfold nameOk at h
  simp only [Bool.and_eq_true, decide_eq_true_eq, List.all_eq_true] at h
  have hl : 0 < s.data.toList.length := by have := h.1.1.1; rw [bytes_len]; omega
  have := h.1.2
  rw [byteI_list s 0 hl] at this
  unfold isLet at this
  simp only [Bool.and_eq_true, decide_eq_true_eq] at this
  cases e : s.data.toList with
  | nil => rw [e] at hl; simp at hl
  | cons c t =>
    refine ⟨c, t, rfl, ?_⟩
    simp only [e, List.getElem_cons_zero] at this
    omega
end Go.Proofs.YtmdkdkcjgjknoaaDoor
