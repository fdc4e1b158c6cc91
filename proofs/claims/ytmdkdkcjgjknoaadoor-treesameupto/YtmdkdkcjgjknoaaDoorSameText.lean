/- Two trees in form with one text are the same tree; how long a text is. -/
import Derived.Test.YtmdkdkcjgjknoaaDoorSamePlain
namespace Go.Proofs.YtmdkdkcjgjknoaaDoor
open Go.RowKit

theorem len_nil {α : Type} {l : List α} (h : l.length = 0) : l = [] := List.length_eq_zero_iff.1 h
theorem predB_is {k : Int} {a : ByteArray} {i : List Int} {w : List ByteArray} {l h : Int} (H : predB k a i w l h = true) :
    nameOk a = true ∧ ((k = 1 ∧ (∀ x ∈ i, numOk x = true) ∧ i ≠ [] ∧ w = [] ∧ l = 0 ∧ h = 0) ∨ (k = 2 ∧ (∀ x ∈ w, wordOk x = true) ∧ w ≠ [] ∧ i = [] ∧ l = 0 ∧ h = 0) ∨ (k = 3 ∧ numOk l = true ∧ numOk h = true ∧ i = [] ∧ w = []) ∨ (k = 4 ∧ (∃ x, w = [x] ∧ wordOk x = true) ∧ i = [] ∧ l = 0 ∧ h = 0)) := by
  unfold predB at H
  rw [Bool.and_eq_true] at H
  refine ⟨H.1, ?_⟩
  have H2 := H.2
  have ne : ∀ {β : Type} {m : List β}, 1 ≤ m.length → m ≠ [] := fun hm e => by rw [e] at hm; simp at hm
  by_cases k1 : k = 1
  · rw [if_pos k1] at H2
    simp only [memB, emptyB, Bool.and_eq_true, decide_eq_true_eq, List.all_eq_true] at H2
    obtain ⟨⟨h1, h2, _⟩, _, h3, h4, h5⟩ := H2
    exact Or.inl ⟨k1, h1, ne h2, len_nil h3, h4, h5⟩
  rw [if_neg k1] at H2
  by_cases k2 : k = 2
  · rw [if_pos k2] at H2
    simp only [memB, emptyB, Bool.and_eq_true, decide_eq_true_eq, List.all_eq_true] at H2
    obtain ⟨⟨h1, h2, _⟩, h3, _, h4, h5⟩ := H2
    exact Or.inr (Or.inl ⟨k2, h1, ne h2, len_nil h3, h4, h5⟩)
  rw [if_neg k2] at H2
  by_cases k3 : k = 3
  · rw [if_pos k3] at H2
    simp only [emptyB, Bool.and_eq_true, decide_eq_true_eq] at H2
    obtain ⟨⟨h1, h2⟩, h3, h4, _⟩ := H2
    exact Or.inr (Or.inr (Or.inl ⟨k3, h1, h2, len_nil h3, len_nil h4⟩))
  rw [if_neg k3] at H2
  by_cases k4 : k = 4
  · rw [if_pos k4] at H2
    simp only [memB, emptyB, Bool.and_eq_true, decide_eq_true_eq, List.all_eq_true] at H2
    obtain ⟨⟨h1, h2, h2'⟩, h3, _, h4, h5⟩ := H2
    have hw : w.length = 1 := by omega
    obtain ⟨x, rfl⟩ := List.length_eq_one_iff.1 hw
    exact Or.inr (Or.inr (Or.inr ⟨k4, ⟨x, rfl, h1 x List.mem_cons_self⟩, len_nil h3, h4, h5⟩))
  · rw [if_neg k4] at H2; cases H2
/-- What stands behind the name and the blank. -/
def bodyL (kind : Int) (ints : List Int) (words : List ByteArray) (lo hi : Int) : List UInt8 :=
  if kind = 1 then [123] ++ jl [44, 32] 0 (ints.map itI) ++ [125] else if kind = 2 then [123] ++ jl [44, 32] 0 (words.map itW) ++ [125] else if kind = 3 then [91] ++ jl [44, 32] 0 ([lo, hi].map itI) ++ [93] else if kind = 4 then [] ++ jl [44, 32] 0 (words.map itW) ++ [42] else []
theorem predL_eq (k : Int) (a : ByteArray) (i : List Int) (w : List ByteArray) (l h : Int) : predL k a i w l h = a.data.toList ++ 32 :: bodyL k i w l h := by
  unfold predL bodyL; rw [List.append_assoc]; rfl
theorem body1 (i : List Int) (w : List ByteArray) (l h : Int) : bodyL 1 i w l h = 123 :: (jl [44, 32] 0 (i.map itI) ++ [125]) := rfl
theorem body2 (i : List Int) (w : List ByteArray) (l h : Int) : bodyL 2 i w l h = 123 :: (jl [44, 32] 0 (w.map itW) ++ [125]) := rfl
theorem body3 (i : List Int) (w : List ByteArray) (l h : Int) : bodyL 3 i w l h = 91 :: (jl [44, 32] 0 ([l, h].map itI) ++ [93]) := rfl
theorem body4 (i : List Int) (x : ByteArray) (l h : Int) : bodyL 4 i [x] l h = itW x ++ [42] := by
  show [] ++ jl [44, 32] 0 [itW x] ++ [42] = _
  rw [jl_zero]; simp [jt]
theorem ints_free {a b : List Int} {x : UInt8} (hx : ¬ numSign x) (hx2 : x ≠ 44) {r s : List UInt8} (na : a ≠ []) (nb : b ≠ []) (ha : ∀ y ∈ a, numOk y = true) (hb : ∀ y ∈ b, numOk y = true) (h : jl [44, 32] 0 (a.map itI) ++ x :: r = jl [44, 32] 0 (b.map itI) ++ x :: s) : a = b ∧ r = s := by
  have hc : ¬ numSign 44 := by unfold numSign; have : (44 : UInt8).toNat = 44 := rfl; omega
  obtain ⟨h1, h2⟩ := jl_free (f := itI) (sep := [44, 32]) (A := fun y => numOk y = true) (B := fun y => numOk y = true) (P := NumEnd) (Q := fun t => ∃ u, t = x :: u) itI_free (fun t => ⟨44, _, rfl, hc⟩) (fun t ⟨u, e⟩ => ⟨x, u, e, hx⟩)
    (fun t u ⟨v, e⟩ e2 => by rw [e] at e2; simp only [List.cons_append, List.cons.injEq] at e2; exact hx2 e2.1) na nb ha hb ⟨r, rfl⟩ ⟨s, rfl⟩ h
  exact ⟨h1, by simpa using h2⟩
theorem words_free {a b : List ByteArray} {x : UInt8} (hx2 : x ≠ 44) {r s : List UInt8} (na : a ≠ []) (nb : b ≠ []) (ha : ∀ y ∈ a, wordOk y = true) (hb : ∀ y ∈ b, wordOk y = true) (h : jl [44, 32] 0 (a.map itW) ++ x :: r = jl [44, 32] 0 (b.map itW) ++ x :: s) : a = b ∧ r = s := by
  obtain ⟨h1, h2⟩ := jl_free (f := itW) (sep := [44, 32]) (A := fun y => wordOk y = true) (B := fun y => wordOk y = true) (P := fun _ => True) (Q := fun t => ∃ u, t = x :: u) itW_free (fun t => trivial) (fun t _ => trivial)
    (fun t u ⟨v, e⟩ e2 => by rw [e] at e2; simp only [List.cons_append, List.cons.injEq] at e2; exact hx2 e2.1) na nb ha hb ⟨r, rfl⟩ ⟨s, rfl⟩ h
  exact ⟨h1, by simpa using h2⟩
theorem no34 : ¬ numSign 34 := by unfold numSign; have : (34 : UInt8).toNat = 34 := rfl; omega
theorem no125 : ¬ numSign 125 := by unfold numSign; have : (125 : UInt8).toNat = 125 := rfl; omega
theorem no93 : ¬ numSign 93 := by unfold numSign; have : (93 : UInt8).toNat = 93 := rfl; omega
theorem ints_words {a : List Int} {b : List ByteArray} {r s : List UInt8} (na : a ≠ []) (nb : b ≠ []) (ha : ∀ y ∈ a, numOk y = true) (hb : ∀ y ∈ b, wordOk y = true) : jl [44, 32] 0 (a.map itI) ++ r ≠ jl [44, 32] 0 (b.map itW) ++ s := by
  intro h
  cases a with
  | nil => exact na rfl
  | cons x a =>
    cases b with
    | nil => exact nb rfl
    | cons y b =>
      obtain ⟨c, t, e, hc⟩ := itI_head (ha x List.mem_cons_self)
      obtain ⟨u, e2⟩ := itW_head (hb y List.mem_cons_self)
      simp only [List.map_cons, jl_zero, e, e2, List.cons_append, List.cons.injEq] at h
      rw [h.1] at hc
      exact no34 hc
theorem body_free {k k' : Int} {a a' : ByteArray} {i i' : List Int} {w w' : List ByteArray} {l l' h h' : Int} {r s : List UInt8} (H : predB k a i w l h = true) (H' : predB k' a' i' w' l' h' = true) (he : bodyL k i w l h ++ r = bodyL k' i' w' l' h' ++ s) :
    k = k' ∧ i = i' ∧ w = w' ∧ l = l' ∧ h = h' ∧ r = s := by
  obtain ⟨_, c⟩ := predB_is H
  obtain ⟨_, c'⟩ := predB_is H'
  have d1 : (123 : UInt8) ≠ 91 := by decide
  have d2 : (123 : UInt8) ≠ 34 := by decide
  have d3 : (91 : UInt8) ≠ 34 := by decide
  rcases c with ⟨rfl, h1, h2, rfl, rfl, rfl⟩ | ⟨rfl, h1, h2, rfl, rfl, rfl⟩ | ⟨rfl, h1, h2, rfl, rfl⟩ | ⟨rfl, ⟨x, rfl, h1⟩, rfl, rfl, rfl⟩ <;>
    rcases c' with ⟨rfl, g1, g2, rfl, rfl, rfl⟩ | ⟨rfl, g1, g2, rfl, rfl, rfl⟩ | ⟨rfl, g1, g2, rfl, rfl⟩ | ⟨rfl, ⟨y, rfl, g1⟩, rfl, rfl, rfl⟩
  · simp only [body1, List.cons_append, List.cons.injEq, true_and, List.append_assoc, List.nil_append] at he
    obtain ⟨e1, e2⟩ := ints_free no125 (by decide) h2 g2 h1 g1 he
    exact ⟨rfl, e1, rfl, rfl, rfl, e2⟩
  · simp only [body1, body2, List.cons_append, List.cons.injEq, true_and, List.append_assoc] at he
    exact absurd he (ints_words h2 g2 h1 g1)
  · simp only [body1, body3, List.cons_append, List.cons.injEq] at he
    exact absurd he.1 d1
  · obtain ⟨u, e⟩ := itW_head g1
    simp only [body1, body4, e, List.cons_append, List.cons.injEq] at he
    exact absurd he.1 d2
  · simp only [body1, body2, List.cons_append, List.cons.injEq, true_and, List.append_assoc] at he
    exact absurd he.symm (ints_words g2 h2 g1 h1)
  · simp only [body2, List.cons_append, List.cons.injEq, true_and, List.append_assoc, List.nil_append] at he
    obtain ⟨e1, e2⟩ := words_free (by decide) h2 g2 h1 g1 he
    exact ⟨rfl, rfl, e1, rfl, rfl, e2⟩
  · simp only [body2, body3, List.cons_append, List.cons.injEq] at he
    exact absurd he.1 d1
  · obtain ⟨u, e⟩ := itW_head g1
    simp only [body2, body4, e, List.cons_append, List.cons.injEq] at he
    exact absurd he.1 d2
  · simp only [body1, body3, List.cons_append, List.cons.injEq] at he
    exact absurd he.1.symm d1
  · simp only [body2, body3, List.cons_append, List.cons.injEq] at he
    exact absurd he.1.symm d1
  · simp only [body3, List.cons_append, List.cons.injEq, true_and, List.append_assoc, List.nil_append] at he
    obtain ⟨e1, e2⟩ := ints_free no93 (by decide) (by simp) (by simp) (fun y hy => by simp at hy; rcases hy with rfl | rfl <;> assumption) (fun y hy => by simp at hy; rcases hy with rfl | rfl <;> assumption) he
    simp only [List.cons.injEq, and_true] at e1
    exact ⟨rfl, rfl, rfl, e1.1, e1.2, e2⟩
  · obtain ⟨u, e⟩ := itW_head g1
    simp only [body3, body4, e, List.cons_append, List.cons.injEq] at he
    exact absurd he.1 d3
  · obtain ⟨u, e⟩ := itW_head h1
    simp only [body1, body4, e, List.cons_append, List.cons.injEq] at he
    exact absurd he.1.symm d2
  · obtain ⟨u, e⟩ := itW_head h1
    simp only [body2, body4, e, List.cons_append, List.cons.injEq] at he
    exact absurd he.1.symm d2
  · obtain ⟨u, e⟩ := itW_head h1
    simp only [body3, body4, e, List.cons_append, List.cons.injEq] at he
    exact absurd he.1.symm d3
  · rw [body4, body4, List.append_assoc, List.append_assoc] at he
    obtain ⟨e1, e2⟩ := itW_free x y _ _ h1 g1 trivial trivial he
    exact ⟨rfl, rfl, by rw [e1], rfl, rfl, by simpa using e2⟩
theorem pred_free {k k' : Int} {a a' : ByteArray} {i i' : List Int} {w w' : List ByteArray} {l l' h h' : Int} {r s : List UInt8} (H : predB k a i w l h = true) (H' : predB k' a' i' w' l' h' = true) (he : predL k a i w l h ++ r = predL k' a' i' w' l' h' ++ s) :
    k = k' ∧ a = a' ∧ i = i' ∧ w = w' ∧ l = l' ∧ h = h' ∧ r = s := by
  have n32 : ¬ nameSign 32 := by unfold nameSign; have : (32 : UInt8).toNat = 32 := rfl; omega
  rw [predL_eq, predL_eq, List.append_assoc, List.append_assoc] at he
  obtain ⟨e1, _, e2⟩ := run_free _ _ (name_signs (predB_is H).1) (name_signs (predB_is H').1) n32 n32 he
  obtain ⟨e3, e4, e5, e6, e7, e8⟩ := body_free H H' e2
  exact ⟨e3, WideShapes.bytes_inj e1, e4, e5, e6, e7, e8⟩
theorem pred_head {k : Int} {a : ByteArray} {i : List Int} {w : List ByteArray} {l h : Int} (H : predB k a i w l h = true) : ∃ c t, predL k a i w l h = c :: t ∧ 97 ≤ c.toNat := by
  obtain ⟨c, t, e, hc⟩ := name_head (predB_is H).1
  exact ⟨c, t ++ 32 :: bodyL k i w l h, by rw [predL_eq, e]; rfl, hc⟩
/-- A tree in form is one of three. -/
inductive Is : Nd → Prop
  | pred {k a i w l h} : predB k a i w l h = true → Is (.mk k a i w l h 1 [])
  | no {x} : chkN x = true → Is (.mk 0 ⟨#[]⟩ [] [] 0 0 2 [x])
  | join {op ks} : op = 3 ∨ op = 4 → 2 ≤ ks.length → (∀ x ∈ ks, chkN x = true) → Is (.mk 0 ⟨#[]⟩ [] [] 0 0 op ks)
theorem chkL_all {l : List Nd} (h : chkL l = true) : ∀ x ∈ l, chkN x = true := by
  induction l with
  | nil => intro x hx; simp at hx
  | cons y l ih =>
    simp only [chkL, Bool.and_eq_true] at h
    intro x hx
    rcases List.mem_cons.1 hx with rfl | hx
    · exact h.1
    · exact ih h.2 x hx
theorem is_of {t : Nd} (h : chkN t = true) : Is t := by
  cases t with
  | mk k a i w l hh op ks =>
    simp only [chkN, Bool.and_eq_true] at h
    obtain ⟨h1, h2⟩ := h
    have hz : ∀ {b : Bool}, (zeroB k a i.length w.length l hh && b) = true → k = 0 ∧ a = ⟨#[]⟩ ∧ i = [] ∧ w = [] ∧ l = 0 ∧ hh = 0 ∧ b = true := fun hb => by
      simp only [zeroB, emptyB, Bool.and_eq_true, decide_eq_true_eq] at hb
      obtain ⟨⟨q1, q2, q3, q4, q5, q6⟩, q7⟩ := hb
      exact ⟨q1, bytes_of_size q2, len_nil q3, len_nil q4, q5, q6, q7⟩
    unfold nodeB at h1
    by_cases o1 : op = 1
    · rw [if_pos o1] at h1
      simp only [Bool.and_eq_true, decide_eq_true_eq] at h1
      subst o1
      rw [len_nil h1.2]
      exact .pred h1.1
    rw [if_neg o1] at h1
    by_cases o2 : op = 2
    · rw [if_pos o2] at h1
      obtain ⟨rfl, rfl, rfl, rfl, rfl, rfl, q⟩ := hz h1
      simp only [decide_eq_true_eq] at q
      obtain ⟨x, rfl⟩ := List.length_eq_one_iff.1 q
      subst o2
      exact .no (chkL_all h2 x List.mem_cons_self)
    rw [if_neg o2] at h1
    by_cases o3 : op = 3 ∨ op = 4
    · rw [if_pos o3] at h1
      obtain ⟨rfl, rfl, rfl, rfl, rfl, rfl, q⟩ := hz h1
      simp only [decide_eq_true_eq] at q
      exact .join o3 q (chkL_all h2)
    · rw [if_neg o3] at h1; cases h1
/-- A kid as it stands in an And. -/
def unitL (x : Nd) : List UInt8 := kidL 3 x
def unitsN (x : Nd) : List Nd := if x.op = 3 then x.kids else [x]
def partsN (x : Nd) : List Nd := if x.op = 4 then x.kids else [x]
theorem brack2 (k : Int) : brack 2 k = brack 3 k := by simp [brack]
theorem kid2 (x : Nd) : kidL 2 x = unitL x := by unfold unitL kidL; rw [brack2]
theorem text_no (x : Nd) : textN (.mk 0 ⟨#[]⟩ [] [] 0 0 2 [x]) = 33 :: unitL x := by
  rw [textN_eq, if_neg (by decide), if_pos rfl, List.map_cons, jl_zero, kid2]; simp [jt]
theorem text_and (ks : List Nd) : textN (.mk 0 ⟨#[]⟩ [] [] 0 0 3 ks) = jl [32, 38, 32] 0 (ks.map unitL) := by
  rw [textN_eq, if_neg (by decide), if_neg (by decide), if_pos rfl]; rfl
theorem text_or (ks : List Nd) : textN (.mk 0 ⟨#[]⟩ [] [] 0 0 4 ks) = jl [32, 124, 32] 0 (ks.map (kidL 4)) := by
  rw [textN_eq, if_neg (by decide), if_neg (by decide), if_neg (by decide), if_pos rfl]
theorem unit_plain {x : Nd} (h3 : x.op ≠ 3) (h4 : x.op ≠ 4) : unitL x = textN x := by
  unfold unitL; exact kidL_no (by simp [brack, h3, h4])
theorem unit_join {x : Nd} (h : x.op = 3 ∨ x.op = 4) : unitL x = 40 :: (textN x ++ [41]) := by
  unfold unitL
  rw [kidL_yes (by rcases h with h | h <;> simp [brack, h])]; rfl
theorem kid4_units {x : Nd} (hx : chkN x = true) : kidL 4 x = jl [32, 38, 32] 0 ((unitsN x).map unitL) := by
  by_cases h3 : x.op = 3
  · rw [kidL_no (by simp [brack, h3])]
    have := is_of hx
    cases this with
    | pred h => simp [Nd.op] at h3
    | no h => simp [Nd.op] at h3
    | join ho _ _ =>
      simp only [Nd.op] at h3
      subst h3
      rw [text_and]; rfl
  · unfold unitsN
    rw [if_neg h3, List.map_cons, jl_zero]
    by_cases h4 : x.op = 4
    · rw [kidL_yes (by simp [brack, h4]), unit_join (Or.inr h4)]; simp [jt]
    · rw [kidL_no (by simp [brack, h3, h4]), unit_plain h3 h4]; simp [jt]
theorem text_parts {x : Nd} (hx : chkN x = true) : textN x = jl [32, 124, 32] 0 ((partsN x).map (kidL 4)) := by
  by_cases h4 : x.op = 4
  · have := is_of hx
    cases this with
    | pred h => simp [Nd.op] at h4
    | no h => simp [Nd.op] at h4
    | join ho _ _ =>
      simp only [Nd.op] at h4
      subst h4
      rw [text_or]; rfl
  · unfold partsN
    rw [if_neg h4, List.map_cons, jl_zero, kidL_no (by simp [brack, h4])]; simp [jt]
theorem join_is {x : Nd} (hx : chkN x = true) (h : x.op = 3 ∨ x.op = 4) : x = .mk 0 ⟨#[]⟩ [] [] 0 0 x.op x.kids ∧ 2 ≤ x.kids.length ∧ ∀ k ∈ x.kids, chkN k = true := by
  cases is_of hx with
  | pred hp => simp [Nd.op] at h
  | no hp => simp [Nd.op] at h
  | join ho h2 h3 => exact ⟨rfl, h2, h3⟩
theorem units_inj {x y : Nd} (hx : chkN x = true) (hy : chkN y = true) (h : unitsN x = unitsN y) : x = y := by
  unfold unitsN at h
  by_cases h1 : x.op = 3 <;> by_cases h2 : y.op = 3
  · rw [if_pos h1, if_pos h2] at h
    rw [(join_is hx (Or.inl h1)).1, (join_is hy (Or.inl h2)).1, h1, h2, h]
  · rw [if_pos h1, if_neg h2] at h
    have := (join_is hx (Or.inl h1)).2.1
    rw [h] at this; simp at this
  · rw [if_neg h1, if_pos h2] at h
    have := (join_is hy (Or.inl h2)).2.1
    rw [← h] at this; simp at this
  · rw [if_neg h1, if_neg h2] at h
    simpa using h
theorem parts_inj {x y : Nd} (hx : chkN x = true) (hy : chkN y = true) (h : partsN x = partsN y) : x = y := by
  unfold partsN at h
  by_cases h1 : x.op = 4 <;> by_cases h2 : y.op = 4
  · rw [if_pos h1, if_pos h2] at h
    rw [(join_is hx (Or.inr h1)).1, (join_is hy (Or.inr h2)).1, h1, h2, h]
  · rw [if_pos h1, if_neg h2] at h
    have := (join_is hx (Or.inr h1)).2.1
    rw [h] at this; simp at this
  · rw [if_neg h1, if_pos h2] at h
    have := (join_is hy (Or.inr h2)).2.1
    rw [← h] at this; simp at this
  · rw [if_neg h1, if_neg h2] at h
    simpa using h
theorem units_ok {x : Nd} (hx : chkN x = true) : unitsN x ≠ [] ∧ (∀ u ∈ unitsN x, chkN u = true) := by
  unfold unitsN
  by_cases h1 : x.op = 3
  · rw [if_pos h1]
    obtain ⟨_, h2, h3⟩ := join_is hx (Or.inl h1)
    exact ⟨fun e => by rw [e] at h2; simp at h2, h3⟩
  · rw [if_neg h1]
    exact ⟨by simp, fun u hu => by simp at hu; rw [hu]; exact hx⟩
theorem parts_ok {x : Nd} (hx : chkN x = true) : partsN x ≠ [] ∧ (∀ u ∈ partsN x, chkN u = true) := by
  unfold partsN
  by_cases h1 : x.op = 4
  · rw [if_pos h1]
    obtain ⟨_, h2, h3⟩ := join_is hx (Or.inr h1)
    exact ⟨fun e => by rw [e] at h2; simp at h2, h3⟩
  · rw [if_neg h1]
    exact ⟨by simp, fun u hu => by simp at hu; rw [hu]; exact hx⟩
theorem kid_size {x k : Nd} (h : k ∈ x.kids) : sizeN k < sizeN x := by
  cases x with
  | mk a b c d e f g ks =>
    have := sizeL_mem (show k ∈ ks from h)
    simp only [sizeN]; omega
theorem units_size {x u : Nd} (h : u ∈ unitsN x) : sizeN u ≤ sizeN x := by
  unfold unitsN at h
  split at h
  · exact Nat.le_of_lt (kid_size h)
  · simp at h; rw [h]; exact Nat.le_refl _
/-- Units smaller than n are told by their text. -/
def UF (n : Nat) : Prop := ∀ x y r s, sizeN x ≤ n → chkN x = true → chkN y = true → unitL x ++ r = unitL y ++ s → x = y ∧ r = s
theorem kid4_free {n : Nat} (H : UF n) (x y : Nd) (r s : List UInt8) (hx : chkN x = true ∧ ∀ u ∈ unitsN x, sizeN u ≤ n) (hy : chkN y = true) (hr : ∀ t, r ≠ [32, 38, 32] ++ t) (hs : ∀ t, s ≠ [32, 38, 32] ++ t) (h : kidL 4 x ++ r = kidL 4 y ++ s) : x = y ∧ r = s := by
  rw [kid4_units hx.1, kid4_units hy] at h
  obtain ⟨h1, h2⟩ := jl_free (f := unitL) (sep := [32, 38, 32]) (A := fun u => chkN u = true ∧ sizeN u ≤ n) (B := fun u => chkN u = true) (P := fun _ => True) (Q := fun r => ∀ t, r ≠ [32, 38, 32] ++ t)
    (fun u v r s hu hv _ _ he => H u v r s hu.2 hu.1 hv he) (fun _ => trivial) (fun _ _ => trivial) (fun t u ht => ht u) (units_ok hx.1).1 (units_ok hy).1 (fun u hu => ⟨(units_ok hx.1).2 u hu, hx.2 u hu⟩) (units_ok hy).2 hr hs h
  exact ⟨units_inj hx.1 hy h1, h2⟩
theorem text_free {n : Nat} (H : UF n) {x y : Nd} {r s : List UInt8} (hx : chkN x = true) (hxs : ∀ p ∈ partsN x, ∀ u ∈ unitsN p, sizeN u ≤ n) (hy : chkN y = true) (hr : r = [] ∨ ∃ t, r = 41 :: t) (hs : s = [] ∨ ∃ t, s = 41 :: t) (h : textN x ++ r = textN y ++ s) : x = y ∧ r = s := by
  rw [text_parts hx, text_parts hy] at h
  have q : ∀ (a b : UInt8) (c t u : List UInt8), (t = [] ∨ ∃ v, t = 41 :: v) → a = 32 → t ≠ (a :: b :: c) ++ u := fun a b c t u ht ha e => by
    rcases ht with ht | ⟨v, ht⟩
    · rw [ht] at e; simp at e
    · rw [ht] at e; simp only [List.cons_append, List.cons.injEq] at e; rw [ha] at e; exact absurd e.1 (by decide)
  obtain ⟨h1, h2⟩ := jl_free (f := kidL 4) (sep := [32, 124, 32]) (A := fun u => chkN u = true ∧ ∀ v ∈ unitsN u, sizeN v ≤ n) (B := fun u => chkN u = true) (P := fun r => ∀ t, r ≠ [32, 38, 32] ++ t) (Q := fun r => r = [] ∨ ∃ t, r = 41 :: t)
    (fun u v r s hu hv hr hs he => kid4_free H u v r s hu hv hr hs he) (fun t u e => by simp at e) (fun t ht u => q _ _ _ t u ht rfl) (fun t u ht => q _ _ _ t u ht rfl) (parts_ok hx).1 (parts_ok hy).1 (fun u hu => ⟨(parts_ok hx).2 u hu, hxs u hu⟩) (parts_ok hy).2 hr hs h
  exact ⟨parts_inj hx hy h1, h2⟩
theorem unit_free : ∀ n, UF n
  | 0 => fun x y r s hx => absurd hx (by cases x; simp only [sizeN]; omega)
  | n + 1 => by
    have H := unit_free n
    intro x y r s hxs hx hy h
    have ltr : ∀ {c : UInt8}, 97 ≤ c.toNat → c ≠ 33 ∧ c ≠ 40 := fun {c} hc => ⟨fun e => by subst e; exact absurd hc (by decide), fun e => by subst e; exact absurd hc (by decide)⟩
    have jn : ∀ {op : Int} {ks : List Nd}, op = 3 ∨ op = 4 → unitL (.mk 0 ⟨#[]⟩ [] [] 0 0 op ks) = 40 :: (textN (.mk 0 ⟨#[]⟩ [] [] 0 0 op ks) ++ [41]) := fun ho => unit_join ho
    have un : ∀ {z : Nd}, unitL (.mk 0 ⟨#[]⟩ [] [] 0 0 2 [z]) = 33 :: unitL z := fun {z} => by
      rw [unit_plain (by simp [Nd.op]) (by simp [Nd.op]), text_no]
    have up : ∀ {k a i w l h}, unitL (.mk k a i w l h 1 []) = predL k a i w l h := fun {k a i w l h} => by
      rw [unit_plain (by simp [Nd.op]) (by simp [Nd.op]), textN_eq, if_pos rfl]
    cases is_of hx with
    | pred h1 =>
      obtain ⟨c, t, e1, hc⟩ := pred_head h1
      cases is_of hy with
      | pred h2 =>
        rw [up, up] at h
        obtain ⟨rfl, rfl, rfl, rfl, rfl, rfl, e⟩ := pred_free h1 h2 h
        exact ⟨rfl, e⟩
      | no h2 =>
        rw [up, un, e1] at h
        simp only [List.cons_append, List.cons.injEq] at h
        exact absurd h.1 (ltr hc).1
      | join ho _ _ =>
        rw [up, jn ho, e1] at h
        simp only [List.cons_append, List.cons.injEq] at h
        exact absurd h.1 (ltr hc).2
    | no h1 =>
      rename_i z
      cases is_of hy with
      | pred h2 =>
        obtain ⟨c, t, e1, hc⟩ := pred_head h2
        rw [up, un, e1] at h
        simp only [List.cons_append, List.cons.injEq] at h
        exact absurd h.1.symm (ltr hc).1
      | no h2 =>
        rw [un, un] at h
        simp only [List.cons_append, List.cons.injEq, true_and] at h
        have hz : sizeN z ≤ n := by
          simp only [sizeN, sizeL] at hxs; omega
        obtain ⟨rfl, e⟩ := H _ _ r s hz h1 h2 h
        exact ⟨rfl, e⟩
      | join ho _ _ =>
        rw [un, jn ho] at h
        simp only [List.cons_append, List.cons.injEq] at h
        exact absurd h.1 (by decide)
    | join ho hl hk =>
      rename_i op ks
      cases is_of hy with
      | pred h2 =>
        obtain ⟨c, t, e1, hc⟩ := pred_head h2
        rw [up, jn ho, e1] at h
        simp only [List.cons_append, List.cons.injEq] at h
        exact absurd h.1.symm (ltr hc).2
      | no h2 =>
        rw [un, jn ho] at h
        simp only [List.cons_append, List.cons.injEq] at h
        exact absurd h.1 (by decide)
      | join ho2 _ _ =>
        rw [jn ho, jn ho2] at h
        simp only [List.cons_append, List.cons.injEq, true_and, List.append_assoc, List.nil_append] at h
        have hsz : ∀ p ∈ partsN (.mk 0 ⟨#[]⟩ [] [] 0 0 op ks), ∀ u ∈ unitsN p, sizeN u ≤ n := by
          intro p hp u hu
          have key : sizeN u < sizeN (.mk 0 ⟨#[]⟩ [] [] 0 0 op ks) := by
            unfold partsN at hp
            by_cases o4 : op = 4
            · rw [if_pos (by simpa [Nd.op] using o4)] at hp
              exact Nat.lt_of_le_of_lt (units_size hu) (kid_size hp)
            · have o3 : op = 3 := by rcases ho with ho | ho; exact ho; exact absurd ho o4
              rw [if_neg (by simpa [Nd.op] using o4)] at hp
              simp only [List.mem_singleton] at hp
              subst hp
              unfold unitsN at hu
              rw [if_pos (by simpa [Nd.op] using o3)] at hu
              exact kid_size hu
          omega
        obtain ⟨e1, e2⟩ := text_free H hx hsz hy (Or.inr ⟨r, rfl⟩) (Or.inr ⟨s, rfl⟩) h
        exact ⟨e1, by simpa using e2⟩
/-- Trees in form with one text are the same. -/
theorem text_inj {x y : Nd} (hx : chkN x = true) (hy : chkN y = true) (h : textN x = textN y) : x = y := by
  refine (text_free (unit_free (sizeN x)) (r := []) (s := []) hx (fun p hp u hu => ?_) hy (Or.inl rfl) (Or.inl rfl) (by simpa using h)).1
  refine Nat.le_trans (units_size hu) ?_
  unfold partsN at hp
  split at hp
  · exact Nat.le_of_lt (kid_size hp)
  · simp at hp; rw [hp]; exact Nat.le_refl _
/-- How long a text may be. -/
theorem jl_len {α : Type} {f : α → List UInt8} {g : α → Nat} {sep : List UInt8} : ∀ (l : List α) (i : Nat), (∀ x ∈ l, (f x).length + sep.length ≤ g x) → (jl sep i (l.map f)).length ≤ (l.map g).sum
  | [], i, _ => by simp [jl]
  | x :: l, i, h => by
    have h1 := h x List.mem_cons_self
    have h2 := jl_len l (i + 1) fun y hy => h y (List.mem_cons_of_mem _ hy)
    simp only [List.map_cons, jl, List.length_append, List.sum_cons]
    split
    · omega
    · simp only [List.length_nil]; omega
theorem itI_len (n : Int) : (itI n).length ≤ 21 := by
  by_cases h : numOk n = true
  · rw [itI_eq h]
    unfold numOk at h
    simp only [Bool.and_eq_true, decide_eq_true_eq] at h
    exact Lib.itoa_length_le n (by omega) (by omega)
  · unfold itI textB
    rw [chk_num, if_neg h]; simp
theorem itW_len (s : ByteArray) : (itW s).length ≤ 4 * s.size + 2 := by
  by_cases h : wordOk s = true
  · rw [itW_eq h]
    have := escs_le s.data.toList
    simp only [quoteL, List.cons_append, List.length_cons, List.length_append, List.length_nil]
    rw [bytes_len] at this
    omega
  · unfold itW textB
    rw [chk_word, if_neg h]; simp
theorem sum_ints (l : List Int) : (l.map fun _ => 23).sum = 23 * l.length := by
  induction l with
  | nil => rfl
  | cons x l ih => simp only [List.map_cons, List.sum_cons, ih, List.length_cons]; omega
theorem sum_words (l : List ByteArray) : (l.map fun s => 4 * s.size + 4).sum ≤ 4 * wordsWt l := by
  induction l with
  | nil => simp
  | cons x l ih => simp only [List.map_cons, List.sum_cons, wordsWt]; omega
theorem pred_len (k : Int) (a : ByteArray) (i : List Int) (w : List ByteArray) (l h : Int) : (predL k a i w l h).length ≤ a.size + 50 + 23 * i.length + 4 * wordsWt w := by
  have hi := jl_len (f := itI) (g := fun _ => 23) (sep := [44, 32]) i 0 (fun x _ => by have := itI_len x; simp only [List.length_cons, List.length_nil]; omega)
  have hlh := jl_len (f := itI) (g := fun _ => 23) (sep := [44, 32]) [l, h] 0 (fun x _ => by have := itI_len x; simp only [List.length_cons, List.length_nil]; omega)
  have hw := jl_len (f := itW) (g := fun s => 4 * s.size + 4) (sep := [44, 32]) w 0 (fun x _ => by have := itW_len x; simp only [List.length_cons, List.length_nil]; omega)
  rw [sum_ints] at hi hlh
  have hs := sum_words w
  rw [predL_eq, List.length_append, bytes_len, List.length_cons]
  unfold bodyL
  split
  · simp only [List.length_append, List.length_cons, List.length_nil]; omega
  split
  · simp only [List.length_append, List.length_cons, List.length_nil]; omega
  split
  · simp only [List.length_append, List.length_cons, List.length_nil] at hlh ⊢; omega
  split
  · simp only [List.length_append, List.length_cons, List.length_nil]; omega
  · simp only [List.length_nil]; omega
theorem sum_wt : ∀ (l : List Nd), (l.map fun x => 70 * wtN x).sum = 70 * wtL l
  | [] => rfl
  | x :: l => by simp only [List.map_cons, List.sum_cons, wtL, sum_wt l]; omega
theorem text_len : ∀ t, (textN t).length + 10 ≤ 70 * wtN t := by
  apply Nd.ind
  intro k a i w l h op ks ih
  have kid : ∀ (o : Int) (x : Nd), x ∈ ks → (kidL o x).length + 3 ≤ 70 * wtN x := fun o x hx => by
    have := ih x hx
    unfold kidL wrapB
    split
    · simp only [List.length_append, List.length_cons, List.length_nil]; omega
    · omega
  have kids : ∀ (o : Int) (sep : List UInt8), sep.length ≤ 3 → (jl sep 0 (ks.map (kidL o))).length ≤ 70 * wtL ks := fun o sep hs => by
    rw [← sum_wt]
    exact jl_len ks 0 fun x hx => by have := kid o x hx; omega
  have hp := pred_len k a i w l h
  rw [textN_eq]
  simp only [wtN]
  split
  · omega
  split
  · have := kids 2 [] (by decide)
    simp only [List.length_append, List.length_cons, List.length_nil]; omega
  split
  · have := kids 3 [32, 38, 32] (by decide); omega
  split
  · have := kids 4 [32, 124, 32] (by decide); omega
  · simp only [List.length_nil]; omega
end Go.Proofs.YtmdkdkcjgjknoaaDoor
