/- Two rising lists are joined; what is appended to a row of the call's own, and what stays of it. -/
import Derived.Test.YtelgpmjafaopmaaWithout
namespace Go.Proofs.Ytelgpmjafaopmaa
open Go.RowKit Go.Sort Go.Shelf

theorem take_cnt {α : Type} (p : α → Bool) (l : List α) : l.take (cnt p l) = l.takeWhile p ∧ l.drop (cnt p l) = l.dropWhile p := by
  have h := List.takeWhile_append_dropWhile (p := p) (l := l)
  unfold cnt
  constructor
  · conv => lhs; rw [← h]
    exact List.take_left' (by rw [h])
  · conv => lhs; rw [← h]
    exact List.drop_left' (by rw [h])
theorem take_lt {p : Pt} {d : List Pt} : ∀ x ∈ d.takeWhile (ltQ p), ltP x p := fun x hx => by
  have := List.all_takeWhile (p := ltQ p) (l := d)
  exact of_decide_eq_true (List.all_eq_true.1 this x hx)
theorem drop_nlt {p : Pt} {d : List Pt} (h : Str d) : ∀ x ∈ d.dropWhile (ltQ p), ¬ ltP x p := by
  intro x hx
  cases hd : d.dropWhile (ltQ p) with
  | nil => rw [hd] at hx; cases hx
  | cons y r =>
    have hy : ltQ p y = false := by
      have := List.head?_dropWhile_not (ltQ p) d
      rw [hd] at this
      simpa using this
    have hy' : ¬ ltP y p := of_decide_eq_false hy
    rw [hd] at hx
    have hs : Str (y :: r) := hd ▸ h.sub (List.dropWhile_sublist _)
    rcases List.mem_cons.1 hx with rfl | hr
    · exact hy'
    · exact fun hc => hy' (lt_trans ((List.pairwise_cons.1 hs).1 x hr) hc)
/-- One step of the join. -/
theorem join_step {l m al : List Pt} {i k : Nat} {p : Pt} (hm : Str m) (hp : m[i]? = some p) (h1 : Str (al ++ l.drop k)) (h2 : ∀ x, x ∈ al ++ l.drop k ↔ x ∈ l ∨ x ∈ m.take i) (h3 : ∀ x ∈ al, ∀ y ∈ m.drop i, ltP x y)
    {pl : Nat} (hpl : cnt (ltQ p) (l.drop k) = pl) {f : Bool} (hf : decide (p ∈ l.drop k) = f) {al' : List Pt} (ha : al' = (al ++ (l.drop k).take pl) ++ (if f = true then [] else [p])) :
    Str (al' ++ l.drop (k + pl)) ∧ (∀ x, x ∈ al' ++ l.drop (k + pl) ↔ x ∈ l ∨ x ∈ m.take (i + 1)) ∧ ∀ x ∈ al', ∀ y ∈ m.drop (i + 1), ltP x y := by
  have hd : Str (l.drop k) := (Str.app.1 h1).2.1
  obtain ⟨e1, e2⟩ := take_cnt (ltQ p) (l.drop k)
  have hA := take_lt (p := p) (d := l.drop k)
  have hD := drop_nlt (p := p) hd
  have hAD := List.takeWhile_append_dropWhile (p := ltQ p) (l := l.drop k)
  rw [hpl] at e1 e2
  rw [List.drop_drop] at e2
  rw [e2, ha, e1]
  rw [← hAD, ← List.append_assoc] at h1 h2
  have hpd : p ∈ l.drop k ↔ p ∈ (l.drop k).dropWhile (ltQ p) := by
    rw [← hAD]
    constructor
    · intro h
      rcases List.mem_append.1 h with h | h
      · exact absurd (hA p h) (lt_irrefl p)
      · rwa [hAD] 
    · intro h
      rw [hAD] at h
      exact List.mem_append_right _ h
  generalize (l.drop k).takeWhile (ltQ p) = A at *
  generalize (l.drop k).dropWhile (ltQ p) = D at *
  have hmt : ∀ x, x ∈ m.take (i + 1) ↔ x ∈ m.take i ∨ x = p := fun x => by rw [take_snoc_of hp, List.mem_append, List.mem_singleton]
  have hpm : p ∈ m.drop i := by
    obtain ⟨hi, rfl⟩ := List.getElem?_eq_some_iff.1 hp
    rw [List.drop_eq_getElem_cons hi]; exact List.mem_cons_self
  have hlt : ∀ y ∈ m.drop (i + 1), ltP p y := by
    obtain ⟨hi, rfl⟩ := List.getElem?_eq_some_iff.1 hp
    have hs : Str (m.drop i) := hm.sub (List.drop_sublist _ _)
    rw [List.drop_eq_getElem_cons hi] at hs
    exact (List.pairwise_cons.1 hs).1
  have hsub : ∀ y, y ∈ m.drop (i + 1) → y ∈ m.drop i := fun y hy => by
    obtain ⟨hi, rfl⟩ := List.getElem?_eq_some_iff.1 hp
    rw [List.drop_eq_getElem_cons hi]; exact List.mem_cons_of_mem _ hy
  cases f with
  | true =>
    have hpD : p ∈ D := hpd.1 (of_decide_eq_true hf)
    simp only [if_true, List.append_nil]
    refine ⟨h1, fun x => ?_, fun x hx y hy => ?_⟩
    · rw [h2, hmt]
      constructor
      · rintro (h | h)
        · exact Or.inl h
        · exact Or.inr (Or.inl h)
      · rintro (h | h | h)
        · exact Or.inl h
        · exact Or.inr h
        · subst h
          exact (h2 x).1 (List.mem_append_right _ hpD)
    · rcases List.mem_append.1 hx with h | h
      · exact h3 x h y (hsub y hy)
      · exact lt_trans (hA x h) (hlt y hy)
  | false =>
    have hpD : p ∉ D := fun h => of_decide_eq_false hf (hpd.2 h)
    simp only [Bool.false_eq_true, if_false]
    obtain ⟨s1, s2, s3⟩ := Str.app.1 h1
    have hpDl : ∀ y ∈ D, ltP p y := fun y hy => Classical.byContradiction fun hc => hpD (lt_total hc (hD y hy) ▸ hy)
    have hap : ∀ x ∈ al ++ A, ltP x p := fun x hx => by
      rcases List.mem_append.1 hx with h | h
      · exact h3 x h p hpm
      · exact hA x h
    refine ⟨?_, fun x => ?_, fun x hx y hy => ?_⟩
    · refine Str.app.2 ⟨Str.app.2 ⟨s1, List.pairwise_singleton _ _, fun x hx y hy => ?_⟩, s2, fun x hx y hy => ?_⟩
      · obtain rfl : y = p := by simpa using hy
        exact hap x hx
      · rcases List.mem_append.1 hx with h | h
        · exact s3 x h y hy
        · obtain rfl : x = p := by simpa using h
          exact hpDl y hy
    · have := h2 x
      simp only [List.mem_append, List.mem_singleton] at this ⊢
      rw [hmt]
      constructor
      · rintro (((h | h) | h) | h)
        · rcases this.1 (Or.inl (Or.inl h)) with h | h
          · exact Or.inl h
          · exact Or.inr (Or.inl h)
        · rcases this.1 (Or.inl (Or.inr h)) with h | h
          · exact Or.inl h
          · exact Or.inr (Or.inl h)
        · exact Or.inr (Or.inr h)
        · rcases this.1 (Or.inr h) with h | h
          · exact Or.inl h
          · exact Or.inr (Or.inl h)
      · rintro (h | h | h)
        · rcases this.2 (Or.inl h) with (h | h) | h
          · exact Or.inl (Or.inl (Or.inl h))
          · exact Or.inl (Or.inl (Or.inr h))
          · exact Or.inr h
        · rcases this.2 (Or.inr h) with (h | h) | h
          · exact Or.inl (Or.inl (Or.inl h))
          · exact Or.inl (Or.inl (Or.inr h))
          · exact Or.inr h
        · exact Or.inl (Or.inr h)
    · rcases List.mem_append.1 hx with h | h
      · exact lt_trans (hap x h) (hlt y hy)
      · obtain rfl : x = p := by simpa using h
        exact hlt y hy
theorem join_len {l m al : List Pt} {i k : Nat} (h1 : Str (al ++ l.drop k)) (h2 : ∀ x, x ∈ al ++ l.drop k ↔ x ∈ l ∨ x ∈ m.take i) (hi : i ≤ m.length) : al.length + (l.drop k).length ≤ l.length + i := by
  have e : ris (l ++ m.take i) = al ++ l.drop k := ris_of h1 fun x => by rw [h2, List.mem_append]
  have := ris_len (l ++ m.take i)
  rw [e, List.length_append, List.length_append, List.length_take] at this
  omega

/-- Where the row lies behind an append: where it lay, or all that lay has stayed and it is new. -/
def Stays (w w' : World) (q q' : Option Addr) : Prop := w.grownBy w' (q.map (·.block)) ∧ (q' = q ∨ (w.grownBy w' none ∧ (q' = none ∨ ∃ g', q' = some ⟨g', 0, none⟩ ∧ w.heap.size ≤ g')))
theorem own_block (q : Option Addr) (n c : Nat) : (Value.slice q n c).ownBlock = q.map (·.block) := by cases q <;> rfl
theorem run_appK (ty : TypeId) (w : World) (B : Nat) (q : Option Addr) (cap : Nat) (l : List Pt) (p : Option Addr) (c : Nat) (m : List Pt) (hown : OwnK encP 43 2 B w q cap l) (hs : SrcK encP 2 w p c m) (hm : l.length + m.length ≤ maxLen) (hb : (l.length + m.length) * 16 ≤ 140737488355328) (hB : B ≤ w.heap.size) :
    ∃ q' cap' w', (Builtin.append_ #[28, 28] ty #[.slice q l.length cap, .slice p m.length c]).run Try.prog w = .ok (.slice q' (l.length + m.length) cap') w' ∧ OwnK encP 43 2 B w' q' cap' (l ++ m) ∧ Below B w w' ∧ Stays w w' q q' := by
  obtain ⟨q', cap', w', hr, ho, hbl, _, hg⟩ := run_app rowP ty w B q cap l p c m hown hs hm hb hB
  rw [own_block] at hg
  refine ⟨q', cap', w', hr, ho, hbl, hg, ?_⟩
  obtain ⟨i0, hi, hz0, hz1, hz2⟩ := info_parts Try.info43
  cases p with
  | none =>
    obtain ⟨h0, rfl⟩ := hs.1 rfl
    obtain rfl : m = [] := List.length_eq_zero_iff.1 h0
    have hr2 := run_append_owned_none (P := Try.prog) (w := w) B 28 ty 43 i0 2 Try.underlying28 hi _ _ _ hown
    simp only [List.length_nil, Nat.add_zero] at hr
    have e := hr.symm.trans hr2
    injection e with e1 e2
    injection e1 with e1
    exact Or.inl e1
  | some ad =>
    rcases hown.2 with ⟨h1, h2⟩ | ⟨g, cap1, cur, hv, hbg, hblk, hnc, hcm, hcs, htk⟩
    · injection h1 with h1 h3 h4
      subst h1
      refine Or.inr ⟨hg, ?_⟩
      rcases ho.2 with ⟨h5, _⟩ | ⟨g', _, _, hv', _⟩
      · injection h5 with h5; exact Or.inl h5
      · injection hv' with h5
        refine Or.inr ⟨g', h5, ?_⟩
        -- the row is new: what was asked for lay nowhere
        obtain ⟨v2, w2, hr2, _, _, _, hat⟩ := run_append_own_at (P := Try.prog) w B 28 ty 43 i0 (.agg #[.int .i64 0, .bool false]) 2 16 Try.underlying28 hi hz0 hz1 hz2 rfl (by decide) _ _ _ hown ad m.length c (flatK encP 2 m.toArray).toList (by rw [flat_len]) (hs.2 ad rfl) (rowP.one m) hm hb hB
        have e := hr.symm.trans hr2
        injection e with e1 e2
        rw [← e1, own_block, own_block, h5] at hat
        rcases hat with h | h
        · simp at h
        · simp at h; omega
    · injection hv with h1 h2 h3
      subst h1 h3
      by_cases hroom : l.length + m.length ≤ cap
      · have hr2 := run_append_room (P := Try.prog) w 28 ty 43 i0 Try.underlying28 hi g l.length cap cur hblk ad m.length c (flatK encP 2 m.toArray).toList (by rw [flat_len, hz1]) (hs.2 ad rfl) (rowP.one m) hroom (by rw [flat_len, hz1, hcs, ← Nat.add_mul]; exact Nat.mul_le_mul_right _ hroom)
        have e := hr.symm.trans hr2
        injection e with e1 e2
        injection e1 with e1
        exact Or.inl e1
      · have hr2 := run_append_grow (P := Try.prog) w 28 ty 43 i0 _ Try.underlying28 hi hz0 ⟨g, 0, none⟩ l.length cap (flatK encP 2 l.toArray).toList (by rw [flat_len, hz1]) (World.ownsRow.cells (v := .slice (some ⟨g, 0, none⟩) l.length cap) hown rfl) ad m.length c (flatK encP 2 m.toArray).toList (by rw [flat_len, hz1]) (hs.2 ad rfl) (by omega) (by unfold maxLen at hm; omega) (growslice_fits (by omega) (by rw [hz2]; exact hb))
        have e := hr.symm.trans hr2
        injection e with e1 e2
        injection e1 with e1
        refine Or.inr ⟨?_, Or.inr ⟨w.heap.size, e1, Nat.le_refl _⟩⟩
        rw [e2]
        exact grown_below (((Below.refl _ w).drew).alloc (Nat.le_refl _) _) _
theorem wpList_appK {ops : Array Oper} {rest : List Oper} {o : Oper} {a : Act} {w : World} {Q : Exit → Act → World → Prop} (hgd : o.guard = none) (s x : Operand)
    (ho : o.op = .call { callee := .builtin .append, args := #[s, x], argTypes := #[28, 28] }) (B : Nat) (q : Option Addr) (cap : Nat) (l : List Pt) (p : Option Addr) (c : Nat) (m : List Pt) (n n' N : Nat) (hn : l.length = n) (hn' : m.length = n') (hN : n + n' = N)
    (es : a.eval s = .slice q n cap) (ex : a.eval x = .slice p n' c) (hown : OwnK encP 43 2 B w q cap l) (hs : SrcK encP 2 w p c m) (hm : N ≤ maxLen) (hb : N * 16 ≤ 140737488355328) (hB : B ≤ w.heap.size)
    (h : ∀ q' cap' w', OwnK encP 43 2 B w' q' cap' (l ++ m) → Below B w w' → Stays w w' q q' → wpList Try.prog ops Q rest (a.put o.dst (.slice q' N cap')) w') : wpList Try.prog ops Q (o :: rest) a w := by
  subst hn hn' hN
  refine wpList_plain hgd fun K hK => ?_
  obtain ⟨q', cap', w', hr, h2, h3, h4⟩ := run_appK o.type w B q cap l p c m hown hs hm hb hB
  unfold Oper.wp execOp
  simp only [ho, resolve, invoke, builtin, Sem.run_bind, Sem.run_pure, Result.andThen_ok, List.map_toArray, List.map_cons, List.map_nil, es, ex, hr]
  exact hK _ _ (h q' cap' w' h2 h3 h4)
end Go.Proofs.Ytelgpmjafaopmaa
