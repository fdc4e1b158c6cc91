/- Posts as plain lists: their order, the rising list of a list, what is merged and dropped. -/
namespace Go.Proofs.Ytelgpmjafaopmaa

abbrev Pt := Int × Bool
def cmpI (a b : Int) : Int := if a < b then -1 else if b < a then 1 else 0
/-- By ID; of one ID the one that is out is ahead. -/
def cmpP (a b : Pt) : Int := if a.1 < b.1 then -1 else if b.1 < a.1 then 1 else if a.2 = b.2 then 0 else if a.2 = true then -1 else 1
def ltP (a b : Pt) : Prop := cmpP a b < 0
instance : DecidableRel ltP := fun a b => inferInstanceAs (Decidable (cmpP a b < 0))
theorem lt_def (a b : Pt) : ltP a b ↔ a.1 < b.1 ∨ (a.1 = b.1 ∧ a.2 = true ∧ b.2 = false) := by
  unfold ltP cmpP
  obtain ⟨a1, a2⟩ := a
  obtain ⟨b1, b2⟩ := b
  cases a2 <;> cases b2 <;> simp <;> (repeat' split) <;> omega
theorem cmp_zero (a b : Pt) : cmpP a b = 0 ↔ a = b := by
  unfold cmpP
  obtain ⟨a1, a2⟩ := a
  obtain ⟨b1, b2⟩ := b
  cases a2 <;> cases b2 <;> simp <;> (repeat' split) <;> omega
theorem lt_irrefl (a : Pt) : ¬ ltP a a := by rw [lt_def]; rintro (h | ⟨_, h, h'⟩); omega; rw [h] at h'; cases h'
theorem lt_trans {a b c : Pt} (h : ltP a b) (h' : ltP b c) : ltP a c := by
  rw [lt_def] at *
  rcases h with h | ⟨h, h2, h3⟩ <;> rcases h' with h' | ⟨h', h4, h5⟩
  · left; omega
  · left; omega
  · left; omega
  · right; exact ⟨by omega, h2, h5⟩
theorem lt_asymm {a b : Pt} (h : ltP a b) : ¬ ltP b a := fun h' => lt_irrefl a (lt_trans h h')
theorem lt_total {a b : Pt} (h : ¬ ltP a b) (h' : ¬ ltP b a) : a = b := by
  rw [lt_def] at h h'
  obtain ⟨a1, a2⟩ := a
  obtain ⟨b1, b2⟩ := b
  simp only [Prod.mk.injEq] at *
  have : a1 = b1 := by omega
  refine ⟨this, ?_⟩
  cases a2 <;> cases b2 <;> simp_all
theorem lt_id {a b : Pt} (h : ltP a b) : a.1 ≤ b.1 := by rw [lt_def] at h; omega
/-- Strictly rising. -/
def Str (l : List Pt) : Prop := l.Pairwise ltP
/-- Not falling. -/
def Wk (l : List Pt) : Prop := l.Pairwise fun a b => ¬ ltP b a
theorem Str.nil : Str [] := List.Pairwise.nil
theorem Str.wk {l : List Pt} (h : Str l) : Wk l := h.imp fun h => lt_asymm h
theorem str_ext {l m : List Pt} (h : Str l) (h' : Str m) (hm : ∀ x, x ∈ l ↔ x ∈ m) : l = m := by
  induction l generalizing m with
  | nil =>
    cases m with
    | nil => rfl
    | cons y m => exact absurd ((hm y).2 (List.mem_cons_self)) (by simp)
  | cons x l ih =>
    cases m with
    | nil => exact absurd ((hm x).1 (List.mem_cons_self)) (by simp)
    | cons y m =>
      have hx := List.pairwise_cons.1 h
      have hy := List.pairwise_cons.1 h'
      have e : x = y := by
        rcases List.mem_cons.1 ((hm x).1 List.mem_cons_self) with e | e
        · exact e
        · rcases List.mem_cons.1 ((hm y).2 List.mem_cons_self) with e' | e'
          · exact e'.symm
          · exact absurd (hy.1 x e) (lt_asymm (hx.1 y e'))
      subst e
      congr 1
      refine ih hx.2 hy.2 fun z => ⟨fun hz => ?_, fun hz => ?_⟩
      · rcases List.mem_cons.1 ((hm z).1 (List.mem_cons_of_mem _ hz)) with e | e
        · subst e; exact absurd (hx.1 z hz) (lt_irrefl z)
        · exact e
      · rcases List.mem_cons.1 ((hm z).2 (List.mem_cons_of_mem _ hz)) with e | e
        · subst e; exact absurd (hy.1 z hz) (lt_irrefl z)
        · exact e
def ins (x : Pt) : List Pt → List Pt
  | [] => [x]
  | y :: l => if ltP x y then x :: y :: l else if x = y then y :: l else y :: ins x l
theorem mem_ins {x y : Pt} {l : List Pt} : y ∈ ins x l ↔ y = x ∨ y ∈ l := by
  induction l with
  | nil => simp [ins]
  | cons z l ih =>
    unfold ins
    split
    · simp
    · split
      · next e => subst e; simp
      · simp only [List.mem_cons, ih]
        constructor
        · rintro (h | h | h) <;> simp [h]
        · rintro (h | h | h) <;> simp [h]
theorem str_ins {x : Pt} {l : List Pt} (h : Str l) : Str (ins x l) := by
  induction l with
  | nil => exact List.pairwise_singleton _ _
  | cons z l ih =>
    have hz := List.pairwise_cons.1 h
    unfold ins
    split
    · next hlt =>
      refine List.pairwise_cons.2 ⟨fun y hy => ?_, h⟩
      rcases List.mem_cons.1 hy with e | e
      · subst e; exact hlt
      · exact lt_trans hlt (hz.1 y e)
    · next hlt =>
      split
      · exact h
      · next hne =>
        refine List.pairwise_cons.2 ⟨fun y hy => ?_, ih hz.2⟩
        rcases mem_ins.1 hy with e | e
        · subst e
          exact Classical.byContradiction fun hc => hne (lt_total hlt hc)
        · exact hz.1 y e
/-- The rising list of a list, each once. -/
def ris (l : List Pt) : List Pt := l.foldr ins []
theorem mem_ris {x : Pt} {l : List Pt} : x ∈ ris l ↔ x ∈ l := by
  induction l with
  | nil => simp [ris]
  | cons y l ih =>
    show x ∈ ins y (ris l) ↔ _
    rw [mem_ins, ih, List.mem_cons]
theorem str_ris (l : List Pt) : Str (ris l) := by
  induction l with
  | nil => exact Str.nil
  | cons y l ih => exact str_ins ih
theorem ris_of {l m : List Pt} (h : Str l) (hm : ∀ x, x ∈ l ↔ x ∈ m) : ris m = l := str_ext (str_ris m) h fun x => by rw [mem_ris, hm]
theorem ris_str {l : List Pt} (h : Str l) : ris l = l := ris_of h fun _ => Iff.rfl
theorem ris_ext {l m : List Pt} (h : ∀ x, x ∈ l ↔ x ∈ m) : ris l = ris m := (ris_of (str_ris m) fun x => by rw [mem_ris, h])
theorem ins_len (x : Pt) (l : List Pt) : (ins x l).length ≤ l.length + 1 ∧ l.length ≤ (ins x l).length := by
  induction l with
  | nil => simp [ins]
  | cons y l ih =>
    unfold ins
    split
    · simp
    · split
      · simp
      · simp only [List.length_cons]; omega
theorem ris_len (l : List Pt) : (ris l).length ≤ l.length := by
  induction l with
  | nil => simp [ris]
  | cons y l ih =>
    show (ins y (ris l)).length ≤ _
    have := (ins_len y (ris l)).1
    simp only [List.length_cons]; omega
theorem Str.nodup {l : List Pt} (h : Str l) : l.Nodup := h.imp fun {a b} hab e => by subst e; exact lt_irrefl a hab
theorem Str.sub {l m : List Pt} (h : Str l) (hm : m.Sublist l) : Str m := h.sublist hm
theorem Str.app {l m : List Pt} : Str (l ++ m) ↔ Str l ∧ Str m ∧ ∀ x ∈ l, ∀ y ∈ m, ltP x y := List.pairwise_append

/-- Each once, where equal ones stand side by side. -/
def stepC (acc : List Pt) (x : Pt) : List Pt := if acc.getLast? = some x then acc else acc ++ [x]
def cpt (l : List Pt) : List Pt := l.foldl stepC []
theorem cpt_snoc (l : List Pt) (x : Pt) : cpt (l ++ [x]) = stepC (cpt l) x := by unfold cpt; rw [List.foldl_append]; rfl
theorem step_last (acc : List Pt) (x : Pt) : (stepC acc x).getLast? = some x := by
  unfold stepC; split
  · assumption
  · simp
theorem cpt_last {l : List Pt} {x : Pt} (h : l.getLast? = some x) : (cpt l).getLast? = some x := by
  obtain ⟨m, rfl⟩ := List.getLast?_eq_some_iff.1 h
  rw [cpt_snoc]; exact step_last _ _
theorem mem_step {acc : List Pt} {x y : Pt} : y ∈ stepC acc x ↔ y ∈ acc ∨ y = x := by
  unfold stepC; split
  · next h =>
    constructor
    · exact Or.inl
    · rintro (h' | rfl)
      · exact h'
      · exact List.mem_of_getLast? h
  · simp
theorem mem_foldC {l acc : List Pt} {y : Pt} : y ∈ l.foldl stepC acc ↔ y ∈ acc ∨ y ∈ l := by
  induction l generalizing acc with
  | nil => simp
  | cons x l ih =>
    rw [List.foldl_cons, ih, mem_step, List.mem_cons]
    constructor
    · rintro ((h | h) | h) <;> simp [h]
    · rintro (h | h | h) <;> simp [h]
theorem mem_cpt {l : List Pt} {y : Pt} : y ∈ cpt l ↔ y ∈ l := by unfold cpt; rw [mem_foldC]; simp
theorem str_foldC {l acc : List Pt} (ha : Str acc) (hw : Wk l) (hb : ∀ x ∈ acc, ∀ y ∈ l, ¬ ltP y x) : Str (l.foldl stepC acc) := by
  induction l generalizing acc with
  | nil => exact ha
  | cons x l ih =>
    rw [List.foldl_cons]
    have hx := List.pairwise_cons.1 hw
    refine ih ?_ hx.2 ?_
    · unfold stepC; split
      · exact ha
      · next hne =>
        refine Str.app.2 ⟨ha, List.pairwise_singleton _ _, fun a haa y hy => ?_⟩
        obtain rfl : y = x := by simpa using hy
        have h1 := hb a haa y List.mem_cons_self
        refine Classical.byContradiction fun hc => ?_
        obtain rfl : a = y := lt_total hc h1
        -- a is in acc and no one of acc is greater: it is the last
        apply hne
        obtain ⟨z, hz⟩ : ∃ z, acc.getLast? = some z := by
          cases hq : acc.getLast? with
          | none => rw [List.getLast?_eq_none_iff] at hq; subst hq; cases haa
          | some z => exact ⟨z, rfl⟩
        obtain ⟨m, rfl⟩ := List.getLast?_eq_some_iff.1 hz
        rw [hz]
        rcases List.mem_append.1 haa with h | h
        · have h2 := (Str.app.1 ha).2.2 a h z (by simp)
          exact absurd h2 (hb z (by simp) a List.mem_cons_self)
        · simp at h; rw [h]
    · intro a haa y hy
      rcases mem_step.1 haa with h | rfl
      · exact hb a h y (List.mem_cons_of_mem _ hy)
      · exact hx.1 y hy
theorem cpt_ris {l m : List Pt} (hw : Wk l) (hp : ∀ x, x ∈ l ↔ x ∈ m) : cpt l = ris m :=
  (ris_of (str_foldC Str.nil hw (fun x hx => by cases hx)) fun x => by rw [← hp]; exact mem_cpt).symm
theorem cpt_len (l : List Pt) : (cpt l).length ≤ l.length := by
  have : ∀ (l acc : List Pt), (l.foldl stepC acc).length ≤ acc.length + l.length := by
    intro l
    induction l with
    | nil => intro acc; simp
    | cons x l ih =>
      intro acc
      rw [List.foldl_cons]
      have h1 := ih (stepC acc x)
      have h2 : (stepC acc x).length ≤ acc.length + 1 := by unfold stepC; split <;> simp
      simp only [List.length_cons]; omega
  simpa [cpt] using this l []
end Go.Proofs.Ytelgpmjafaopmaa
