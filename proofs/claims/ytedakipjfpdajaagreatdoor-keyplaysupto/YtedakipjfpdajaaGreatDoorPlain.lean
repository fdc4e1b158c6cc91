/- Keys as plain data: their order, the rising list of a list. -/
import Derived.Test.YtedakipjfpdajaaGreatDoorProg
namespace Go.Proofs.YtedakipjfpdajaaGreatDoor

def cmpI (a b : Int) : Int := if a < b then -1 else if b < a then 1 else 0
def cmpS (a b : List UInt8) : Int := if Op.bytesLess a b then -1 else if a == b then 0 else 1
theorem cmpS_lt {a b : List UInt8} (h : Op.bytesLess a b = true) : cmpS a b = -1 := by unfold cmpS; rw [if_pos h]
/-- A total order, told by -1, 0, 1. -/
structure IsCmp {α : Type} (c : α → α → Int) : Prop where
  rng : ∀ a b, c a b = -1 ∨ c a b = 0 ∨ c a b = 1
  neg : ∀ a b, c b a = - c a b
  eq : ∀ a b, c a b = 0 ↔ a = b
  trans : ∀ a b d, c a b ≤ 0 → c b d ≤ 0 → c a d ≤ 0

theorem isCmp_int : IsCmp cmpI where
  rng a b := by unfold cmpI; split; simp; split <;> simp
  neg a b := by unfold cmpI; split <;> split <;> (try split) <;> omega
  eq a b := by unfold cmpI; split <;> (try split) <;> (constructor <;> intro h <;> omega)
  trans a b d := by unfold cmpI; intro h1 h2; split <;> (try split) <;> (split at h1 <;> (try split at h1) <;> split at h2 <;> (try split at h2) <;> omega)

theorem less_irrefl : ∀ l : List UInt8, Op.bytesLess l l = false
  | [] => rfl
  | c :: l => by simp [Op.bytesLess, less_irrefl l]
theorem less_asymm : ∀ l m : List UInt8, Op.bytesLess l m = true → Op.bytesLess m l = false
  | _, [] => by simp [Op.bytesLess]
  | [], _ :: _ => by simp [Op.bytesLess]
  | a :: x, b :: y => by
    have ih := less_asymm x y
    simp only [Op.bytesLess, Bool.or_eq_true, Bool.and_eq_true, decide_eq_true_eq, beq_iff_eq, Bool.or_eq_false_iff, decide_eq_false_iff_not, Bool.and_eq_false_iff, beq_eq_false_iff_ne]
    rintro (h | ⟨rfl, h⟩)
    · refine ⟨fun h2 => ?_, Or.inl fun h2 => ?_⟩
      · exact absurd (UInt8.lt_trans h h2) (UInt8.lt_irrefl _)
      · subst h2; exact absurd h (UInt8.lt_irrefl _)
    · exact ⟨UInt8.lt_irrefl _, Or.inr (ih h)⟩
theorem less_total : ∀ l m : List UInt8, Op.bytesLess l m = false → l ≠ m → Op.bytesLess m l = true
  | [], [] => by simp
  | _ :: _, [] => by simp [Op.bytesLess]
  | [], _ :: _ => by simp [Op.bytesLess]
  | a :: x, b :: y => by
    have ih := less_total x y
    simp only [Op.bytesLess, Bool.or_eq_true, Bool.and_eq_true, decide_eq_true_eq, beq_iff_eq, Bool.or_eq_false_iff, decide_eq_false_iff_not, Bool.and_eq_false_iff, beq_eq_false_iff_ne]
    rintro ⟨h1, h2⟩ h3
    by_cases e : a = b
    · subst e
      refine Or.inr ⟨rfl, ih ?_ fun h => h3 (by rw [h])⟩
      rcases h2 with h2 | h2
      · exact absurd rfl h2
      · exact h2
    · left
      rw [UInt8.lt_iff_toNat_lt] at h1 ⊢
      have : a.toNat ≠ b.toNat := fun h => e (UInt8.toNat_inj.1 h)
      omega
theorem less_trans : ∀ l m n : List UInt8, Op.bytesLess l m = true → Op.bytesLess m n = true → Op.bytesLess l n = true
  | _, _, [] => by simp [Op.bytesLess]
  | _, [], _ :: _ => by intro h; simp [Op.bytesLess] at h
  | [], _ :: _, _ :: _ => by simp [Op.bytesLess]
  | a :: x, b :: y, c :: z => by
    have ih := less_trans x y z
    simp only [Op.bytesLess, Bool.or_eq_true, Bool.and_eq_true, decide_eq_true_eq, beq_iff_eq]
    rintro (h1 | ⟨rfl, h1⟩) (h2 | ⟨rfl, h2⟩)
    · exact Or.inl (UInt8.lt_trans h1 h2)
    · exact Or.inl h1
    · exact Or.inl h2
    · exact Or.inr ⟨rfl, ih h1 h2⟩

theorem cmpS_cases (a b : List UInt8) : (Op.bytesLess a b = true ∧ cmpS a b = -1) ∨ (a = b ∧ cmpS a b = 0) ∨ (Op.bytesLess b a = true ∧ cmpS a b = 1) := by
  cases h : Op.bytesLess a b
  · by_cases e : a = b
    · subst e; exact Or.inr (Or.inl ⟨rfl, by unfold cmpS; rw [if_neg (by simp [h]), if_pos (by simp)]⟩)
    · exact Or.inr (Or.inr ⟨less_total a b h e, by unfold cmpS; rw [if_neg (by simp [h]), if_neg (by simpa using e)]⟩)
  · exact Or.inl ⟨rfl, cmpS_lt h⟩
theorem cmpS_of_lt {a b : List UInt8} (h : Op.bytesLess b a = true) : cmpS a b = 1 := by
  rcases cmpS_cases a b with ⟨h1, _⟩ | ⟨rfl, _⟩ | ⟨_, h2⟩
  · rw [less_asymm _ _ h] at h1; simp at h1
  · rw [less_irrefl] at h; simp at h
  · exact h2
theorem cmpS_refl (a : List UInt8) : cmpS a a = 0 := by
  unfold cmpS; rw [if_neg (by simp [less_irrefl]), if_pos (by simp)]

theorem isCmp_str : IsCmp cmpS where
  rng a b := by rcases cmpS_cases a b with ⟨_, h⟩ | ⟨_, h⟩ | ⟨_, h⟩ <;> simp [h]
  neg a b := by
    rcases cmpS_cases a b with ⟨h1, h⟩ | ⟨rfl, h⟩ | ⟨h1, h⟩
    · rw [cmpS_of_lt h1, h]; rfl
    · rw [h]; rfl
    · rw [cmpS_lt h1, h]
  eq a b := by
    rcases cmpS_cases a b with ⟨h1, h⟩ | ⟨rfl, h⟩ | ⟨h1, h⟩
    · rw [h]; refine ⟨fun h => by omega, fun e => ?_⟩; subst e; rw [less_irrefl] at h1; simp at h1
    · simp [h]
    · rw [h]; refine ⟨fun h => by omega, fun e => ?_⟩; subst e; rw [less_irrefl] at h1; simp at h1
  trans a b d h1 h2 := by
    rcases cmpS_cases a b with ⟨h, e⟩ | ⟨rfl, _⟩ | ⟨_, e⟩
    · rcases cmpS_cases b d with ⟨h', e'⟩ | ⟨rfl, _⟩ | ⟨_, e'⟩
      · rw [cmpS_lt (less_trans _ _ _ h h')]; omega
      · exact h1
      · omega
    · exact h2
    · omega

/-- First by the one, then by the other. -/
theorem isCmp_then {α β : Type} {c : α → α → Int} {d : β → β → Int} (hc : IsCmp c) (hd : IsCmp d) : IsCmp (fun (p q : α × β) => if c p.1 q.1 = 0 then d p.2 q.2 else c p.1 q.1) where
  rng p q := by split; exact hd.rng _ _; exact hc.rng _ _
  neg p q := by
    have h1 := hc.neg p.1 q.1
    have h2 := hd.neg p.2 q.2
    by_cases e : c p.1 q.1 = 0
    · rw [if_pos e, if_pos (by omega), h2]
    · rw [if_neg e, if_neg (by omega), h1]
  eq p q := by
    by_cases e : c p.1 q.1 = 0
    · rw [if_pos e, hd.eq]
      exact ⟨fun h => Prod.ext ((hc.eq _ _).1 e) h, fun h => by rw [h]⟩
    · rw [if_neg e]
      exact ⟨fun h => absurd h e, fun h => absurd ((hc.eq _ _).2 (by rw [h])) e⟩
  trans p q r := by
    intro h1 h2
    by_cases e1 : c p.1 q.1 = 0
    · rw [if_pos e1] at h1
      rw [(hc.eq _ _).1 e1]
      by_cases e2 : c q.1 r.1 = 0
      · rw [if_pos e2] at h2 ⊢; exact hd.trans _ _ _ h1 h2
      · rw [if_neg e2] at h2 ⊢; exact h2
    · rw [if_neg e1] at h1
      by_cases e2 : c q.1 r.1 = 0
      · rw [← (hc.eq _ _).1 e2, if_neg e1]; exact h1
      · rw [if_neg e2] at h2
        have h3 := hc.trans _ _ _ h1 h2
        by_cases e3 : c p.1 r.1 = 0
        · exfalso
          have h4 := (hc.eq _ _).1 e3
          have h5 := hc.neg p.1 q.1
          rw [h4] at h5 h1 e1
          rcases hc.rng r.1 q.1 with h6 | h6 | h6 <;> omega
        · rw [if_neg e3]; exact h3


/-- A key. -/
structure Ky where
  attr : ByteArray
  kind : Int
  level : Int
  num : Int
  word : ByteArray
instance : Inhabited Ky := ⟨⟨⟨#[]⟩, 0, 0, 0, ⟨#[]⟩⟩⟩
theorem bytes_ext {a b : ByteArray} (h : a.data.toList = b.data.toList) : a = b := by
  obtain ⟨a⟩ := a
  obtain ⟨b⟩ := b
  congr 1
  exact Array.toList_inj.1 h
def kParts (x : Ky) : List UInt8 × Int × Int × Int × List UInt8 := (x.attr.data.toList, x.kind, x.level, x.num, x.word.data.toList)
theorem kParts_inj {x y : Ky} : kParts x = kParts y ↔ x = y := by
  constructor
  · intro h
    obtain ⟨a, k, l, n, s⟩ := x
    obtain ⟨a', k', l', n', s'⟩ := y
    simp only [kParts, Prod.mk.injEq] at h
    obtain ⟨h1, rfl, rfl, rfl, h5⟩ := h
    rw [bytes_ext h1, bytes_ext h5]
  · rintro rfl; rfl
instance : DecidableEq Ky := fun x y => decidable_of_iff (kParts x = kParts y) kParts_inj
def cmpT (p q : List UInt8 × Int × Int × Int × List UInt8) : Int := if cmpS p.1 q.1 = 0 then (if cmpI p.2.1 q.2.1 = 0 then (if cmpI p.2.2.1 q.2.2.1 = 0 then (if cmpI p.2.2.2.1 q.2.2.2.1 = 0 then cmpS p.2.2.2.2 q.2.2.2.2 else cmpI p.2.2.2.1 q.2.2.2.1) else cmpI p.2.2.1 q.2.2.1) else cmpI p.2.1 q.2.1) else cmpS p.1 q.1
theorem isCmp_five : IsCmp cmpT := isCmp_then isCmp_str (isCmp_then isCmp_int (isCmp_then isCmp_int (isCmp_then isCmp_int isCmp_str)))
/-- The order of keys. -/
def cmpK (x y : Ky) : Int := cmpT (kParts x) (kParts y)
theorem isCmp_key : IsCmp cmpK where
  rng _ _ := isCmp_five.rng _ _
  neg _ _ := isCmp_five.neg _ _
  eq _ _ := (isCmp_five.eq _ _).trans kParts_inj
  trans _ _ _ := isCmp_five.trans _ _ _
def ltK (a b : Ky) : Prop := cmpK a b < 0
instance : DecidableRel ltK := fun a b => inferInstanceAs (Decidable (cmpK a b < 0))
theorem cmp_zero (a b : Ky) : cmpK a b = 0 ↔ a = b := isCmp_key.eq a b
theorem lt_irrefl (a : Ky) : ¬ ltK a a := by unfold ltK; rw [(cmp_zero a a).2 rfl]; decide
theorem lt_asymm {a b : Ky} (h : ltK a b) : ¬ ltK b a := by unfold ltK at *; rw [isCmp_key.neg a b]; omega
theorem lt_total {a b : Ky} (h : ¬ ltK a b) (h' : ¬ ltK b a) : a = b := by
  unfold ltK at *; rw [isCmp_key.neg a b] at h'
  exact (cmp_zero a b).1 (by omega)
theorem lt_trans {a b c : Ky} (h : ltK a b) (h' : ltK b c) : ltK a c := by
  have h1 := isCmp_key.trans a b c (by unfold ltK at h; omega) (by unfold ltK at h'; omega)
  refine Classical.byContradiction fun hn => ?_
  have h0 : cmpK a c = 0 := by unfold ltK at hn; omega
  have e := (cmp_zero a c).1 h0
  subst e
  exact lt_asymm h h'
/-- Strictly rising. -/
def Str (l : List Ky) : Prop := l.Pairwise ltK
/-- Not falling. -/
def Wk (l : List Ky) : Prop := l.Pairwise fun a b => ¬ ltK b a
theorem Str.nil : Str [] := List.Pairwise.nil
theorem Str.wk {l : List Ky} (h : Str l) : Wk l := h.imp fun h => lt_asymm h
theorem str_ext {l m : List Ky} (h : Str l) (h' : Str m) (hm : ∀ x, x ∈ l ↔ x ∈ m) : l = m := by
  induction l generalizing m with
  | nil =>
    cases m with
    | nil => rfl
    | cons y m => exact absurd ((hm y).2 (List.mem_cons_self)) (by simp)
  | cons x l ih =>
    cases m with
    | nil => exact absurd ((hm x).1 (List.mem_cons_self)) (by simp)
    | cons y m =>
      have hx := List.pairwise_cons.1 h
      have hy := List.pairwise_cons.1 h'
      have e : x = y := by
        rcases List.mem_cons.1 ((hm x).1 List.mem_cons_self) with e | e
        · exact e
        · rcases List.mem_cons.1 ((hm y).2 List.mem_cons_self) with e' | e'
          · exact e'.symm
          · exact absurd (hy.1 x e) (lt_asymm (hx.1 y e'))
      subst e
      congr 1
      refine ih hx.2 hy.2 fun z => ⟨fun hz => ?_, fun hz => ?_⟩
      · rcases List.mem_cons.1 ((hm z).1 (List.mem_cons_of_mem _ hz)) with e | e
        · subst e; exact absurd (hx.1 z hz) (lt_irrefl z)
        · exact e
      · rcases List.mem_cons.1 ((hm z).2 (List.mem_cons_of_mem _ hz)) with e | e
        · subst e; exact absurd (hy.1 z hz) (lt_irrefl z)
        · exact e
def ins (x : Ky) : List Ky → List Ky
  | [] => [x]
  | y :: l => if ltK x y then x :: y :: l else if x = y then y :: l else y :: ins x l
theorem mem_ins {x y : Ky} {l : List Ky} : y ∈ ins x l ↔ y = x ∨ y ∈ l := by
  induction l with
  | nil => simp [ins]
  | cons z l ih =>
    unfold ins
    split
    · simp
    · split
      · next e => subst e; simp
      · simp only [List.mem_cons, ih]
        constructor
        · rintro (h | h | h) <;> simp [h]
        · rintro (h | h | h) <;> simp [h]
theorem str_ins {x : Ky} {l : List Ky} (h : Str l) : Str (ins x l) := by
  induction l with
  | nil => exact List.pairwise_singleton _ _
  | cons z l ih =>
    have hz := List.pairwise_cons.1 h
    unfold ins
    split
    · next hlt =>
      refine List.pairwise_cons.2 ⟨fun y hy => ?_, h⟩
      rcases List.mem_cons.1 hy with e | e
      · subst e; exact hlt
      · exact lt_trans hlt (hz.1 y e)
    · next hlt =>
      split
      · exact h
      · next hne =>
        refine List.pairwise_cons.2 ⟨fun y hy => ?_, ih hz.2⟩
        rcases mem_ins.1 hy with e | e
        · subst e
          exact Classical.byContradiction fun hc => hne (lt_total hlt hc)
        · exact hz.1 y e
/-- The rising list of a list, each once. -/
def ris (l : List Ky) : List Ky := l.foldr ins []
theorem mem_ris {x : Ky} {l : List Ky} : x ∈ ris l ↔ x ∈ l := by
  induction l with
  | nil => simp [ris]
  | cons y l ih =>
    show x ∈ ins y (ris l) ↔ _
    rw [mem_ins, ih, List.mem_cons]
theorem str_ris (l : List Ky) : Str (ris l) := by
  induction l with
  | nil => exact Str.nil
  | cons y l ih => exact str_ins ih
theorem ris_of {l m : List Ky} (h : Str l) (hm : ∀ x, x ∈ l ↔ x ∈ m) : ris m = l := str_ext (str_ris m) h fun x => by rw [mem_ris, hm]
theorem ris_str {l : List Ky} (h : Str l) : ris l = l := ris_of h fun _ => Iff.rfl
theorem ris_ext {l m : List Ky} (h : ∀ x, x ∈ l ↔ x ∈ m) : ris l = ris m := (ris_of (str_ris m) fun x => by rw [mem_ris, h])
theorem ins_len (x : Ky) (l : List Ky) : (ins x l).length ≤ l.length + 1 ∧ l.length ≤ (ins x l).length := by
  induction l with
  | nil => simp [ins]
  | cons y l ih =>
    unfold ins
    split
    · simp
    · split
      · simp
      · simp only [List.length_cons]; omega
theorem ris_len (l : List Ky) : (ris l).length ≤ l.length := by
  induction l with
  | nil => simp [ris]
  | cons y l ih =>
    show (ins y (ris l)).length ≤ _
    have := (ins_len y (ris l)).1
    simp only [List.length_cons]; omega
theorem Str.nodup {l : List Ky} (h : Str l) : l.Nodup := h.imp fun {a b} hab e => by subst e; exact lt_irrefl a hab
theorem Str.sub {l m : List Ky} (h : Str l) (hm : m.Sublist l) : Str m := h.sublist hm
theorem Str.app {l m : List Ky} : Str (l ++ m) ↔ Str l ∧ Str m ∧ ∀ x ∈ l, ∀ y ∈ m, ltK x y := List.pairwise_append

/-- Each once, where equal ones stand side by side. -/
def stepC (acc : List Ky) (x : Ky) : List Ky := if acc.getLast? = some x then acc else acc ++ [x]
def cpt (l : List Ky) : List Ky := l.foldl stepC []
theorem cpt_snoc (l : List Ky) (x : Ky) : cpt (l ++ [x]) = stepC (cpt l) x := by unfold cpt; rw [List.foldl_append]; rfl
theorem step_last (acc : List Ky) (x : Ky) : (stepC acc x).getLast? = some x := by
  unfold stepC; split
  · assumption
  · simp
theorem cpt_last {l : List Ky} {x : Ky} (h : l.getLast? = some x) : (cpt l).getLast? = some x := by
  obtain ⟨m, rfl⟩ := List.getLast?_eq_some_iff.1 h
  rw [cpt_snoc]; exact step_last _ _
theorem mem_step {acc : List Ky} {x y : Ky} : y ∈ stepC acc x ↔ y ∈ acc ∨ y = x := by
  unfold stepC; split
  · next h =>
    constructor
    · exact Or.inl
    · rintro (h' | rfl)
      · exact h'
      · exact List.mem_of_getLast? h
  · simp
theorem mem_foldC {l acc : List Ky} {y : Ky} : y ∈ l.foldl stepC acc ↔ y ∈ acc ∨ y ∈ l := by
  induction l generalizing acc with
  | nil => simp
  | cons x l ih =>
    rw [List.foldl_cons, ih, mem_step, List.mem_cons]
    constructor
    · rintro ((h | h) | h) <;> simp [h]
    · rintro (h | h | h) <;> simp [h]
theorem mem_cpt {l : List Ky} {y : Ky} : y ∈ cpt l ↔ y ∈ l := by unfold cpt; rw [mem_foldC]; simp
theorem str_foldC {l acc : List Ky} (ha : Str acc) (hw : Wk l) (hb : ∀ x ∈ acc, ∀ y ∈ l, ¬ ltK y x) : Str (l.foldl stepC acc) := by
  induction l generalizing acc with
  | nil => exact ha
  | cons x l ih =>
    rw [List.foldl_cons]
    have hx := List.pairwise_cons.1 hw
    refine ih ?_ hx.2 ?_
    · unfold stepC; split
      · exact ha
      · next hne =>
        refine Str.app.2 ⟨ha, List.pairwise_singleton _ _, fun a haa y hy => ?_⟩
        obtain rfl : y = x := by simpa using hy
        have h1 := hb a haa y List.mem_cons_self
        refine Classical.byContradiction fun hc => ?_
        obtain rfl : a = y := lt_total hc h1
        -- a is in acc and no one of acc is greater: it is the last
        apply hne
        obtain ⟨z, hz⟩ : ∃ z, acc.getLast? = some z := by
          cases hq : acc.getLast? with
          | none => rw [List.getLast?_eq_none_iff] at hq; subst hq; cases haa
          | some z => exact ⟨z, rfl⟩
        obtain ⟨m, rfl⟩ := List.getLast?_eq_some_iff.1 hz
        rw [hz]
        rcases List.mem_append.1 haa with h | h
        · have h2 := (Str.app.1 ha).2.2 a h z (by simp)
          exact absurd h2 (hb z (by simp) a List.mem_cons_self)
        · simp at h; rw [h]
    · intro a haa y hy
      rcases mem_step.1 haa with h | rfl
      · exact hb a h y (List.mem_cons_of_mem _ hy)
      · exact hx.1 y hy
theorem cpt_ris {l m : List Ky} (hw : Wk l) (hp : ∀ x, x ∈ l ↔ x ∈ m) : cpt l = ris m :=
  (ris_of (str_foldC Str.nil hw (fun x hx => by cases hx)) fun x => by rw [← hp]; exact mem_cpt).symm
theorem cpt_len (l : List Ky) : (cpt l).length ≤ l.length := by
  have : ∀ (l acc : List Ky), (l.foldl stepC acc).length ≤ acc.length + l.length := by
    intro l
    induction l with
    | nil => intro acc; simp
    | cons x l ih =>
      intro acc
      rw [List.foldl_cons]
      have h1 := ih (stepC acc x)
      have h2 : (stepC acc x).length ≤ acc.length + 1 := by unfold stepC; split <;> simp
      simp only [List.length_cons]; omega
  simpa [cpt] using this l []
end Go.Proofs.YtedakipjfpdajaaGreatDoor
