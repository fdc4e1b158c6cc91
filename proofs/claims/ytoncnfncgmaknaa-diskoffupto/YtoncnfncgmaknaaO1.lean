/- Each act of a disk, as far as its power and its sizes go. -/
import Derived.Test.YtoncnfncgmaknaaRest
namespace Go.Proofs.Ytoncnfncgmaknaa
open Go.RowKit Go.Sort Go.Shelf

/-- All names are in form, all files of at most Z bytes. -/
def Fit (s : Dk) (Z : Nat) : Prop := ∀ nm fl, s.get nm = some fl → nameOk nm = true ∧ fl.bytes.length ≤ Z
theorem Fit.mono {s : Dk} {Z Z' : Nat} (h : Fit s Z) (hz : Z ≤ Z') : Fit s Z' := fun nm fl hf => ⟨(h nm fl hf).1, Nat.le_trans (h nm fl hf).2 hz⟩
/-- What an act makes of the power. -/
structure Step (s s' : Dk) (E : Int) (d : Nat) : Prop where
  n : s'.n ≤ s.n + 1
  fit : ∀ Z, Fit s Z → Fit s' (Z + d)
  way : (E = 0 ∧ s.off = false ∧ s.named ≠ 1 ∧ s'.off = false ∧ s'.named = s.named - 1 ∧ s'.acts = s.acts + 1) ∨ (E = 40 ∧ s.off = false ∧ s.named = 1 ∧ s'.off = true ∧ s'.acts = s.acts) ∨ (E = 40 ∧ s.off = true ∧ s'.off = true ∧ s'.acts = s.acts) ∨ ((E = 1 ∨ E = 41) ∧ s.off = false ∧ s'.off = false ∧ s'.named = s.named ∧ s'.acts = s.acts)
theorem fit_upd {s : Dk} {Z : Nat} (h : Fit s Z) {nm : ByteArray} {o : Option Fl} (ho : ∀ fl, o = some fl → nameOk nm = true ∧ fl.bytes.length ≤ Z) : ∀ k fl, upd s.get nm o k = some fl → nameOk k = true ∧ fl.bytes.length ≤ Z := fun k fl hf => by
  by_cases e : k = nm
  · subst e; rw [upd_same] at hf; exact ho fl hf
  · rw [upd_ne _ _ e] at hf; exact h k fl hf
theorem fit_grow {s : Dk} {Z : Nat} (h : Fit s Z) {nm : ByteArray} (hk : nameOk nm = true) (data : List UInt8) : Fit (growS s nm data) (Z + data.length) := by
  have h' := h.mono (Nat.le_add_right Z data.length)
  unfold growS
  cases hf : s.get nm with
  | some fl => exact fit_upd h' fun fl' e => by cases e; exact ⟨hk, by show (fl.bytes ++ data).length ≤ _; rw [List.length_append]; have := (h nm fl hf).2; omega⟩
  | none => exact fit_upd h' fun fl' e => by cases e; exact ⟨hk, by show data.length ≤ _; omega⟩
theorem grow_rest (s : Dk) (nm : ByteArray) (data : List UInt8) : (growS s nm data).n ≤ s.n + 1 ∧ (growS s nm data).off = s.off ∧ (growS s nm data).named = s.named ∧ (growS s nm data).acts = s.acts := by
  unfold growS
  cases s.get nm with
  | some fl => exact ⟨Nat.le_succ _, rfl, rfl, rfl⟩
  | none => exact ⟨Nat.le_refl _, rfl, rfl, rfl⟩
theorem step_same {s : Dk} {E : Int} (d : Nat) (h : (E = 40 ∧ s.off = true) ∨ ((E = 1 ∨ E = 41) ∧ s.off = false)) : Step s s E d := by
  refine ⟨Nat.le_succ _, fun Z hZ => hZ.mono (Nat.le_add_right _ _), ?_⟩
  rcases h with ⟨h1, h2⟩ | ⟨h1, h2⟩
  · exact Or.inr (Or.inr (Or.inl ⟨h1, h2, h2, rfl⟩))
  · exact Or.inr (Or.inr (Or.inr ⟨h1, h2, h2, rfl, rfl⟩))
def StepR (B : Nat → Prop) (g : Nat) (s : Dk) (d : Nat) (w : World) (e : Ending) (w' : World) : Prop := (∃ E s', e = .returned (.int .i64 E) ∧ Step s s' E d ∧ DkAt B w' g s') ∧ Kpt B w w'
theorem app_step {B : Nat → Prop} {w : World} {g : Nat} {s : Dk} (hd : DkAt B w g s) (hB : Sub B w) (ha : s.acts ≤ 1000000) (hn : s.n ≤ 1000000) (hf : Fit s 1000000000) (nm : ByteArray) (p : Option Addr) (k : Nat) (data : List UInt8) (hdt : SlOf encB 1 w p k data) (hl : data.length ≤ 1000000000) :
    Calls Try.prog 8 #[.pointer (some ⟨g, 0, none⟩), .string nm, .slice p data.length k] w fun e w' => StepR B g s data.length w e w' := by
  cases ho : s.off with
  | true =>
    have he : ckE s.off [nm] = 40 := by rw [ck_one, ho]; rfl
    refine (append_no hd (nm := nm) (by rw [he]; decide) p k data.length).mono ?_
    rintro e w' ⟨rfl, hb⟩
    exact ⟨⟨40, s, by rw [he], step_same _ (Or.inl ⟨rfl, ho⟩), hd.below hb⟩, Kpt.of hb⟩
  | false =>
    cases hk : nameOk nm with
    | false =>
      have he : ckE s.off [nm] = 1 := by rw [ck_one, ho, hk]; rfl
      refine (append_no hd (nm := nm) (by rw [he]; decide) p k data.length).mono ?_
      rintro e w' ⟨rfl, hb⟩
      exact ⟨⟨1, s, by rw [he], step_same _ (Or.inr ⟨Or.inl rfl, ho⟩), hd.below hb⟩, Kpt.of hb⟩
    | true =>
      have hsz : ∀ fl, s.get nm = some fl → fl.bytes.length + data.length ≤ 140737488355328 := fun fl h => by have := (hf nm fl h).2; omega
      by_cases h1 : s.named = 1
      · refine (append_down hd hB ho hk h1 (by unfold maxLen; omega) p k data hdt hsz (by omega)).mono ?_
        rintro e w' ⟨rfl, hd', hb⟩
        obtain ⟨g1, g2, g3, g4⟩ := grow_rest { s with off := true } nm (data.take (max s.part 0).toNat)
        refine ⟨⟨40, _, rfl, ⟨g1, fun Z hZ => ?_, Or.inr (Or.inl ⟨rfl, ho, h1, g2, g4⟩)⟩, hd'⟩, hb⟩
        exact (fit_grow (s := { s with off := true }) hZ hk _).mono (by rw [List.length_take]; omega)
      · refine (append_yes hd hB ho hk h1 (by omega) (by unfold maxLen; omega) p k data hdt hsz (by omega)).mono ?_
        rintro e w' ⟨rfl, hd', hb⟩
        obtain ⟨g1, g2, g3, g4⟩ := grow_rest { s with named := s.named - 1, acts := s.acts + 1 } nm data
        refine ⟨⟨0, _, rfl, ⟨g1, fun Z hZ => ?_, Or.inl ⟨rfl, ho, h1, g2.trans ho, g3, g4⟩⟩, hd'⟩, hb⟩
        exact fit_grow (s := { s with named := s.named - 1, acts := s.acts + 1 }) hZ hk data
theorem err_off {s : Dk} (h : s.off = true) (nm : ByteArray) : errE s nm = 40 := by unfold errE; rw [h]; rfl
theorem err_bad {s : Dk} (h : s.off = false) {nm : ByteArray} (hk : nameOk nm = false) : errE s nm = 1 := by unfold errE; rw [h, hk]; rfl
theorem err_none {s : Dk} (h : s.off = false) {nm : ByteArray} (hk : nameOk nm = true) (hf : s.get nm = none) : errE s nm = 41 := by unfold errE; rw [h, hk, hf]; rfl
theorem sync_step {B : Nat → Prop} {w : World} {g : Nat} {s : Dk} (hd : DkAt B w g s) (hB : Sub B w) (ha : s.acts ≤ 1000000) (nm : ByteArray) :
    Calls Try.prog 9 #[.pointer (some ⟨g, 0, none⟩), .string nm] w fun e w' => StepR B g s 0 w e w' := by
  have no : ∀ E, errE s nm = E → E ≠ 0 → Step s s E 0 → Calls Try.prog 9 #[.pointer (some ⟨g, 0, none⟩), .string nm] w fun e w' => StepR B g s 0 w e w' := fun E he h0 hs => by
    refine (sync_no hd (nm := nm) (by rw [he]; exact h0)).mono ?_
    rintro e w' ⟨rfl, hb⟩
    exact ⟨⟨E, s, by rw [he], hs, hd.below hb⟩, Kpt.of hb⟩
  cases ho : s.off with
  | true => exact no 40 (err_off ho nm) (by decide) (step_same _ (Or.inl ⟨rfl, ho⟩))
  | false =>
    cases hk : nameOk nm with
    | false => exact no 1 (err_bad ho hk) (by decide) (step_same _ (Or.inr ⟨Or.inl rfl, ho⟩))
    | true =>
      cases hf : s.get nm with
      | none => exact no 41 (err_none ho hk hf) (by decide) (step_same _ (Or.inr ⟨Or.inr rfl, ho⟩))
      | some fl =>
        by_cases h1 : s.named = 1
        · refine (sync_down hd hB ho hk hf h1).mono ?_
          rintro e w' ⟨rfl, hd', hb⟩
          exact ⟨⟨40, { s with off := true }, rfl, ⟨Nat.le_succ _, fun Z hZ => hZ, Or.inr (Or.inl ⟨rfl, ho, h1, rfl, rfl⟩)⟩, hd'⟩, hb⟩
        · refine (sync_yes hd hB ho hk hf h1 (by omega)).mono ?_
          rintro e w' ⟨rfl, hd', hb⟩
          exact ⟨⟨0, { s with get := upd s.get nm (some (lastF fl)), named := s.named - 1, acts := s.acts + 1 }, rfl, ⟨Nat.le_succ _, fun Z hZ => fit_upd hZ (fun fl' e => by cases e; exact ⟨hk, (hZ nm fl hf).2⟩), Or.inl ⟨rfl, ho, h1, ho, rfl, rfl⟩⟩, hd'⟩, hb⟩
theorem remove_step {B : Nat → Prop} {w : World} {g : Nat} {s : Dk} (hd : DkAt B w g s) (hB : Sub B w) (ha : s.acts ≤ 1000000) (nm : ByteArray) :
    Calls Try.prog 11 #[.pointer (some ⟨g, 0, none⟩), .string nm] w fun e w' => StepR B g s 0 w e w' := by
  have no : ∀ E, errE s nm = E → E ≠ 0 → Step s s E 0 → Calls Try.prog 11 #[.pointer (some ⟨g, 0, none⟩), .string nm] w fun e w' => StepR B g s 0 w e w' := fun E he h0 hs => by
    refine (remove_no hd (nm := nm) (by rw [he]; exact h0)).mono ?_
    rintro e w' ⟨rfl, hb⟩
    exact ⟨⟨E, s, by rw [he], hs, hd.below hb⟩, Kpt.of hb⟩
  cases ho : s.off with
  | true => exact no 40 (err_off ho nm) (by decide) (step_same _ (Or.inl ⟨rfl, ho⟩))
  | false =>
    cases hk : nameOk nm with
    | false => exact no 1 (err_bad ho hk) (by decide) (step_same _ (Or.inr ⟨Or.inl rfl, ho⟩))
    | true =>
      cases hf : s.get nm with
      | none => exact no 41 (err_none ho hk hf) (by decide) (step_same _ (Or.inr ⟨Or.inr rfl, ho⟩))
      | some fl =>
        by_cases h1 : s.named = 1
        · refine (remove_down hd hB ho hk hf h1).mono ?_
          rintro e w' ⟨rfl, hd', hb⟩
          exact ⟨⟨40, { s with off := true }, rfl, ⟨Nat.le_succ _, fun Z hZ => hZ, Or.inr (Or.inl ⟨rfl, ho, h1, rfl, rfl⟩)⟩, hd'⟩, hb⟩
        · refine (remove_yes hd hB ho hk hf h1 (by omega)).mono ?_
          rintro e w' ⟨rfl, hd', hb⟩
          exact ⟨⟨0, { s with get := upd s.get nm none, named := s.named - 1, acts := s.acts + 1 }, rfl, ⟨Nat.le_succ _, fun Z hZ => fit_upd hZ (fun fl' e => by cases e), Or.inl ⟨rfl, ho, h1, ho, rfl, rfl⟩⟩, hd'⟩, hb⟩
theorem rename_step {B : Nat → Prop} {w : World} {g : Nat} {s : Dk} (hd : DkAt B w g s) (hB : Sub B w) (ha : s.acts ≤ 1000000) (hn : s.n ≤ 1000000) (nm to : ByteArray) :
    Calls Try.prog 10 #[.pointer (some ⟨g, 0, none⟩), .string nm, .string to] w fun e w' => StepR B g s 0 w e w' := by
  have no : ∀ E, ckE s.off [nm, to] = E → E ≠ 0 → Step s s E 0 → Calls Try.prog 10 #[.pointer (some ⟨g, 0, none⟩), .string nm, .string to] w fun e w' => StepR B g s 0 w e w' := fun E he h0 hs => by
    refine (rename_no1 hd (nm := nm) (to := to) (by rw [he]; exact h0)).mono ?_
    rintro e w' ⟨rfl, hb⟩
    exact ⟨⟨E, s, by rw [he], hs, hd.below hb⟩, Kpt.of hb⟩
  cases ho : s.off with
  | true => exact no 40 (by rw [ck_two, ho]; rfl) (by decide) (step_same _ (Or.inl ⟨rfl, ho⟩))
  | false =>
    cases hk : nameOk nm with
    | false => exact no 1 (by rw [ck_two, ho, hk]; rfl) (by decide) (step_same _ (Or.inr ⟨Or.inl rfl, ho⟩))
    | true =>
      cases hk2 : nameOk to with
      | false => exact no 1 (by rw [ck_two, ho, hk, hk2]; rfl) (by decide) (step_same _ (Or.inr ⟨Or.inl rfl, ho⟩))
      | true =>
        cases hf : s.get nm with
        | none =>
          refine (rename_no2 hd ho hk hk2 hf).mono ?_
          rintro e w' ⟨rfl, hb⟩
          exact ⟨⟨41, s, rfl, step_same _ (Or.inr ⟨Or.inr rfl, ho⟩), hd.below hb⟩, Kpt.of hb⟩
        | some fl =>
          by_cases h1 : s.named = 1
          · refine (rename_down hd hB (to := to) ho hk hk2 hf h1).mono ?_
            rintro e w' ⟨rfl, hd', hb⟩
            exact ⟨⟨40, { s with off := true }, rfl, ⟨Nat.le_succ _, fun Z hZ => hZ, Or.inr (Or.inl ⟨rfl, ho, h1, rfl, rfl⟩)⟩, hd'⟩, hb⟩
          · refine (rename_yes hd hB (to := to) ho hk hk2 hf h1 (by omega) (by unfold maxLen; omega)).mono ?_
            rintro e w' ⟨rfl, hd', hb⟩
            refine ⟨⟨0, { s with get := upd (upd s.get nm none) to (some fl), n := s.n + 1, named := s.named - 1, acts := s.acts + 1 }, rfl, ⟨Nat.le_refl _, fun Z hZ => ?_, Or.inl ⟨rfl, ho, h1, ho, rfl, rfl⟩⟩, hd'⟩, hb⟩
            have hZ1 : Fit { s with get := upd s.get nm none } Z := fit_upd hZ fun fl' e => by cases e
            exact fit_upd (s := { s with get := upd s.get nm none }) hZ1 fun fl' e => by cases e; exact ⟨hk2, (hZ nm fl hf).2⟩
end Go.Proofs.Ytoncnfncgmaknaa
