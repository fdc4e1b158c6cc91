/- What lasts of a journal: plain; what becomes of it call by call; disk.Arm, and journal.Open whatever it answers. -/
import Derived.Test.YtfigjfmldpfjkaaGreatJ7
namespace Go.Proofs.YtfigjfmldpfjkaaGreat
open Go.RowKit Go.Sort Go.Shelf

theorem len_pre (P Q : List UInt8) : P.length ≤ (P ++ Q).length := by rw [List.length_append]; omega
theorem len_two (P Q R : List UInt8) : P.length ≤ (P ++ Q ++ R).length := Nat.le_trans (len_pre P Q) (len_pre _ R)
theorem encs_app (A C : List Ch) : encs (A ++ C) = encs A ++ encs C := by simp [encs]
theorem fit_app (A C : List Ch) (m : Nat) : fit (A ++ C) ((encs A).length + m) = A.length + fit C m := by
  induction A with
  | nil => simp [encs]
  | cons c A ih =>
    rw [List.cons_append, encs_cons, List.length_append, fit_pos (by omega), show (oneB c).length + (encs A).length + m - (oneB c).length = (encs A).length + m by omega, ih, List.length_cons]
    omega
def Jf (n : Nat) (A C : List Ch) (m : Nat) : List UInt8 := headB n ++ encs A ++ (encs C).take m
theorem sc_J (n : Nat) (A C : List Ch) (m : Nat) (h1 : 1 ≤ n) (h2 : n ≤ 1099511627777) (hm : ∀ c ∈ A ++ C, MayB c) (hl : m ≤ (encs C).length) :
    scE (Jf n A C m) = 0 ∧ scN (Jf n A C m) = (n : Int) ∧ scC (Jf n A C m) = A ++ C.take (fit C m) ∧ scL (Jf n A C m) = (headB n ++ encs (A ++ C.take (fit C m))).length := by
  have e : Jf n A C m = headB n ++ (encs (A ++ C)).take ((encs A).length + m) := by
    unfold Jf
    rw [encs_app, List.take_append, List.take_of_length_le (l := encs A) (by omega), Nat.add_sub_cancel_left, List.append_assoc]
  have h := sc_torn n (A ++ C) ((encs A).length + m) h1 h2 hm (by rw [encs_app, List.length_append]; omega)
  rw [← e, fit_app, List.take_append, List.take_of_length_le (l := A) (by omega), Nat.add_sub_cancel_left] at h
  exact h
theorem Jf_len (n : Nat) (A C : List Ch) (m : Nat) (h2 : n ≤ 1099511627777) (hm : ∀ c ∈ A ++ C, MayB c) : (Jf n A C m).length ≤ 20 + (A.length + C.length) * 4130 := by
  have a1 := head_len n h2
  have a2 := encs_len A (fun c hc => hm c (List.mem_append_left _ hc))
  have a3 := encs_len C (fun c hc => hm c (List.mem_append_right _ hc))
  unfold Jf
  rw [List.length_append, List.length_append, List.length_take]
  omega
/-- A file that holds what lasts, and a beginning of what was loose. -/
def Hold (A C : List Ch) (o : Option Fl) : Prop := ∃ n m fl, o = some fl ∧ (1 ≤ n ∧ n ≤ 1099511627777) ∧ m ≤ (encs C).length ∧ fl.bytes = Jf n A C m ∧ (headB n ++ encs A).length ≤ fl.lasts ∧ fl.lasts ≤ fl.bytes.length
theorem hold_size {A C : List Ch} {o : Option Fl} {Z : Nat} (hm : ∀ c ∈ A ++ C, MayB c) (h : Hold A C o) (hz : 20 + (A.length + C.length) * 4130 ≤ Z) : szO o ≤ Z := by
  obtain ⟨n, m, fl, rfl, hn, _, hb, _⟩ := h
  have := Jf_len n A C m hn.2 hm
  show fl.bytes.length ≤ Z
  rw [hb]
  omega
theorem kept_from (fl : Fl) (ch : Int) : fl.lasts ≤ keptN fl ch := Nat.le_add_right _ _
theorem hold_found {A C : List Ch} {fl : Fl} (h : Hold A C (some fl)) (ch : Int) : Hold A C (some (foundF fl ch)) := by
  obtain ⟨n, m, fl', e, hn, hm, hb, h1, h2⟩ := h
  cases e
  have k1 := kept_from fl ch
  have k2 := kept_le h2 ch
  refine ⟨n, min (keptN fl ch - (headB n ++ encs A).length) m, foundF fl ch, rfl, hn, by omega, ?_, ?_, ?_⟩
  · show fl.bytes.take (keptN fl ch) = _
    rw [hb]
    unfold Jf
    rw [List.take_append, List.take_of_length_le (l := headB n ++ encs A) (by omega), List.take_take]
  · show _ ≤ keptN fl ch; omega
  · show keptN fl ch ≤ (fl.bytes.take (keptN fl ch)).length
    rw [List.length_take]; omega
theorem hold_crash {A C : List Ch} {s : JS} (h : Hold A C s.j) (cs : List Int) : Hold A C (crashM s cs).j := by
  obtain ⟨n, m, fl, e, _⟩ := id h
  rw [e] at h
  have : (crashM s cs).j = some (foundF fl (chAt cs (if s.f.isSome then 1 else 0))) := by simp [crashM, e]
  rw [this]
  exact hold_found h _
theorem crash_f (s : JS) (cs : List Int) : szO (crashM s cs).f ≤ szO s.f := by
  cases h : s.f with
  | none => simp [crashM, h, szO]
  | some fl =>
    simp only [crashM, h, Option.map_some, szO, foundF]
    rw [List.length_take]
    omega
/-- Writing anew, where the power may go. -/
theorem write_cases {s : JS} (ho : s.off = false) (hf : s.f = none) (b : List UInt8) :
    (∃ a k, a ≤ s.acts + 3 ∧ writeM s b = (0, ⟨some ⟨b, b.length⟩, none, a, false, k, s.part⟩)) ∨ ((writeM s b).1 = 40 ∧ (writeM s b).2.off = true ∧ (writeM s b).2.j = s.j ∧ szO (writeM s b).2.f ≤ b.length ∧ (writeM s b).2.acts ≤ s.acts + 3) := by
  have hacts := writeM_acts s b
  by_cases h1 : s.named = 1
  · right
    have e := appR_down ho h1 b
    rw [write_1 (by rw [e]; show (40 : Int) ≠ 0; decide), e] at hacts ⊢
    refine ⟨rfl, rfl, rfl, ?_, hacts⟩
    show (grown s.f _).bytes.length ≤ _
    rw [grown_len, hf, List.length_take]
    simp only [szO]
    omega
  · have e := appR_yes ho h1 b
    by_cases h2 : s.named - 1 = 1
    · right
      have e2 := synR_down (s := { s.act with f := some (grown s.f b) }) (fl := grown s.f b) ho rfl h2
      have e3 : writeM s b = (40, ({ s.act with f := some (grown s.f b) } : JS).down) := by
        rw [write_2 (by rw [e]) (by rw [e]; simp only; rw [e2]; show (40 : Int) ≠ 0; decide), e]
        exact e2
      rw [e3] at hacts ⊢
      refine ⟨rfl, rfl, rfl, ?_, hacts⟩
      show (grown s.f b).bytes.length ≤ _
      rw [grown_len, hf]
      simp only [szO]
      omega
    · have e2 := synR_yes (s := { s.act with f := some (grown s.f b) }) (fl := grown s.f b) ho rfl h2
      by_cases h3 : s.named - 1 - 1 = 1
      · right
        have e4 := renM_down (s := { ({ s.act with f := some (grown s.f b) } : JS).act with f := some (lastF (grown s.f b)) }) (fl := lastF (grown s.f b)) ho rfl h3
        have e3 : writeM s b = (40, ({ ({ s.act with f := some (grown s.f b) } : JS).act with f := some (lastF (grown s.f b)) } : JS).down) := by
          rw [write_3 (by rw [e]) (by rw [e]; simp only; rw [e2]), e]
          simp only
          rw [e2]
          exact e4
        rw [e3] at hacts ⊢
        refine ⟨rfl, rfl, rfl, ?_, hacts⟩
        show (grown s.f b).bytes.length ≤ _
        rw [grown_len, hf]
        simp only [szO]
        omega
      · left
        have e4 := renM_yes (s := { ({ s.act with f := some (grown s.f b) } : JS).act with f := some (lastF (grown s.f b)) }) (fl := lastF (grown s.f b)) ho rfl h3
        refine ⟨s.acts + 3, s.named - 1 - 1 - 1, Nat.le_refl _, ?_⟩
        rw [write_3 (by rw [e]) (by rw [e]; simp only; rw [e2]), e]
        simp only
        rw [e2]
        simp only
        rw [e4, hf]
        simp only [JS.act, grown, lastF, ho]
/-- Open, of what holds. -/
structure Opened (A C : List Ch) (s : JS) (Z : Nat) : Prop where
  err : (openM s).1 = 0 ∨ (openM s).1 = 40
  hold : Hold A C (openM s).2.j
  fresh : szO (openM s).2.f ≤ Z
  acts : (openM s).2.acts ≤ s.acts + 4
  size : (stB s).length ≤ Z
  found : ∃ k, scC (stB s) = A ++ C.take k
  yes : (openM s).1 = 0 → (openM s).2.off = false ∧ (openM s).2.f = none ∧ ∃ n, (1 ≤ n ∧ n ≤ 1099511627777) ∧ (openM s).2.j = some ⟨headB n ++ encs (scC (stB s)), (headB n ++ encs (scC (stB s))).length⟩ ∧ ∀ c ∈ scC (stB s), MayB c
theorem hold_open {A C : List Ch} {s : JS} {Z : Nat} (hm : ∀ c ∈ A ++ C, MayB c) (ho : s.off = false) (hh : Hold A C s.j) (hf : szO s.f ≤ Z) (hz : 20 + (A.length + C.length) * 4130 ≤ Z) : Opened A C s Z := by
  obtain ⟨n, m, fl, e, hn, hml, hb, h1, h2⟩ := id hh
  obtain ⟨a1, a2, a3, a4⟩ := sc_J n A C m hn.1 hn.2 hm hml
  have hl := Jf_len n A C m hn.2 hm
  have hst : stB s = Jf n A C m := by unfold stB; rw [e]; exact hb
  have hfound : scC (stB s) = A ++ C.take (fit C m) := by rw [hst]; exact a3
  have hmk : ∀ c ∈ scC (stB s), MayB c := by
    rw [hfound]
    intro c hc
    rcases List.mem_append.1 hc with h | h
    · exact hm c (List.mem_append_left _ h)
    · exact hm c (List.mem_append_right _ (List.mem_of_mem_take h))
  by_cases h0 : (disM s).1 = 0
  · have hoff := dis_off ho h0
    have hff := dis_f ho h0
    have hj := dis_j s
    have hac := dis_acts s
    have hst2 : stB (disM s).2 = Jf n A C m := (stB_j hj).trans hst
    have hop := open_mend ho h0
    by_cases h3 : (disM s).2.j.isSome = true ∧ scL (stB (disM s).2) = (stB (disM s).2).length ∧ looseO (disM s).2.j = 0
    · have e3 := hop.trans (mend_same (by rw [hst2]; exact a1) h3)
      refine ⟨Or.inl (by rw [e3]), by rw [e3]; show Hold A C (disM s).2.j; rw [hj]; exact hh, by rw [e3]; show szO (disM s).2.f ≤ Z; rw [hff]; exact Nat.zero_le _, by rw [e3]; show (disM s).2.acts ≤ _; omega, by rw [hst]; omega, ⟨_, hfound⟩, fun _ => ?_⟩
      rw [e3]
      refine ⟨hoff, hff, n, hn, ?_, hmk⟩
      show (disM s).2.j = _
      obtain ⟨_, h4, h5⟩ := h3
      rw [hj, e] at h5
      have h5' : fl.bytes.length - fl.lasts = 0 := h5
      rw [hst2, a4] at h4
      have h6 : Jf n A C m = headB n ++ encs (scC (stB s)) := by
        obtain ⟨n', b1, _, _, _, b5, r, b6⟩ := sc_back a1
        rw [a2] at b1
        obtain rfl : n' = n := by omega
        rw [a3] at b5 b6
        rw [hfound]
        have h7 := congrArg List.length b6
        rw [List.length_append] at h7
        have hr : r = [] := List.length_eq_zero_iff.1 (by omega)
        rw [hr, List.append_nil] at b6
        exact b6
      rw [hj, e, ← h6, ← hb]
      congr 1
      cases fl
      simp only [Fl.mk.injEq, true_and] at *
      omega
    · have e3 := hop.trans (mend_write (by rw [hst2]; exact a1) h3)
      rw [hst2] at e3
      have htake : (Jf n A C m).take (scL (Jf n A C m)) = headB n ++ encs (A ++ C.take (fit C m)) := by
        obtain ⟨n', b1, _, _, _, b5, r, b6⟩ := sc_back a1
        rw [a2] at b1
        obtain rfl : n' = n := by omega
        rw [a3] at b5 b6
        have h8 := congrArg (List.take (scL (Jf n' A C m))) b6
        rw [h8, b5, List.take_left]
      have hbl : (headB n ++ encs (A ++ C.take (fit C m))).length ≤ Z := by
        have := sc_le a1
        rw [a4] at this
        omega
      rw [htake] at e3
      rcases write_cases hoff hff (headB n ++ encs (A ++ C.take (fit C m))) with ⟨a, k, ha, e4⟩ | ⟨c1, c2, c3, c4, c5⟩
      · have e5 := e3.trans e4
        refine ⟨Or.inl (by rw [e5]), ?_, by rw [e5]; exact Nat.zero_le _, by rw [e5]; show a ≤ _; omega, by rw [hst]; omega, ⟨_, hfound⟩, fun _ => ?_⟩
        · rw [e5]
          refine ⟨n, (encs (C.take (fit C m))).length, _, rfl, hn, ?_, ?_, ?_, Nat.le_refl _⟩
          · conv => rhs; rw [← List.take_append_drop (fit C m) C, encs_app, List.length_append]
            omega
          · show headB n ++ encs (A ++ C.take (fit C m)) = Jf n A C _
            unfold Jf
            conv => rhs; rw [← List.take_append_drop (fit C m) C, encs_app]
            rw [List.take_append_drop, List.take_left, encs_app, List.append_assoc]
          · show _ ≤ (headB n ++ encs (A ++ C.take (fit C m))).length
            rw [encs_app, ← List.append_assoc]
            exact len_pre _ _
        · rw [e5, hfound]
          exact ⟨rfl, rfl, n, hn, rfl, by rw [← hfound]; exact hmk⟩
      · exact ⟨Or.inr (by rw [e3]; exact c1), by rw [e3, c3, hj]; exact hh, by rw [e3]; omega, by rw [e3]; omega, by rw [hst]; omega, ⟨_, hfound⟩, fun h9 => by rw [e3, c1] at h9; cases h9⟩
  · have hop := open_dis ho h0
    have hdr : ∃ fr, s.f = some fr := by
      cases h : s.f with
      | none => exact absurd (by unfold disM; rw [h]) h0
      | some fr => exact ⟨fr, rfl⟩
    obtain ⟨fr, hfr⟩ := hdr
    have hd : disM s = remR s := by unfold disM; rw [hfr]
    have h1' : s.named = 1 := by
      by_cases h9 : s.named = 1
      · exact h9
      · rw [hd, remR_yes ho hfr h9] at h0; exact absurd rfl h0
    have e5 : openM s = (40, s.down) := hop.trans (hd.trans (remR_down ho hfr h1'))
    exact ⟨Or.inr (by rw [e5]), by rw [e5]; exact hh, by rw [e5]; exact hf, by rw [e5]; exact Nat.le_add_right _ _, by rw [hst]; omega, ⟨_, hfound⟩, fun h9 => by rw [e5] at h9; cases h9⟩
theorem stB_some {s : JS} {fl : Fl} (h : s.j = some fl) : stB s = fl.bytes := by unfold stB; rw [h]
theorem open_twice {s : JS} {A C : List Ch} {Z : Nat} (h : Opened A C s Z) (h0 : (openM s).1 = 0) : openM (openM s).2 = (0, (openM s).2) ∧ scC (stB (openM s).2) = scC (stB s) ∧ (stB (openM s).2).length = szO (openM s).2.j := by
  obtain ⟨h1, h2, n, hn, h3, h4⟩ := h.yes h0
  obtain ⟨a1, a2, a3, a4⟩ := sc_of n (scC (stB s)) hn.1 hn.2 h4
  have hst : stB (openM s).2 = headB n ++ encs (scC (stB s)) := stB_some h3
  have hd : disM (openM s).2 = (0, (openM s).2) := by unfold disM; rw [h2]
  refine ⟨?_, by rw [hst]; exact a3, by rw [hst, h3]; rfl⟩
  rw [open_mend h1 (by rw [hd]), hd]
  exact mend_same (by rw [hst]; exact a1) ⟨by rw [h3]; rfl, by rw [hst]; exact a4, by rw [h3]; exact Nat.sub_self _⟩

/-- A journal whose disk is on: A lasts, C was appended since. -/
structure On (A C : List Ch) (s : JS) (x : JX) : Prop where
  off : s.off = false
  fresh : s.f = none
  failed : x.failed = 0
  pend : x.pend = C.length
  cnt : x.cnt = A.length + C.length
  may : ∀ c ∈ A ++ C, MayB c
  file : ∃ n, (1 ≤ n ∧ n ≤ 1099511627777) ∧ s.j = some ⟨headB n ++ encs A ++ encs C, (headB n ++ encs A).length⟩ ∧ x.bytes = (headB n ++ encs A ++ encs C).length
theorem On.hold {A C : List Ch} {s : JS} {x : JX} (h : On A C s x) : Hold A C s.j := by
  obtain ⟨n, hn, hj, _⟩ := h.file
  refine ⟨n, (encs C).length, _, hj, hn, Nat.le_refl _, ?_, Nat.le_refl _, ?_⟩
  · show _ = Jf n A C _
    unfold Jf
    rw [List.take_length]
  · show (headB n ++ encs A).length ≤ (headB n ++ encs A ++ encs C).length
    exact len_pre _ _
theorem On.fits {A C : List Ch} {s : JS} {x : JX} (h : On A C s x) (hl : A.length + C.length ≤ 100000000) : Fits x := by
  obtain ⟨n, hn, hj, hb⟩ := h.file
  have h1 := head_len n hn.2
  have h2 := encs_len A (fun c hc => h.may c (List.mem_append_left _ hc))
  have h3 := encs_len C (fun c hc => h.may c (List.mem_append_right _ hc))
  have h4 := h.cnt
  have h5 := h.pend
  rw [List.length_append, List.length_append] at hb
  exact ⟨by omega, by omega, by omega⟩
theorem on_new : On [] [] (onJ ⟨headB 1, (headB 1).length⟩ 3) ⟨0, 0, (headB 1).length, 0⟩ :=
  ⟨rfl, rfl, rfl, rfl, rfl, (fun c hc => by simp at hc), ⟨1, ⟨by decide, by decide⟩, (by simp [encs, onJ]), (by simp [encs])⟩⟩
theorem on_arm {A C : List Ch} {s : JS} {x : JX} (h : On A C s x) (k : Nat) (p : Int) : On A C { s with named := k, part := p } x := ⟨h.off, h.fresh, h.failed, h.pend, h.cnt, h.may, h.file⟩
theorem may_app {A C cs : List Ch} (h : ∀ c ∈ A ++ C, MayB c) (hc : ∀ c ∈ cs, MayB c) : ∀ c ∈ A ++ (C ++ cs), MayB c := fun c h9 => by
  rw [← List.append_assoc] at h9
  rcases List.mem_append.1 h9 with h1 | h1
  · exact h c h1
  · exact hc c h1
theorem on_app {A C cs : List Ch} {s : JS} {x : JX} (h : On A C s x) :
    ((jApp s x cs).1 = 1 ∧ (jApp s x cs).2 = (s, x)) ∨ ((jApp s x cs).1 = 0 ∧ On A (C ++ cs) (jApp s x cs).2.1 (jApp s x cs).2.2 ∧ (jApp s x cs).2.1.acts ≤ s.acts + 1) ∨
    ((jApp s x cs).1 = 40 ∧ (∀ c ∈ cs, MayB c) ∧ (jApp s x cs).2.1.off = true ∧ Hold A (C ++ cs) (jApp s x cs).2.1.j ∧ (jApp s x cs).2.1.f = none ∧ (jApp s x cs).2.1.acts ≤ s.acts) := by
  by_cases hm : ∀ c ∈ cs, MayB c
  · by_cases hne : cs = []
    · subst hne
      have e : jApp s x [] = (0, s, x) := (if_neg (fun h9 => h9 h.failed)).trans ((if_nn hm).trans (if_pos rfl))
      rw [e, List.append_nil]
      exact Or.inr (Or.inl ⟨rfl, h, Nat.le_succ _⟩)
    · obtain ⟨n, hn, hj, hb⟩ := h.file
      by_cases h1 : s.named = 1
      · have e1 := appJ_down h.off h1 (encs cs)
        have e : jApp s x cs = (40, { s.down with j := some (grown s.j ((encs cs).take (max s.part 0).toNat)) }, { x with failed := 40 }) := by
          unfold jApp
          rw [if_neg (fun h9 => h9 h.failed), if_nn hm, if_neg hne, e1]
          rfl
        rw [e]
        refine Or.inr (Or.inr ⟨rfl, hm, rfl, ?_, h.fresh, Nat.le_refl _⟩)
        show Hold A (C ++ cs) (some (grown s.j ((encs cs).take (max s.part 0).toNat)))
        rw [hj]
        refine ⟨n, (encs C).length + ((encs cs).take (max s.part 0).toNat).length, _, rfl, hn, ?_, ?_, ?_, ?_⟩
        · rw [encs_app, List.length_append, List.length_take]; omega
        · show headB n ++ encs A ++ encs C ++ (encs cs).take (max s.part 0).toNat = Jf n A (C ++ cs) _
          unfold Jf
          rw [encs_app, List.take_append, List.take_of_length_le (l := encs C) (by omega), Nat.add_sub_cancel_left, ← List.prefix_iff_eq_take.1 (List.take_prefix (max s.part 0).toNat (encs cs)), ← List.append_assoc (headB n ++ encs A)]
        · exact Nat.le_refl _
        · show (headB n ++ encs A).length ≤ (headB n ++ encs A ++ encs C ++ (encs cs).take (max s.part 0).toNat).length
          exact len_two _ _ _
      · have e1 := appJ_yes h.off h1 (encs cs)
        have e : jApp s x cs = (0, { s.act with j := some (grown s.j (encs cs)) }, ⟨0, x.cnt + cs.length, x.bytes + (encs cs).length, x.pend + cs.length⟩) := by
          unfold jApp
          rw [if_neg (fun h9 => h9 h.failed), if_nn hm, if_neg hne, e1]
          rfl
        rw [e]
        refine Or.inr (Or.inl ⟨rfl, ⟨h.off, h.fresh, rfl, ?_, ?_, may_app h.may hm, n, hn, ?_, ?_⟩, Nat.le_refl _⟩)
        · show x.pend + cs.length = _; rw [h.pend, List.length_append]
        · show x.cnt + cs.length = _; rw [h.cnt, List.length_append]; omega
        · show some (grown s.j (encs cs)) = _
          rw [hj, encs_app, ← List.append_assoc (headB n ++ encs A)]
          rfl
        · show x.bytes + (encs cs).length = _
          rw [hb, encs_app, ← List.append_assoc (headB n ++ encs A)]; exact (List.length_append).symm
  · have e : jApp s x cs = (1, s, x) := (if_neg (fun h9 => h9 h.failed)).trans (if_pos hm)
    rw [e]
    exact Or.inl ⟨rfl, rfl⟩
theorem on_syn {A C : List Ch} {s : JS} {x : JX} (h : On A C s x) :
    ((jSyn s x).1 = 0 ∧ On (A ++ C) [] (jSyn s x).2.1 (jSyn s x).2.2 ∧ (jSyn s x).2.1.acts ≤ s.acts + 1) ∨
    ((jSyn s x).1 = 40 ∧ (jSyn s x).2.1.off = true ∧ Hold A C (jSyn s x).2.1.j ∧ (jSyn s x).2.1.f = none ∧ (jSyn s x).2.1.acts ≤ s.acts) := by
  obtain ⟨n, hn, hj, hb⟩ := h.file
  by_cases hp : x.pend = 0
  · have e : jSyn s x = (0, s, x) := (if_neg (fun h9 => h9 h.failed)).trans (if_pos hp)
    have hC : C = [] := List.length_eq_zero_iff.1 (by rw [← h.pend]; exact hp)
    subst hC
    rw [e, List.append_nil]
    exact Or.inl ⟨rfl, h, Nat.le_succ _⟩
  · by_cases h1 : s.named = 1
    · have e1 := synJ_down h.off hj h1
      have e : jSyn s x = (40, s.down, { x with failed := 40 }) := by
        unfold jSyn
        rw [if_neg (fun h9 => h9 h.failed), if_neg hp, e1]
        rfl
      rw [e]
      exact Or.inr ⟨rfl, rfl, h.hold, h.fresh, Nat.le_refl _⟩
    · have e1 := synJ_yes h.off hj h1
      have e : jSyn s x = (0, { s.act with j := some (lastF ⟨headB n ++ encs A ++ encs C, (headB n ++ encs A).length⟩) }, ⟨0, x.cnt, x.bytes, 0⟩) := by
        unfold jSyn
        rw [if_neg (fun h9 => h9 h.failed), if_neg hp, e1]
        rfl
      rw [e]
      refine Or.inl ⟨rfl, ⟨h.off, h.fresh, rfl, rfl, ?_, by rw [List.append_nil]; exact h.may, n, hn, ?_, ?_⟩, Nat.le_refl _⟩
      · show x.cnt = _; rw [h.cnt, List.length_append]; rfl
      · show some (lastF _) = _
        rw [encs_app, ← List.append_assoc]
        simp [lastF, encs]
      · show x.bytes = _
        rw [hb, encs_app, ← List.append_assoc]
        simp [encs]
theorem on_rew {A C : List Ch} {s : JS} {x : JX} (h : On A C s x) (k : Int) (cs : List Ch) :
    (((jRew s x k cs).1 = 1 ∨ (jRew s x k cs).1 = 2) ∧ (jRew s x k cs).2 = (s, x)) ∨ ((jRew s x k cs).1 = 0 ∧ On cs [] (jRew s x k cs).2.1 (jRew s x k cs).2.2 ∧ (jRew s x k cs).2.1.acts ≤ s.acts + 3) ∨
    ((jRew s x k cs).1 = 40 ∧ (jRew s x k cs).2.1.off = true ∧ Hold A C (jRew s x k cs).2.1.j ∧ szO (jRew s x k cs).2.1.f ≤ 20 + cs.length * 4130 ∧ (jRew s x k cs).2.1.acts ≤ s.acts + 3) := by
  by_cases hr : 1 ≤ k ∧ k ≤ 1099511627777
  · by_cases hm : ∀ c ∈ cs, MayB c
    · obtain ⟨m, rfl⟩ : ∃ m : Nat, k = (m : Int) := ⟨k.toNat, by omega⟩
      obtain ⟨g1, g2⟩ := wh_good (n := m) ⟨by omega, by omega⟩ hm
      have hl := wh_len (m : Int) cs
      rcases write_cases h.off h.fresh (whB (m : Int) cs) with ⟨a, kk, ha, e4⟩ | ⟨c1, c2, c3, c4, c5⟩
      · have e : jRew s x (m : Int) cs = (0, ⟨some ⟨whB (m : Int) cs, (whB (m : Int) cs).length⟩, none, a, false, kk, s.part⟩, ⟨0, cs.length, (whB (m : Int) cs).length, 0⟩) := by
          unfold jRew
          rw [if_neg (fun h9 => h9 h.failed), if_neg (fun h9 => h9 g1), e4]
          rfl
        rw [e, g2]
        refine Or.inr (Or.inl ⟨rfl, ⟨rfl, rfl, rfl, rfl, rfl, by rw [List.append_nil]; exact hm, m, ⟨by omega, by omega⟩, ?_, ?_⟩, ha⟩)
        · show some _ = _; simp [encs]
        · show (headB m ++ encs cs).length = _; simp [encs]
      · have e : jRew s x (m : Int) cs = ((writeM s (whB (m : Int) cs)).1, (writeM s (whB (m : Int) cs)).2, { x with failed := (writeM s (whB (m : Int) cs)).1 }) := by
          unfold jRew
          rw [if_neg (fun h9 => h9 h.failed), if_neg (fun h9 => h9 g1), if_pos (by rw [c1]; decide)]
        rw [e]
        exact Or.inr (Or.inr ⟨c1, c2, by show Hold A C (writeM s (whB (m : Int) cs)).2.j; rw [c3]; exact h.hold, by show szO (writeM s (whB (m : Int) cs)).2.f ≤ _; omega, c5⟩)
    · obtain ⟨g1, _⟩ := wh_form hr hm
      have e : jRew s x k cs = (1, s, x) := by
        unfold jRew
        rw [if_neg (fun h9 => h9 h.failed), if_pos (by rw [g1]; decide), g1]
      rw [e]
      exact Or.inl ⟨Or.inl rfl, rfl⟩
  · obtain ⟨g1, _⟩ := wh_range hr cs
    have e : jRew s x k cs = (2, s, x) := by
      unfold jRew
      rw [if_neg (fun h9 => h9 h.failed), if_pos (by rw [g1]; decide), g1]
    rw [e]
    exact Or.inl ⟨Or.inr rfl, rfl⟩

theorem arm_no {B : Nat → Prop} {w : World} {g : Nat} {s : Dk} (hd : DkAt B w g s) (n p : Int) (ho : s.off = true) : Calls Tryz.prog 10 #[.pointer (some ⟨g, 0, none⟩), .int .i64 n, .int .i64 p] w fun e w' => e = .returned (.int .i64 40) ∧ w' = w := by
  obtain ⟨m, h, q, c, hi⟩ := hd
  obtain ⟨⟨c0, c1, c2, c3, c4⟩, _⟩ := cells5 hi.box
  rw [ho] at c1
  clear hi
  go_enter Tryz.func10, Tryz.ntmps10
  go_wp2
  go_ret
  exact ⟨rfl, rfl⟩
theorem arm_yes {B : Nat → Prop} {w : World} {g : Nat} {s : Dk} (hd : DkAt B w g s) (hB : Sub B w) (n p : Int) (hn : n ≤ 9223372036854775807) (ho : s.off = false) : Calls Tryz.prog 10 #[.pointer (some ⟨g, 0, none⟩), .int .i64 n, .int .i64 p] w fun e w' => e = .returned (.int .i64 0) ∧ DkAt B w' g { s with named := (max n 0).toNat, part := p } ∧ Kpt B w w' := by
  obtain ⟨m, h, q, c, hi⟩ := hd
  obtain ⟨⟨c0, c1, c2, c3, c4⟩, z0, z1, z2, z3⟩ := cells5 hi.box
  have b2 := heap_setCell_same w g 2 _ 51 (.int .i64 (max n 0)) hi.box
  have b3 := heap_setCell_same _ g 3 _ 51 (.int .i64 p) b2
  obtain ⟨⟨d0, d1, d2, d3, d4⟩, y0, y1, y2, y3⟩ := cells5 b2
  have HI := hide hi
  have H3 := hide b3
  rw [ho] at c1
  clear hi b2 b3
  go_enter Tryz.func10, Tryz.ntmps10
  go_wp2
  go_ret
  have hg : w.grownBy ((w.setCell ⟨g, 2, none⟩ (.int .i64 (max n 0))).setCell ⟨g, 3, none⟩ (.int .i64 p)) (some g) := grown_trans (grown_set _ _ _ _) (grown_set _ _ _ _)
  refine ⟨rfl, ⟨m, h, q, c, (unhide HI).turn hg rfl rfl (by show (max n 0).toNat ≤ _; omega) ?_⟩, grown_le hg (unhide HI).bg hB⟩
  have h5 := unhide H3
  simp only
  rw [show (((max n 0).toNat : Nat) : Int) = max n 0 by omega]
  exact h5
theorem wrap_le (x : Int) : IntKind.i64.wrap x ≤ 9223372036854775807 := by
  have e : (2 : Int) ^ IntKind.i64.bits = 18446744073709551616 := by decide
  have e2 : (2 : Int) ^ (IntKind.i64.bits - 1) = 9223372036854775808 := by decide
  have e3 : IntKind.i64.signed = true := rfl
  simp [IntKind.wrap, e, e2, e3]
  split <;> omega
theorem armJ_any {B : Nat → Prop} {w : World} {g : Nat} {s : JS} (hd : JAt B w g s) (hB : Sub B w) (n p : Int) (hn : n ≤ 9223372036854775807) (ho : s.off = false) : Calls Tryz.prog 10 #[.pointer (some ⟨g, 0, none⟩), .int .i64 n, .int .i64 p] w fun e w' => e = .returned (.int .i64 0) ∧ JAt B w' g { s with named := (max n 0).toNat, part := p } ∧ Kpt B w w' := by
  obtain ⟨m, hm, hd⟩ := hd
  refine (arm_yes hd hB n p hn ho).mono ?_
  rintro e w' ⟨h1, h2, h3⟩
  exact ⟨h1, ⟨m, hm, h2⟩, h3⟩
theorem open_js {B : Nat → Prop} {w : World} {g : Nat} {s : JS} (hd : JAt B w g s) (hB : Sub B w) (ha : s.acts ≤ 99999980) (hl : szO s.j ≤ 140737488355328) (hz : (stB s).length ≤ 4000000000000) :
    Calls Tryz.prog 7 #[.pointer (some ⟨g, 0, none⟩)] w fun e w' => (∃ v0 v1 v2, e = .returned (.tuple #[v0, v1, v2, .int .i64 (openM s).1])) ∧ JAt B w' g (openM s).2 ∧ Kpt B w w' := by
  by_cases h : (openM s).1 = 0
  · refine (opens_yes hd hB ha hl hz h).mono ?_
    rintro e w' ⟨⟨gj, q, c, h1, _, _, h4⟩, h5⟩
    exact ⟨⟨_, _, _, by rw [h]; exact h1⟩, h4.disk.more fun i hi => Or.inl (Or.inl hi), h5⟩
  · refine (opens_no hd hB ha hl hz h).mono ?_
    rintro e w' ⟨h1, h2, h3⟩
    exact ⟨⟨_, _, _, h1⟩, h2, h3⟩
theorem open_zero {A C : List Ch} {s : JS} {Z : Nat} (h : Opened A C s Z) (ho : s.off = false) (hn : s.named = 0) : (openM s).1 = 0 := by
  have hd : (disM s).1 = 0 ∧ (disM s).2.named = 0 := by
    cases hf : s.f with
    | none => have e : disM s = (0, s) := by unfold disM; rw [hf]
              rw [e]; exact ⟨rfl, hn⟩
    | some fl =>
      have e : disM s = remR s := by unfold disM; rw [hf]
      rw [e, remR_yes ho hf (by omega)]
      exact ⟨rfl, by show s.named - 1 = 0; omega⟩
  have hop := open_mend ho hd.1
  have hoff := dis_off ho hd.1
  have hff := dis_f ho hd.1
  rcases h.err with h1 | h1
  · exact h1
  · exfalso
    rw [hop] at h1
    by_cases h2 : scE (stB (disM s).2) = 0
    · by_cases h3 : (disM s).2.j.isSome = true ∧ scL (stB (disM s).2) = (stB (disM s).2).length ∧ looseO (disM s).2.j = 0
      · rw [mend_same h2 h3] at h1; cases h1
      · rw [mend_write h2 h3, write_on hoff hd.2 hff] at h1; cases h1
    · rw [mend_bad h2] at h1
      have h4 : scE (stB (disM s).2) = 40 := h1
      unfold scE at h4
      split at h4 <;> cases h4
def encT (x : Int × Int × Int) : List Value := [.int .i64 x.1, .int .i64 x.2.1, .int .i64 x.2.2]
theorem tripAt {w : World} {q : Option Addr} {c : Nat} {l : List (Int × Int × Int)} {j : Nat} {x : Int × Int × Int} (h : SlOf encT 3 w q c l) (hj : l[j]? = some x) : ∃ b off, q = some ⟨b, off, none⟩ ∧ b < w.heap.size ∧ w.cell? ⟨b, off + j * 3, none⟩ = some (.int .i64 x.1) ∧ w.cell? ⟨b, off + j * 3 + 1, none⟩ = some (.int .i64 x.2.1) ∧ w.cell? ⟨b, off + j * 3 + 2, none⟩ = some (.int .i64 x.2.2) := by
  obtain ⟨b, off, hq, hb, hc⟩ := h.2.2.2.at hj
  exact ⟨b, off, hq, hb, hc 0 (by omega), hc 1 (by omega), hc 2 (by omega)⟩
theorem sl_three (w : World) (x y z : Int) : SlOf encI 1 (w.alloc (.cells #[.int .i64 x, .int .i64 y, .int .i64 z] 3)) (some ⟨w.heap.size, 0, none⟩) 3 [x, y, z] := by
  have h := slAI w [x, y, z] (by simp)
  exact h
end Go.Proofs.YtfigjfmldpfjkaaGreat
