/- Each act of a disk, as far as its power and its sizes go. -/
import Derived.Test.YtonhagoeajhacaaRest
namespace Go.Proofs.Ytonhagoeajhacaa
open Go.RowKit Go.Sort Go.Shelf

/-- All names are in form, all files of at most Z bytes. -/
def Fit (s : Dk) (Z : Nat) : Prop := ∀ nm fl, s.get nm = some fl → nameOk nm = true ∧ fl.bytes.length ≤ Z
theorem Fit.mono {s : Dk} {Z Z' : Nat} (h : Fit s Z) (hz : Z ≤ Z') : Fit s Z' := fun nm fl hf => ⟨(h nm fl hf).1, Nat.le_trans (h nm fl hf).2 hz⟩
/-- What an act makes of the power. -/
structure Step (s s' : Dk) (E : Int) (d : Nat) : Prop where
  n : s'.n ≤ s.n + 1
  fit : ∀ Z, Fit s Z → Fit s' (Z + d)
  way : (E = 0 ∧ s.off = false ∧ s.named ≠ 1 ∧ s'.off = false ∧ s'.named = s.named - 1 ∧ s'.acts = s.acts + 1) ∨ (E = 40 ∧ s.off = false ∧ s.named = 1 ∧ s'.off = true ∧ s'.acts = s.acts) ∨ (E = 40 ∧ s.off = true ∧ s'.off = true ∧ s'.acts = s.acts) ∨ ((E = 1 ∨ E = 41) ∧ s.off = false ∧ s'.off = false ∧ s'.named = s.named ∧ s'.acts = s.acts)
theorem fit_upd {s : Dk} {Z : Nat} (h : Fit s Z) {nm : ByteArray} {o : Option Fl} (ho : ∀ fl, o = some fl → nameOk nm = true ∧ fl.bytes.length ≤ Z) : ∀ k fl, upd s.get nm o k = some fl → nameOk k = true ∧ fl.bytes.length ≤ Z := fun k fl hf => by
  by_cases e : k = nm
  · subst e; rw [upd_same] at hf; exact ho fl hf
  · rw [upd_ne _ _ e] at hf; exact h k fl hf
theorem fit_grow {s : Dk} {Z : Nat} (h : Fit s Z) {nm : ByteArray} (hk : nameOk nm = true) (data : List UInt8) : Fit (growS s nm data) (Z + data.length) := by
  have h' := h.mono (Nat.le_add_right Z data.length)
  unfold growS
  cases hf : s.get nm with
  | some fl => exact fit_upd h' fun fl' e => by cases e; exact ⟨hk, by show (fl.bytes ++ data).length ≤ _; rw [List.length_append]; have := (h nm fl hf).2; omega⟩
  | none => exact fit_upd h' fun fl' e => by cases e; exact ⟨hk, by show data.length ≤ _; omega⟩
theorem grow_rest (s : Dk) (nm : ByteArray) (data : List UInt8) : (growS s nm data).n ≤ s.n + 1 ∧ (growS s nm data).off = s.off ∧ (growS s nm data).named = s.named ∧ (growS s nm data).acts = s.acts := by
  unfold growS
  cases s.get nm with
  | some fl => exact ⟨Nat.le_succ _, rfl, rfl, rfl⟩
  | none => exact ⟨Nat.le_refl _, rfl, rfl, rfl⟩
theorem step_same {s : Dk} {E : Int} (d : Nat) (h : (E = 40 ∧ s.off = true) ∨ ((E = 1 ∨ E = 41) ∧ s.off = false)) : Step s s E d := by
  refine ⟨Nat.le_succ _, fun Z hZ => hZ.mono (Nat.le_add_right _ _), ?_⟩
  rcases h with ⟨h1, h2⟩ | ⟨h1, h2⟩
  · exact Or.inr (Or.inr (Or.inl ⟨h1, h2, h2, rfl⟩))
  · exact Or.inr (Or.inr (Or.inr ⟨h1, h2, h2, rfl, rfl⟩))
def StepR (B : Nat → Prop) (g : Nat) (s : Dk) (d : Nat) (w : World) (e : Ending) (w' : World) : Prop := (∃ E s', e = .returned (.int .i64 E) ∧ Step s s' E d ∧ DkAt B w' g s') ∧ Kpt B w w'
theorem app_step {B : Nat → Prop} {w : World} {g : Nat} {s : Dk} (hd : DkAt B w g s) (hB : Sub B w) (ha : s.acts ≤ 1000000) (hn : s.n ≤ 1000000) (hf : Fit s 1000000000) (nm : ByteArray) (p : Option Addr) (k : Nat) (data : List UInt8) (hdt : SlOf encB 1 w p k data) (hl : data.length ≤ 1000000000) :
    Calls Try.prog 7 #[.pointer (some ⟨g, 0, none⟩), .string nm, .slice p data.length k] w fun e w' => StepR B g s data.length w e w' := by
  cases ho : s.off with
  | true =>
    have he : ckE s.off [nm] = 40 := by rw [ck_one, ho]; rfl
    refine (append_no hd (nm := nm) (by rw [he]; decide) p k data.length).mono ?_
    rintro e w' ⟨rfl, hb⟩
    exact ⟨⟨40, s, by rw [he], step_same _ (Or.inl ⟨rfl, ho⟩), hd.below hb⟩, Kpt.of hb⟩
  | false =>
    cases hk : nameOk nm with
    | false =>
      have he : ckE s.off [nm] = 1 := by rw [ck_one, ho, hk]; rfl
      refine (append_no hd (nm := nm) (by rw [he]; decide) p k data.length).mono ?_
      rintro e w' ⟨rfl, hb⟩
      exact ⟨⟨1, s, by rw [he], step_same _ (Or.inr ⟨Or.inl rfl, ho⟩), hd.below hb⟩, Kpt.of hb⟩
    | true =>
      have hsz : ∀ fl, s.get nm = some fl → fl.bytes.length + data.length ≤ 140737488355328 := fun fl h => by have := (hf nm fl h).2; omega
      by_cases h1 : s.named = 1
      · refine (append_down hd hB ho hk h1 (by unfold maxLen; omega) p k data hdt hsz (by omega)).mono ?_
        rintro e w' ⟨rfl, hd', hb⟩
        obtain ⟨g1, g2, g3, g4⟩ := grow_rest { s with off := true } nm (data.take (max s.part 0).toNat)
        refine ⟨⟨40, _, rfl, ⟨g1, fun Z hZ => ?_, Or.inr (Or.inl ⟨rfl, ho, h1, g2, g4⟩)⟩, hd'⟩, hb⟩
        exact (fit_grow (s := { s with off := true }) hZ hk _).mono (by rw [List.length_take]; omega)
      · refine (append_yes hd hB ho hk h1 (by omega) (by unfold maxLen; omega) p k data hdt hsz (by omega)).mono ?_
        rintro e w' ⟨rfl, hd', hb⟩
        obtain ⟨g1, g2, g3, g4⟩ := grow_rest { s with named := s.named - 1, acts := s.acts + 1 } nm data
        refine ⟨⟨0, _, rfl, ⟨g1, fun Z hZ => ?_, Or.inl ⟨rfl, ho, h1, g2.trans ho, g3, g4⟩⟩, hd'⟩, hb⟩
        exact fit_grow (s := { s with named := s.named - 1, acts := s.acts + 1 }) hZ hk data
theorem err_off {s : Dk} (h : s.off = true) (nm : ByteArray) : errE s nm = 40 := by unfold errE; rw [h]; rfl
theorem err_bad {s : Dk} (h : s.off = false) {nm : ByteArray} (hk : nameOk nm = false) : errE s nm = 1 := by unfold errE; rw [h, hk]; rfl
theorem err_none {s : Dk} (h : s.off = false) {nm : ByteArray} (hk : nameOk nm = true) (hf : s.get nm = none) : errE s nm = 41 := by unfold errE; rw [h, hk, hf]; rfl
theorem sync_step {B : Nat → Prop} {w : World} {g : Nat} {s : Dk} (hd : DkAt B w g s) (hB : Sub B w) (ha : s.acts ≤ 1000000) (nm : ByteArray) :
    Calls Try.prog 8 #[.pointer (some ⟨g, 0, none⟩), .string nm] w fun e w' => StepR B g s 0 w e w' := by
  have no : ∀ E, errE s nm = E → E ≠ 0 → Step s s E 0 → Calls Try.prog 8 #[.pointer (some ⟨g, 0, none⟩), .string nm] w fun e w' => StepR B g s 0 w e w' := fun E he h0 hs => by
    refine (sync_no hd (nm := nm) (by rw [he]; exact h0)).mono ?_
    rintro e w' ⟨rfl, hb⟩
    exact ⟨⟨E, s, by rw [he], hs, hd.below hb⟩, Kpt.of hb⟩
  cases ho : s.off with
  | true => exact no 40 (err_off ho nm) (by decide) (step_same _ (Or.inl ⟨rfl, ho⟩))
  | false =>
    cases hk : nameOk nm with
    | false => exact no 1 (err_bad ho hk) (by decide) (step_same _ (Or.inr ⟨Or.inl rfl, ho⟩))
    | true =>
      cases hf : s.get nm with
      | none => exact no 41 (err_none ho hk hf) (by decide) (step_same _ (Or.inr ⟨Or.inr rfl, ho⟩))
      | some fl =>
        by_cases h1 : s.named = 1
        · refine (sync_down hd hB ho hk hf h1).mono ?_
          rintro e w' ⟨rfl, hd', hb⟩
          exact ⟨⟨40, { s with off := true }, rfl, ⟨Nat.le_succ _, fun Z hZ => hZ, Or.inr (Or.inl ⟨rfl, ho, h1, rfl, rfl⟩)⟩, hd'⟩, hb⟩
        · refine (sync_yes hd hB ho hk hf h1 (by omega)).mono ?_
          rintro e w' ⟨rfl, hd', hb⟩
          exact ⟨⟨0, { s with get := upd s.get nm (some (lastF fl)), named := s.named - 1, acts := s.acts + 1 }, rfl, ⟨Nat.le_succ _, fun Z hZ => fit_upd hZ (fun fl' e => by cases e; exact ⟨hk, (hZ nm fl hf).2⟩), Or.inl ⟨rfl, ho, h1, ho, rfl, rfl⟩⟩, hd'⟩, hb⟩
theorem remove_step {B : Nat → Prop} {w : World} {g : Nat} {s : Dk} (hd : DkAt B w g s) (hB : Sub B w) (ha : s.acts ≤ 1000000) (nm : ByteArray) :
    Calls Try.prog 17 #[.pointer (some ⟨g, 0, none⟩), .string nm] w fun e w' => StepR B g s 0 w e w' := by
  have no : ∀ E, errE s nm = E → E ≠ 0 → Step s s E 0 → Calls Try.prog 17 #[.pointer (some ⟨g, 0, none⟩), .string nm] w fun e w' => StepR B g s 0 w e w' := fun E he h0 hs => by
    refine (remove_no hd (nm := nm) (by rw [he]; exact h0)).mono ?_
    rintro e w' ⟨rfl, hb⟩
    exact ⟨⟨E, s, by rw [he], hs, hd.below hb⟩, Kpt.of hb⟩
  cases ho : s.off with
  | true => exact no 40 (err_off ho nm) (by decide) (step_same _ (Or.inl ⟨rfl, ho⟩))
  | false =>
    cases hk : nameOk nm with
    | false => exact no 1 (err_bad ho hk) (by decide) (step_same _ (Or.inr ⟨Or.inl rfl, ho⟩))
    | true =>
      cases hf : s.get nm with
      | none => exact no 41 (err_none ho hk hf) (by decide) (step_same _ (Or.inr ⟨Or.inr rfl, ho⟩))
      | some fl =>
        by_cases h1 : s.named = 1
        · refine (remove_down hd hB ho hk hf h1).mono ?_
          rintro e w' ⟨rfl, hd', hb⟩
          exact ⟨⟨40, { s with off := true }, rfl, ⟨Nat.le_succ _, fun Z hZ => hZ, Or.inr (Or.inl ⟨rfl, ho, h1, rfl, rfl⟩)⟩, hd'⟩, hb⟩
        · refine (remove_yes hd hB ho hk hf h1 (by omega)).mono ?_
          rintro e w' ⟨rfl, hd', hb⟩
          exact ⟨⟨0, { s with get := upd s.get nm none, named := s.named - 1, acts := s.acts + 1 }, rfl, ⟨Nat.le_succ _, fun Z hZ => fit_upd hZ (fun fl' e => by cases e), Or.inl ⟨rfl, ho, h1, ho, rfl, rfl⟩⟩, hd'⟩, hb⟩
theorem rename_step {B : Nat → Prop} {w : World} {g : Nat} {s : Dk} (hd : DkAt B w g s) (hB : Sub B w) (ha : s.acts ≤ 1000000) (hn : s.n ≤ 1000000) (nm to : ByteArray) :
    Calls Try.prog 16 #[.pointer (some ⟨g, 0, none⟩), .string nm, .string to] w fun e w' => StepR B g s 0 w e w' := by
  have no : ∀ E, ckE s.off [nm, to] = E → E ≠ 0 → Step s s E 0 → Calls Try.prog 16 #[.pointer (some ⟨g, 0, none⟩), .string nm, .string to] w fun e w' => StepR B g s 0 w e w' := fun E he h0 hs => by
    refine (rename_no1 hd (nm := nm) (to := to) (by rw [he]; exact h0)).mono ?_
    rintro e w' ⟨rfl, hb⟩
    exact ⟨⟨E, s, by rw [he], hs, hd.below hb⟩, Kpt.of hb⟩
  cases ho : s.off with
  | true => exact no 40 (by rw [ck_two, ho]; rfl) (by decide) (step_same _ (Or.inl ⟨rfl, ho⟩))
  | false =>
    cases hk : nameOk nm with
    | false => exact no 1 (by rw [ck_two, ho, hk]; rfl) (by decide) (step_same _ (Or.inr ⟨Or.inl rfl, ho⟩))
    | true =>
      cases hk2 : nameOk to with
      | false => exact no 1 (by rw [ck_two, ho, hk, hk2]; rfl) (by decide) (step_same _ (Or.inr ⟨Or.inl rfl, ho⟩))
      | true =>
        cases hf : s.get nm with
        | none =>
          refine (rename_no2 hd ho hk hk2 hf).mono ?_
          rintro e w' ⟨rfl, hb⟩
          exact ⟨⟨41, s, rfl, step_same _ (Or.inr ⟨Or.inr rfl, ho⟩), hd.below hb⟩, Kpt.of hb⟩
        | some fl =>
          by_cases h1 : s.named = 1
          · refine (rename_down hd hB (to := to) ho hk hk2 hf h1).mono ?_
            rintro e w' ⟨rfl, hd', hb⟩
            exact ⟨⟨40, { s with off := true }, rfl, ⟨Nat.le_succ _, fun Z hZ => hZ, Or.inr (Or.inl ⟨rfl, ho, h1, rfl, rfl⟩)⟩, hd'⟩, hb⟩
          · refine (rename_yes hd hB (to := to) ho hk hk2 hf h1 (by omega) (by unfold maxLen; omega)).mono ?_
            rintro e w' ⟨rfl, hd', hb⟩
            refine ⟨⟨0, { s with get := upd (upd s.get nm none) to (some fl), n := s.n + 1, named := s.named - 1, acts := s.acts + 1 }, rfl, ⟨Nat.le_refl _, fun Z hZ => ?_, Or.inl ⟨rfl, ho, h1, ho, rfl, rfl⟩⟩, hd'⟩, hb⟩
            have hZ1 : Fit { s with get := upd s.get nm none } Z := fit_upd hZ fun fl' e => by cases e
            exact fit_upd (s := { s with get := upd s.get nm none }) hZ1 fun fl' e => by cases e; exact ⟨hk2, (hZ nm fl hf).2⟩
end Go.Proofs.Ytonhagoeajhacaa
namespace Go.Proofs.Ytonhagoeajhacaa
open Go.RowKit Go.Sort Go.Shelf

structure Ov where
  kind : Int
  nm : ByteArray
  to : ByteArray
  pb : Option Addr
  nb : Nat
  cb : Nat
  n : Int
  m : Int
  pi : Option Addr
  ni : Nat
  ci : Nat
instance : Inhabited Ov := ⟨⟨0, ⟨#[]⟩, ⟨#[]⟩, none, 0, 0, 0, 0, none, 0, 0⟩⟩
def encO (v : Ov) : List Value := [.int .i64 v.kind, .string v.nm, .string v.to, .slice v.pb v.nb v.cb, .int .i64 v.n, .int .i64 v.m, .slice v.pi v.ni v.ci]
structure Od where
  kind : Int
  nm : ByteArray
  to : ByteArray
  bs : List UInt8
  n : Int
  m : Int
  is : List Int
instance : Inhabited Od := ⟨⟨0, ⟨#[]⟩, ⟨#[]⟩, [], 0, 0, []⟩⟩
def OdIn (w : World) (v : Ov) (o : Od) : Prop := (v.kind = o.kind ∧ v.nm = o.nm ∧ v.to = o.to ∧ v.n = o.n ∧ v.m = o.m ∧ v.nb = o.bs.length ∧ v.ni = o.is.length) ∧ SlOf encB 1 w v.pb v.cb o.bs ∧ SlOf encI 1 w v.pi v.ci o.is
def OpsOf (w : World) (q : Option Addr) (c : Nat) (l : List Od) : Prop := ∃ vs, SlOf encO 7 w q c vs ∧ vs.length = l.length ∧ ∀ (j : Nat) (v : Ov) (o : Od), vs[j]? = some v → l[j]? = some o → OdIn w v o
def odW (o : Od) : Nat := o.bs.length + o.is.length
def odsW : List Od → Nat
  | [] => 0
  | o :: l => 1 + odW o + odsW l
def bsN (l : List Od) (k : Nat) : Nat := ((l.take k).map fun o => o.bs.length).sum
theorem ods_len : ∀ l : List Od, l.length ≤ odsW l := by
  intro l
  induction l with
  | nil => simp
  | cons a l ih => simp only [odsW, List.length_cons]; omega
theorem bsN_snoc {l : List Od} {k : Nat} {o : Od} (h : l[k]? = some o) : bsN l (k + 1) = bsN l k + o.bs.length := by
  unfold bsN
  rw [List.take_add_one, h]
  simp
theorem bsN_le (l : List Od) (k : Nat) : bsN l k ≤ odsW l := by
  unfold bsN
  induction l generalizing k with
  | nil => simp
  | cons a l ih =>
    cases k with
    | zero => simp
    | succ k => have := ih k; simp only [List.take_succ_cons, List.map_cons, List.sum_cons, odsW, odW]; omega
theorem OpsOf.at {w wr : World} {q : Option Addr} {c : Nat} {l : List Od} {j : Nat} {o : Od} (h : OpsOf w q c l) (hj : l[j]? = some o) (hb : Below w.heap.size w wr) :
    ∃ b off v, q = some ⟨b, off, none⟩ ∧ OdIn w v o ∧ wr.cell? ⟨b, off + j * 7, none⟩ = some (.int .i64 v.kind) ∧ wr.cell? ⟨b, off + j * 7 + 1, none⟩ = some (.string v.nm) ∧ wr.cell? ⟨b, off + j * 7 + 2, none⟩ = some (.string v.to) ∧ wr.cell? ⟨b, off + j * 7 + 3, none⟩ = some (.slice v.pb v.nb v.cb) ∧ wr.cell? ⟨b, off + j * 7 + 4, none⟩ = some (.int .i64 v.n) ∧ wr.cell? ⟨b, off + j * 7 + 5, none⟩ = some (.int .i64 v.m) ∧ wr.cell? ⟨b, off + j * 7 + 6, none⟩ = some (.slice v.pi v.ni v.ci) := by
  obtain ⟨vs, h1, h2, h3⟩ := h
  have hl : j < l.length := (List.getElem?_eq_some_iff.1 hj).1
  obtain ⟨v, hv, _⟩ := get_at (l := vs) (k := j) (by omega)
  obtain ⟨b, off, hq, hlt, hc⟩ := h1.2.2.2.at hv
  refine ⟨b, off, v, hq, h3 j v o hv hj, ?_, ?_, ?_, ?_, ?_, ?_, ?_⟩
  · exact (hb.cell hlt).trans (hc 0 (by decide))
  · exact (hb.cell hlt).trans (hc 1 (by decide))
  · exact (hb.cell hlt).trans (hc 2 (by decide))
  · exact (hb.cell hlt).trans (hc 3 (by decide))
  · exact (hb.cell hlt).trans (hc 4 (by decide))
  · exact (hb.cell hlt).trans (hc 5 (by decide))
  · exact (hb.cell hlt).trans (hc 6 (by decide))
theorem cell_of_block {w : World} {b : Nat} {cur : Array Value} {t : TypeId} (h : w.heap[b]? = some (.cells cur t (0, 0))) (j : Nat) : w.cell? ⟨b, j, none⟩ = cur[j]? := by unfold World.cell?; rw [h]; rfl
theorem names_off {B : Nat → Prop} {w : World} {g : Nat} {s : Dk} (hd : DkAt B w g s) (ho : s.off = true) : Calls Try.prog 15 #[.pointer (some ⟨g, 0, none⟩)] w fun e w' => e = .returned (.slice none 0 0) ∧ w' = w := by
  obtain ⟨m, h, q, c, hi⟩ := hd
  obtain ⟨⟨c0, c1, c2, c3, c4⟩, _⟩ := cells5 hi.box
  rw [ho] at c1
  clear hi
  go_enter Try.func15, Try.ntmps15
  go_wp2
  go_ret
  exact ⟨rfl, rfl⟩
set_option maxHeartbeats 1000000 in
theorem same_words (q q' : Option Addr) (c c' : Nat) (l : List ByteArray) (w : World) (h : SlOf encS 1 w q c l) (h' : SlOf encS 1 w q' c' l) (hl : l.length ≤ 1000000000) :
    Calls Try.prog 46 #[.slice q l.length c, .slice q' l.length c'] w fun e w' => e = .returned (.bool true) ∧ Below w.heap.size w w' := by
  have mixed : Try.prog.follows .mixedOrders = true := by kernel_rfl
  go_enter Try.func46, Try.ntmps46
  go_wp2
  go_loopw [13] (fun i wr => ∃ k : Nat, k ≤ l.length ∧ i = .int .i64 (k : Int) ∧ Hid (Below w.heap.size w wr)) (fun i _ => l.length - (intOf i).toNat)
  case atStart => exact ⟨0, Nat.zero_le _, rfl, hide (Below.refl _ _)⟩
  case round =>
    obtain ⟨j, hj, rfl, HB⟩ := hrel
    by_cases hlt : j < l.length
    · obtain ⟨x, hx, _⟩ := get_at hlt
      obtain ⟨b, off, hq, hb, cx⟩ := strAt (h.below (unhide HB)) hx
      obtain ⟨b', off', hq', hb', cx'⟩ := strAt (h'.below (unhide HB)) hx
      subst hq hq'
      have ki0 : (0 : Int) ≤ (j : Int) := by omega
      have ki1 : (j : Int) < (l.length : Int) := by omega
      have g1 := cell_regrown cx
      have g2 := cell_regrown cx'
      clear h h' hx
      go_wp2
      refine wp_region_quiet_below (by assumption) (by kernel_rfl) ?_
      repeat (go_big_quiet_step (fail))
      refine wpQuiet_nil ?_
      intro _ hw'
      obtain ⟨⟨dq, osq⟩, hw''⟩ := hw'
      subst hw''
      go_wp2
      go_roundw
      case rel => exact ⟨j + 1, by omega, by go_num, hide (below_sub (unhide HB) (below_regrown _ _ _))⟩
      case measure => simp [intOf]; omega
    · obtain rfl : j = l.length := by omega
      have ki1 : ¬ (l.length : Int) < (l.length : Int) := by omega
      clear h h'
      go_wp2
      go_ret
      exact ⟨rfl, unhide HB⟩
theorem names_nodup {α : Type} {f : ByteArray → Option α} {l : List ByteArray} (h : NamesOf f l) : l.Nodup := h.1.imp fun {x y} hlt e => by subst e; exact List.lt_irrefl _ hlt
theorem names_unique {α : Type} {f : ByteArray → Option α} {l l' : List ByteArray} (h : NamesOf f l) (h' : NamesOf f l') : l = l' :=
  List.Perm.eq_of_pairwise (le := fun x y : ByteArray => x.data.toList < y.data.toList) (fun _ _ _ _ h1 h2 => absurd h2 (List.lt_asymm h1)) h.1 h'.1 ((List.perm_ext_iff_of_nodup (names_nodup h) (names_nodup h')).2 fun x => (h.2 x).trans (h'.2 x).symm)
theorem found_unique {f g1 g2 : ByteArray → Option Fl} {cs : List Int} {l : List ByteArray} (hn : NamesOf f l) (h1 : FoundG f g1 cs l l.length) (h2 : FoundG f g2 cs l l.length) : g1 = g2 := by
  funext x
  by_cases hx : x ∈ l
  · obtain ⟨j, hj⟩ := List.mem_iff_getElem?.1 hx
    obtain ⟨fl, hfl⟩ := Option.isSome_iff_exists.1 ((hn.2 x).1 hx)
    have hlt := (List.getElem?_eq_some_iff.1 hj).1
    rw [h1.1 j x fl hlt hj hfl, h2.1 j x fl hlt hj hfl]
  · rw [h1.2 x (by rw [List.take_length]; exact hx), h2.2 x (by rw [List.take_length]; exact hx)]
theorem found_fit {f g1 : ByteArray → Option Fl} {cs : List Int} {l : List ByteArray} {Z : Nat} (hn : NamesOf f l) (h1 : FoundG f g1 cs l l.length) (hf : ∀ nm fl, f nm = some fl → nameOk nm = true ∧ fl.bytes.length ≤ Z) : ∀ nm fl, g1 nm = some fl → nameOk nm = true ∧ fl.bytes.length ≤ Z := fun x fl hg => by
  by_cases hx : x ∈ l
  · obtain ⟨j, hj⟩ := List.mem_iff_getElem?.1 hx
    obtain ⟨fl0, hfl⟩ := Option.isSome_iff_exists.1 ((hn.2 x).1 hx)
    have hlt := (List.getElem?_eq_some_iff.1 hj).1
    rw [h1.1 j x fl0 hlt hj hfl] at hg
    cases hg
    refine ⟨(hf x fl0 hfl).1, ?_⟩
    show (fl0.bytes.take _).length ≤ Z
    rw [List.length_take]
    have := (hf x fl0 hfl).2
    omega
  · rw [h1.2 x (by rw [List.take_length]; exact hx)] at hg; cases hg
/-- A disk keeps off more memory: new blocks. -/
theorem DkAt.more {B B' : Nat → Prop} {w : World} {g : Nat} {s : Dk} (hd : DkAt B w g s) (hB : ∀ i, B' i → B i ∨ w.heap.size ≤ i) : DkAt B' w g s := by
  obtain ⟨m, h, q, c, hi⟩ := hd
  refine ⟨m, h, q, c, ?_, ?_, hi.small, hi.box, hi.map, fun nm fl hf => ?_, hi.apart⟩
  · intro hb
    rcases hB g hb with h1 | h1
    · exact hi.bg h1
    · have := (Array.getElem?_eq_some_iff.1 hi.box).1; omega
  · intro hb
    rcases hB m hb with h1 | h1
    · exact hi.bm h1
    · have := hi.map.lt; omega
  · have f0 := hi.file nm fl hf
    refine ⟨⟨fun hb => ?_, fun p hp hb => ?_⟩, f0.2⟩
    · rcases hB _ hb with h1 | h1
      · exact f0.1.1 h1
      · have := f0.lt; omega
    · rcases hB _ hb with h1 | h1
      · exact f0.1.2 p hp h1
      · have := f0.row_lt hp; omega
theorem DkAt.glt {B : Nat → Prop} {w : World} {g : Nat} {s : Dk} (hd : DkAt B w g s) : g < w.heap.size := by
  obtain ⟨m, h, q, c, hi⟩ := hd
  exact (Array.getElem?_eq_some_iff.1 hi.box).1
/-- A disk's blocks alone are looked at: it stays where they stay. -/
theorem DkAt.lies {B : Nat → Prop} {w w' : World} {g : Nat} {s : Dk} (hd : DkAt B w g s) (hk : ∀ i, ¬ B i → i < w.heap.size → w'.heap[i]? = w.heap[i]?) : DkAt B w' g s := by
  obtain ⟨m, h, q, c, hi⟩ := hd
  refine ⟨m, h, q, c, hi.bg, hi.bm, hi.small, (hk g hi.bg (Array.getElem?_eq_some_iff.1 hi.box).1).trans hi.box, hi.map.same (hk m hi.bm hi.map.lt), fun nm fl hf => ?_, hi.apart⟩
  have f0 := hi.file nm fl hf
  exact f0.same (hk _ f0.1.1 f0.lt) fun p hp => hk _ (f0.1.2 p hp) (f0.row_lt hp)
theorem conv_sl {w : World} {q : Option Addr} {c : Nat} {l : List UInt8} (h : SlOf encB 1 w q c l) : (convert 30 9 (.slice q l.length c)).run Try.prog w = .ok (.string ⟨l.toArray⟩) w := by
  by_cases hl : 0 < l.length
  · obtain ⟨b, off, rfl, _, hA⟩ := h.2.2.2 hl
    refine run_convert_bytes_back w 30 9 5 _ c l Try.underlying30 Try.underlying5 Try.underlying9 fun j hj => ?_
    rw [add_plain]
    exact hA j _ (by rw [flatB, List.getElem?_map, List.getElem?_eq_getElem hj]; rfl)
  · obtain rfl : l = [] := List.length_eq_zero_iff.1 (by omega)
    cases q with
    | none =>
      have := (h.1 rfl).2
      subst this
      exact run_convert_bytes_nil w 30 5 Try.underlying30 Try.underlying5 0 0 9 Try.underlying9
    | some a => exact run_convert_bytes_back w 30 9 5 a c [] Try.underlying30 Try.underlying5 Try.underlying9 fun j hj => by simp at hj
end Go.Proofs.Ytonhagoeajhacaa
