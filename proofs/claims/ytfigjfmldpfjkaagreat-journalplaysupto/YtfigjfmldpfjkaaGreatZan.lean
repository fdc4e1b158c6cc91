/- Sizes and acts of a journal's disk, call by call. -/
import Derived.Test.YtfigjfmldpfjkaaGreatQ9
namespace Go.Proofs.YtfigjfmldpfjkaaGreat
open Go.RowKit Go.Sort Go.Shelf

/-- Both files of at most M bytes, and so many acts. -/
def Sz (s : JS) (M A : Nat) : Prop := szO s.j ≤ M ∧ szO s.f ≤ M ∧ s.acts ≤ A
theorem Sz.mono {s : JS} {M M' A A' : Nat} (h : Sz s M A) (hm : M ≤ M') (ha : A ≤ A') : Sz s M' A' := ⟨Nat.le_trans h.1 hm, Nat.le_trans h.2.1 hm, Nat.le_trans h.2.2 ha⟩
theorem sz_some (fl : Fl) : szO (some fl) = fl.bytes.length := rfl
theorem sz_appJ {s : JS} {M A : Nat} (h : Sz s M A) (d : List UInt8) : Sz (appJ s d).2 (M + d.length) (A + 1) := by
  obtain ⟨h1, h2, h3⟩ := h
  cases ho : s.off with
  | true => rw [appJ_off ho]; exact ⟨by show szO s.j ≤ _; omega, by show szO s.f ≤ _; omega, by show s.acts ≤ _; omega⟩
  | false =>
    by_cases hn : s.named = 1
    · rw [appJ_down ho hn]
      refine ⟨?_, by show szO s.f ≤ _; omega, by show s.acts ≤ _; omega⟩
      show szO (some (grown s.j _)) ≤ _
      rw [sz_some, grown_len, List.length_take]; omega
    · rw [appJ_yes ho hn]
      refine ⟨?_, by show szO s.f ≤ _; omega, by show s.acts + 1 ≤ _; omega⟩
      show szO (some (grown s.j _)) ≤ _
      rw [sz_some, grown_len]; omega
theorem sz_appR {s : JS} {M A : Nat} (h : Sz s M A) (d : List UInt8) : Sz (appR s d).2 (M + d.length) (A + 1) := by
  obtain ⟨h1, h2, h3⟩ := h
  cases ho : s.off with
  | true => rw [appR_off ho]; exact ⟨by show szO s.j ≤ _; omega, by show szO s.f ≤ _; omega, by show s.acts ≤ _; omega⟩
  | false =>
    by_cases hn : s.named = 1
    · rw [appR_down ho hn]
      refine ⟨by show szO s.j ≤ _; omega, ?_, by show s.acts ≤ _; omega⟩
      show szO (some (grown s.f _)) ≤ _
      rw [sz_some, grown_len, List.length_take]; omega
    · rw [appR_yes ho hn]
      refine ⟨by show szO s.j ≤ _; omega, ?_, by show s.acts + 1 ≤ _; omega⟩
      show szO (some (grown s.f _)) ≤ _
      rw [sz_some, grown_len]; omega
theorem sz_appR0 {s : JS} {M A : Nat} (h : Sz s M A) (hf : s.f = none) (d : List UInt8) (hd : d.length ≤ M) : Sz (appR s d).2 M (A + 1) := by
  obtain ⟨h1, h2, h3⟩ := h
  have h0 : szO s.f = 0 := by rw [hf]; rfl
  cases ho : s.off with
  | true => rw [appR_off ho]; exact ⟨h1, h2, by show s.acts ≤ _; omega⟩
  | false =>
    by_cases hn : s.named = 1
    · rw [appR_down ho hn]
      refine ⟨h1, ?_, by show s.acts ≤ _; omega⟩
      show szO (some (grown s.f _)) ≤ _
      rw [sz_some, grown_len, List.length_take]; omega
    · rw [appR_yes ho hn]
      refine ⟨h1, ?_, by show s.acts + 1 ≤ _; omega⟩
      show szO (some (grown s.f _)) ≤ _
      rw [sz_some, grown_len]; omega
theorem sz_synJ {s : JS} {M A : Nat} (h : Sz s M A) : Sz (synJ s).2 M (A + 1) := by
  obtain ⟨h1, h2, h3⟩ := h
  cases ho : s.off with
  | true => rw [synJ_off ho]; exact ⟨h1, h2, by show s.acts ≤ _; omega⟩
  | false =>
    cases hf : s.j with
    | none => rw [synJ_no ho hf]; exact ⟨h1, h2, by show s.acts ≤ _; omega⟩
    | some fl =>
      by_cases hn : s.named = 1
      · rw [synJ_down ho hf hn]; exact ⟨h1, h2, by show s.acts ≤ _; omega⟩
      · rw [synJ_yes ho hf hn]
        rw [hf] at h1
        exact ⟨h1, h2, by show s.acts + 1 ≤ _; omega⟩
theorem sz_synR {s : JS} {M A : Nat} (h : Sz s M A) : Sz (synR s).2 M (A + 1) := by
  obtain ⟨h1, h2, h3⟩ := h
  cases ho : s.off with
  | true => rw [synR_off ho]; exact ⟨h1, h2, by show s.acts ≤ _; omega⟩
  | false =>
    cases hf : s.f with
    | none => rw [synR_no ho hf]; exact ⟨h1, h2, by show s.acts ≤ _; omega⟩
    | some fl =>
      by_cases hn : s.named = 1
      · rw [synR_down ho hf hn]; exact ⟨h1, h2, by show s.acts ≤ _; omega⟩
      · rw [synR_yes ho hf hn]
        rw [hf] at h2
        exact ⟨h1, h2, by show s.acts + 1 ≤ _; omega⟩
theorem sz_renM {s : JS} {M A : Nat} (h : Sz s M A) : Sz (renM s).2 M (A + 1) := by
  obtain ⟨h1, h2, h3⟩ := h
  cases ho : s.off with
  | true => rw [renM_off ho]; exact ⟨h1, h2, by show s.acts ≤ _; omega⟩
  | false =>
    cases hf : s.f with
    | none => rw [renM_no ho hf]; exact ⟨h1, h2, by show s.acts ≤ _; omega⟩
    | some fl =>
      by_cases hn : s.named = 1
      · rw [renM_down ho hf hn]; exact ⟨h1, h2, by show s.acts ≤ _; omega⟩
      · rw [renM_yes ho hf hn]
        rw [hf] at h2
        exact ⟨h2, Nat.zero_le _, by show s.acts + 1 ≤ _; omega⟩
theorem sz_dis {s : JS} {M A : Nat} (h : Sz s M A) (ho : s.off = false) : Sz (disM s).2 M (A + 1) := by
  obtain ⟨h1, h2, h3⟩ := h
  cases hf : s.f with
  | none => rw [dis_none hf]; exact ⟨h1, h2, by show s.acts ≤ _; omega⟩
  | some fl =>
    rw [dis_some hf]
    by_cases hn : s.named = 1
    · rw [remR_down ho hf hn]; exact ⟨h1, h2, by show s.acts ≤ _; omega⟩
    · rw [remR_yes ho hf hn]; exact ⟨h1, Nat.zero_le _, by show s.acts + 1 ≤ _; omega⟩
theorem sz_write {s : JS} {M A : Nat} {b : List UInt8} (h : Sz (appR s b).2 M (A + 1)) : Sz (writeM s b).2 M (A + 3) := by
  by_cases h1 : (appR s b).1 = 0
  · by_cases h2 : (synR (appR s b).2).1 = 0
    · rw [write_3 h1 h2]; exact sz_renM (sz_synR h)
    · rw [write_2 h1 h2]; exact (sz_synR h).mono (Nat.le_refl _) (by omega)
  · rw [write_1 h1]; exact h.mono (Nat.le_refl _) (by omega)
theorem sz_st {s : JS} {M A : Nat} (h : Sz s M A) (hM : 20 ≤ M) : (stB s).length ≤ M := by
  unfold stB
  cases hj : s.j with
  | none => exact Nat.le_trans (head_len 1 (by decide)) hM
  | some fl => have := h.1; rw [hj] at this; exact this
theorem sz_open {s : JS} {M A : Nat} (h : Sz s M A) (hM : 20 ≤ M) : Sz (openM s).2 M (A + 4) := by
  cases ho : s.off with
  | true => rw [open_off ho]; exact h.mono (Nat.le_refl _) (by omega)
  | false =>
    have h1 := sz_dis h ho
    by_cases hd : (disM s).1 = 0
    · rw [open_mend ho hd]
      have hn := dis_f ho hd
      have hst := sz_st h1 hM
      by_cases he : scE (stB (disM s).2) = 0
      · by_cases hk : (disM s).2.j.isSome = true ∧ scL (stB (disM s).2) = (stB (disM s).2).length ∧ looseO (disM s).2.j = 0
        · rw [mend_same he hk]; exact h1.mono (Nat.le_refl _) (by omega)
        · rw [mend_write he hk]
          exact sz_write (sz_appR0 h1 hn _ (by rw [List.length_take]; omega))
      · rw [mend_bad he]; exact h1.mono (Nat.le_refl _) (by omega)
    · rw [open_dis ho hd]; exact h1.mono (Nat.le_refl _) (by omega)
theorem sz_crash {s : JS} {M A : Nat} (h : Sz s M A) (cs : List Int) : Sz (crashM s cs) M 0 := by
  obtain ⟨h1, h2, _⟩ := h
  refine ⟨?_, ?_, Nat.le_refl _⟩
  · show szO (s.j.map _) ≤ M
    cases hj : s.j with
    | none => exact Nat.zero_le _
    | some fl =>
      rw [hj] at h1
      show (fl.bytes.take _).length ≤ M
      rw [List.length_take]
      have : fl.bytes.length ≤ M := h1
      omega
  · show szO (s.f.map _) ≤ M
    cases hj : s.f with
    | none => exact Nat.zero_le _
    | some fl =>
      rw [hj] at h2
      show (fl.bytes.take _).length ≤ M
      rw [List.length_take]
      have : fl.bytes.length ≤ M := h2
      omega
theorem sz_arm {s : JS} {M A : Nat} (h : Sz s M A) (n p : Int) : Sz (armJ s n p) M A := by
  unfold armJ
  split
  · exact h
  · exact h
theorem rel_sz {s : JS} {r : Rk} {Z M A : Nat} (h : RelJ s r Z) (hs : Sz s M A) : RelJ s r M := rel_tight h hs.1 hs.2.1
theorem sc_len {s : JS} {M : Nat} (hst : (stB s).length ≤ M) (he : scE (stB s) = 0) : scL (stB s) ≤ M ∧ (scC (stB s)).length ≤ M := by
  have h1 := sc_le he
  obtain ⟨n, _, _, _, _, hsl, _⟩ := sc_back he
  have h8 : ∀ C : List Ch, C.length * 8 ≤ (encs C).length := fun C => by
    induction C with
    | nil => simp [encs]
    | cons x C ih => rw [encs_cons, List.length_append, List.length_cons]; have := one_len8 x; omega
  have := h8 (scC (stB s))
  rw [List.length_append] at hsl
  omega
end Go.Proofs.YtfigjfmldpfjkaaGreat
namespace Go.Proofs.YtfigjfmldpfjkaaGreat
open Go.RowKit Go.Sort Go.Shelf

def ptrO : Option Nat → Value
  | none => .pointer none
  | some g => .pointer (some ⟨g, 0, none⟩)
def moreB (B : Nat → Prop) (w w' : World) : Nat → Prop := fun i => B i ∨ (w.heap.size ≤ i ∧ i < w'.heap.size)
theorem moreB_sub {B : Nat → Prop} {w w' : World} (h : Sub B w) (hs : w.heap.size ≤ w'.heap.size) : Sub (moreB B w w') w' := fun i hi => by
  rcases hi with hi | hi
  · exact Nat.lt_of_lt_of_le (h i hi) hs
  · exact hi.2
theorem JAt.wide {B : Nat → Prop} {w w' : World} {d g : Nat} {s : JS} (h : JAt B w d s) (hg : w.grownBy w' (some g)) (hB : B g) : JAt (moreB B w w') w' d s :=
  (h.more fun i hi => by
    rcases hi with hi | hi
    · exact Or.inl hi
    · exact Or.inr (Or.inl hi.1)).other hg (Or.inl hB)
theorem JrAt.other {B : Nat → Prop} {w w' : World} {gj d g : Nat} {s : JS} {x : JX} (h : JrAt B w gj d s x) (hg : w.grownBy w' (some g)) (hB : B g) : JrAt B w' gj d s x := by
  have hne : gj ≠ g := fun e => h.nb (e ▸ hB)
  exact ⟨(hg.block gj h.lt (by intro e; injection e with e; exact hne e)).trans h.box, h.nb, h.disk.other hg (Or.inl hB)⟩
theorem JrAt.wide {B : Nat → Prop} {w w' : World} {gj d g : Nat} {s : JS} {x : JX} (h : JrAt B w gj d s x) (hg : w.grownBy w' (some g)) (hB : B g) : JrAt (moreB B w w') w' gj d s x :=
  (h.more (B' := moreB B w w') fun i hi => by
    rcases hi with hi | hi
    · exact Or.inl hi
    · exact Or.inr (Or.inl hi.1)).other hg (Or.inl hB)
theorem JrAt.jat {B : Nat → Prop} {w : World} {gj d : Nat} {s : JS} {x : JX} (h : JrAt B w gj d s x) : JAt B w d s := h.disk.more fun _ hi => Or.inl (Or.inl hi)
/-- The statement's world in memory, and the document's disk. -/
structure KM (B P : Nat → Prop) (w : World) (gw d g : Nat) (j s : Option Nat) (r : Rk) : Prop where
  sub : Sub B w
  box : w.heap[gw]? = some (.cells #[.pointer (some ⟨d, 0, none⟩), ptrO j, .pointer (some ⟨g, 0, none⟩), ptrO s] 34 (0, 0))
  bw : B gw
  bg : B g
  pb : ∀ i, P i → B i
  pw : ¬ P gw
  wg : gw ≠ g
  ref : RAt P w g r
section
variable {B P : Nat → Prop} {w w' : World} {gw d g : Nat} {j s : Option Nat} {r r' : Rk}
theorem KM.lt (h : KM B P w gw d g j s r) : gw < w.heap.size := (Array.getElem?_eq_some_iff.1 h.box).1
theorem KM.pg (h : KM B P w gw d g j s r) : ¬ P g := by obtain ⟨_, _, h1⟩ := h.ref; exact h1.pg
theorem KM.gl (h : KM B P w gw d g j s r) : g < w.heap.size := h.sub g h.bg
theorem KM.prog (h : KM B P w gw d g j s r) (hk : Kpt B w w') : KM B P w' gw d g j s r := by
  obtain ⟨q, c, hi⟩ := h.ref
  refine ⟨h.sub.trans hk.size, (hk.block gw h.bw h.lt).trans h.box, h.bw, h.bg, h.pb, h.pw, h.wg, q, c, hi.kept hk.size fun i hi' hl => hk.block i ?_ hl⟩
  rcases hi' with hi' | rfl
  · exact h.pb i hi'
  · exact h.bg
theorem KM.below (h : KM B P w gw d g j s r) (hb : Below w.heap.size w w') : KM B P w' gw d g j s r := h.prog (Kpt.of hb)
theorem KM.disk (h : KM B P w gw d g j s r) (he : RAt (fun i => P i ∨ w.heap.size ≤ i) w' g r') (hg : w.grownBy w' (some g)) : KM (moreB B w w') (moreB P w w') w' gw d g j s r' := by
  have hgl := h.gl
  have hwl := h.lt
  obtain ⟨q, c, hi⟩ := he
  refine ⟨moreB_sub h.sub hg.size, (hg.block gw h.lt (by intro e; injection e with e; exact h.wg e)).trans h.box, Or.inl h.bw, Or.inl h.bg, fun i hi' => ?_, fun hp => ?_, h.wg, q, c, hi.mono (fun i h1 hl => ?_) (fun h2 => ?_)⟩
  · rcases hi' with hi' | hi'
    · exact Or.inl (h.pb i hi')
    · exact Or.inr hi'
  · rcases hp with hp | hp
    · exact h.pw hp
    · omega
  · rcases h1 with h1 | h1
    · exact Or.inl h1
    · exact Or.inr ⟨h1, hl⟩
  · rcases h2 with h2 | h2
    · exact h.pg h2
    · omega
theorem KM.set {j' s' : Option Nat} (h : KM B P w gw d g j s r) (hg : w.grownBy w' (some gw)) (hb : w'.heap[gw]? = some (.cells #[.pointer (some ⟨d, 0, none⟩), ptrO j', .pointer (some ⟨g, 0, none⟩), ptrO s'] 34 (0, 0))) : KM B P w' gw d g j' s' r := by
  obtain ⟨q, c, hi⟩ := h.ref
  refine ⟨h.sub.trans hg.size, hb, h.bw, h.bg, h.pb, h.pw, h.wg, q, c, hi.kept hg.size fun i hi' hl => hg.block i hl ?_⟩
  intro e
  injection e with e
  rcases hi' with hi' | hi'
  · exact h.pw (e ▸ hi')
  · exact h.wg (e.symm.trans hi')
theorem KM.turn {b : Nat} (h : KM B P w gw d g j s r) (hg : w.grownBy w' (some b)) (h1 : b ≠ gw) (h2 : b ≠ g) (h3 : ¬ P b) : KM B P w' gw d g j s r := by
  obtain ⟨q, c, hi⟩ := h.ref
  refine ⟨h.sub.trans hg.size, (hg.block gw h.lt (by intro e; injection e with e; exact h1 e.symm)).trans h.box, h.bw, h.bg, h.pb, h.pw, h.wg, q, c, hi.kept hg.size fun i hi' hl => hg.block i hl ?_⟩
  intro e
  injection e with e
  rcases hi' with hi' | hi'
  · exact h3 (e ▸ hi')
  · exact h2 (e.symm.trans hi')
theorem KM.setB {B' : Nat → Prop} (h : KM B P w gw d g j s r) (hs : Sub B' w) (hb : ∀ i, B i → B' i) : KM B' P w gw d g j s r := ⟨hs, h.box, hb _ h.bw, hb _ h.bg, fun i hi => hb i (h.pb i hi), h.pw, h.wg, h.ref⟩
theorem cellsW {a b c d : Value} {t : TypeId} {gg : Nat} (h : w.heap[gg]? = some (.cells #[a, b, c, d] t (0, 0))) : (w.cell? ⟨gg, 0, none⟩ = some a ∧ w.cell? ⟨gg, 1, none⟩ = some b ∧ w.cell? ⟨gg, 2, none⟩ = some c ∧ w.cell? ⟨gg, 3, none⟩ = some d) ∧ ∀ o, w.frozen? ⟨gg, o, none⟩ = false := by
  refine ⟨⟨?_, ?_, ?_, ?_⟩, fun o => frozen_free h⟩ <;> (unfold World.cell?; rw [h]; rfl)
end
/-- The journals, where there are some. -/
structure KJ (B P : Nat → Prop) (w : World) (gw d g gj gs : Nat) (x : JX) (L : List Ch) (s : JS) (M : Nat) : Prop where
  jr : JrAt B w gj d s x
  rj : RjAt P w gs g L x
  bs : B gs
  ne : gs ≠ gw
  l1 : L.length ≤ M
  l2 : x.bytes ≤ M
  l3 : x.pend ≤ M
def KS (B P : Nat → Prop) (w : World) (gw d g : Nat) (s : JS) (M A : Nat) : Prop := ∃ r, RelJ s r M ∧ Sz s M A ∧ ((KM B P w gw d g none none r ∧ JAt B w d s) ∨ ∃ gj gs x L, KM B P w gw d g (some gj) (some gs) r ∧ KJ B P w gw d g gj gs x L s M)
theorem KS.mono {B P : Nat → Prop} {w : World} {gw d g : Nat} {s : JS} {M M' A A' : Nat} (h : KS B P w gw d g s M A) (hm : M ≤ M') (ha : A ≤ A') : KS B P w gw d g s M' A' := by
  obtain ⟨r, h1, h2, h3⟩ := h
  refine ⟨r, Rel.mono h1 hm, h2.mono hm ha, ?_⟩
  rcases h3 with h3 | ⟨gj, gs, x, L, h3, h4⟩
  · exact Or.inl h3
  · exact Or.inr ⟨gj, gs, x, L, h3, h4.jr, h4.rj, h4.bs, h4.ne, Nat.le_trans h4.l1 hm, Nat.le_trans h4.l2 hm, Nat.le_trans h4.l3 hm⟩
theorem KS.any {B P : Nat → Prop} {w : World} {gw d g : Nat} {s : JS} {M A : Nat} (h : KS B P w gw d g s M A) : ∃ j0 s0 r, KM B P w gw d g j0 s0 r ∧ JAt B w d s ∧ RelJ s r M ∧ Sz s M A := by
  obtain ⟨r, h1, h2, h3⟩ := h
  rcases h3 with ⟨h3, h4⟩ | ⟨gj, gs, x, L, h3, h4⟩
  · exact ⟨none, none, r, h3, h4, h1, h2⟩
  · exact ⟨some gj, some gs, r, h3, h4.jr.jat, h1, h2⟩
/-- What a call of the statement's world leaves. -/
def KE (B P : Nat → Prop) (w : World) (gw g : Nat) (d' g' : Nat) (s' : JS) (M A : Nat) (w' : World) : Prop := ∃ B' P', KS B' P' w' gw d' g' s' M A ∧ (∀ i, B i → B' i) ∧ Kpt (fun i => B i ∧ i ≠ g ∧ i ≠ gw ∧ w.cell? ⟨gw, 3, none⟩ ≠ some (.pointer (some ⟨i, 0, none⟩))) w w' ∧ (∀ i, P' i → P i ∨ w.heap.size ≤ i) ∧ ∀ gs, w'.cell? ⟨gw, 3, none⟩ = some (.pointer (some ⟨gs, 0, none⟩)) → w.heap.size ≤ gs ∨ w.cell? ⟨gw, 3, none⟩ = some (.pointer (some ⟨gs, 0, none⟩))
end Go.Proofs.YtfigjfmldpfjkaaGreat
namespace Go.Proofs.YtfigjfmldpfjkaaGreat
open Go.RowKit Go.Sort Go.Shelf

/-- A row of changes of the call's own that is being turned. -/
structure TnC (u : World) (qx : Option Addr) (n : Nat) (wr : World) : Prop where
  grown : u.grownBy wr (qx.map (·.block))
  row : ∀ j, j < n * 3 → ∃ ax, qx = some ⟨ax, 0, none⟩ ∧ (∃ v, wr.cell? ⟨ax, j, none⟩ = some v) ∧ wr.frozen? ⟨ax, j, none⟩ = false
theorem TnC.start {B : Nat} {u : World} {qx : Option Addr} {cx : Nat} {l : List Ch} (h : OwnK encC 63 3 B u qx cx l) : TnC u qx l.length u := by
  refine ⟨⟨rfl, rfl, rfl, Nat.le_refl _, fun _ _ _ => rfl⟩, fun j hj => ?_⟩
  rcases h.2 with ⟨h1, _⟩ | ⟨ax, cp, cur, hv, _, hblk, hc, _, hs, _⟩
  · injection h1 with _ h1; omega
  · injection hv with h1 _ h3
    subst h1 h3
    have hlt : j < cur.size := by rw [hs]; omega
    exact ⟨ax, rfl, ⟨cur[j], by unfold World.cell?; rw [hblk]; exact Array.getElem?_eq_getElem hlt⟩, frozen_free hblk⟩
theorem TnC.set {u wr : World} {qx : Option Addr} {n ax t : Nat} (h : TnC u qx n wr) (hq : qx = some ⟨ax, 0, none⟩) (v : Value) : TnC u qx n (wr.setCell ⟨ax, t, none⟩ v) := by
  refine ⟨?_, fun j hj => ?_⟩
  · have h1 := h.grown
    rw [hq] at h1 ⊢
    exact grown_trans h1 (grown_set _ _ _ _)
  · obtain ⟨a, h1, ⟨v2, h2⟩, h3⟩ := h.row j hj
    exact ⟨a, h1, cell?_setCell_some h2, by rw [World.frozen?_setCell]; exact h3⟩
section
variable {B P : Nat → Prop} {w : World} {gw d g : Nat} {j0 s0 : Option Nat} {r : Rk} {s : JS} {M A : Nat}
set_option maxHeartbeats 4000000 in
set_option maxRecDepth 100000 in
theorem wopen_no (h : KM B P w gw d g j0 s0 r) (hd : JAt B w d s) (hr : RelJ s r M) (hs : Sz s M A) (h20 : 20 ≤ M) (hM : M ≤ 25000000000) (hA : A ≤ 5000) (he : (openM s).1 ≠ 0) :
    Calls Tryz.prog 8 #[.pointer (some ⟨gw, 0, none⟩)] w fun e w' => e = .returned (.bool true) ∧ KE B P w gw g d g (openM s).2 M (A + 4) w' := by
  have hst := sz_st hs h20
  have hso := sz_open hs h20
  have hs1 := hs.1
  have hs3 := hs.2.2
  have ho := opens_no hd h.sub (by omega) (by omega) (by omega) he
  have hro : ∀ w1, Kpt B w w1 → Calls Tryz.prog 26 #[.pointer (some ⟨g, 0, none⟩)] w1 fun e w' => OpenR P w1 g s (M + M) e w' := fun w1 hk => by
    obtain ⟨q, c, hi⟩ := (h.prog hk).ref
    exact ropen_any hi hr hst (by omega) (by omega)
  obtain ⟨E, hE⟩ : ∃ E, (openM s).1 = E := ⟨_, rfl⟩
  obtain ⟨s1, hs1'⟩ : ∃ s1, (openM s).2 = s1 := ⟨_, rfl⟩
  rw [hE] at he
  rw [hE, hs1'] at ho
  rw [hs1'] at hso ⊢
  have hro2 : ∀ w1, Kpt B w w1 → Calls Tryz.prog 26 #[.pointer (some ⟨g, 0, none⟩)] w1 fun e w' => e = .returned (.tuple #[.pointer none, .int .i64 0, .int .i64 E]) ∧ RfJ P w1 g s1 (M + M) w' := fun w1 hk => (hro w1 hk).mono fun e w' hO => by
    rcases hO with ⟨h1, h2, h3⟩ | ⟨h1, _⟩
    · rw [hE] at h2; rw [hs1'] at h3; exact ⟨h2, h3⟩
    · exact absurd (hE.symm.trans h1) he
  have bz : (E != 0) = true := by simp [he]
  have H := hide h
  have HSO := hide hso
  have HO := hide ho
  have HRO := hide hro2
  obtain ⟨⟨c0, c1, c2, c3⟩, fz⟩ := cellsW h.box
  clear h hd hr hs he hE hs1' hro hro2 ho hso hst hs1 hs3
  go_enter Tryz.func8, Tryz.ntmps8
  go_upto_region 5 with (first
    | (go_at_call 7; refine (unhide HO).mono ?_; rintro e w1 ⟨rfl, j1, k1⟩; have J1 := hide j1; have K1 := hide k1; (obtain ⟨⟨c0, c1, c2, c3⟩, fz⟩ := cellsW ((unhide H).prog k1).box); clear j1 k1)
    | (go_at_call 26; refine (unhide HRO w1 (unhide K1)).mono ?_; rintro e w2 ⟨rfl, f2⟩; have F2 := hide f2; clear f2))
  obtain ⟨r2, rel2, rat2, g2⟩ := unhide F2
  have m1 := (unhide H).prog (unhide K1)
  have m2 := m1.disk rat2 g2
  have k2 := heap_setCell_same w2 gw 1 _ 34 (.pointer none) m2.box
  have k3 := heap_setCell_same _ gw 3 _ 34 (.pointer none) k2
  obtain ⟨⟨c0, c1, c2, c3⟩, fz⟩ := cellsW m2.box
  obtain ⟨⟨d0, d1, d2, d3⟩, fy⟩ := cellsW k2
  have fz1 := fz 1
  have fy3 := fy 3
  have hg3 : w2.grownBy ((w2.setCell ⟨gw, 1, none⟩ (.pointer none)).setCell ⟨gw, 3, none⟩ (.pointer none)) (some gw) := grown_trans (grown_set _ _ _ _) (grown_set _ _ _ _)
  have m3 := m2.set (j' := none) (s' := none) hg3 k3
  have ja := (JAt.wide (unhide J1) g2 m1.bg).other hg3 m2.bw
  have hfin : KE B P w gw g d g s1 M (A + 4) ((w2.setCell ⟨gw, 1, none⟩ (.pointer none)).setCell ⟨gw, 3, none⟩ (.pointer none)) := by
    refine ⟨_, _, ⟨r2, rel_sz rel2 (unhide HSO), unhide HSO, Or.inl ⟨m3, ja⟩⟩, fun i hi => Or.inl hi, Kpt.mono (B := fun i => B i ∧ i ≠ g ∧ i ≠ gw) ?_ (fun i hi => ⟨hi.1, hi.2.1, hi.2.2.1⟩), fun i hi => ?_, fun gs h9 => ?_⟩
    case refine_2 =>
      rcases hi with hi | hi
      · exact Or.inl hi
      · exact Or.inr (Nat.le_trans (unhide K1).size hi.1)
    case refine_3 =>
      have h8 := (cellsW m3.box).1.2.2.2
      rw [h8] at h9
      cases h9
    have hk := unhide K1
    refine ⟨hg3.os.trans (g2.os.trans hk.os), hg3.tape.trans (g2.tape.trans hk.tape), hg3.output.trans (g2.output.trans hk.output), Nat.le_trans hk.size (Nat.le_trans g2.size hg3.size), fun i hi hl => ?_⟩
    have l1 := Nat.lt_of_lt_of_le hl hk.size
    exact (hg3.block i (Nat.lt_of_lt_of_le l1 g2.size) (by intro e; injection e with e; exact hi.2.2 e)).trans ((g2.block i l1 (by intro e; injection e with e; exact hi.2.1 e)).trans (hk.block i hi.1 hl))
  have HFIN := hide hfin
  clear m1 m2 k2 k3 m3 ja hfin hg3 rat2 rel2 g2
  go_wp2
  go_ret
  exact ⟨rfl, unhide HFIN⟩
end
end Go.Proofs.YtfigjfmldpfjkaaGreat
namespace Go.Proofs.YtfigjfmldpfjkaaGreat
open Go.RowKit Go.Sort Go.Shelf

section
variable {B P : Nat → Prop} {w w' : World} {gw d g : Nat} {j0 s0 : Option Nat} {r r' : Rk} {s : JS} {M A : Nat}
def moreX (P : Nat → Prop) (w w' : World) (gs : Nat) : Nat → Prop := fun i => moreB P w w' i ∧ i ≠ gs
theorem KM.diskX {gs : Nat} (h : KM B P w gw d g j0 s0 r) (he : RAt (PX P w gs) w' g r') (hg : w.grownBy w' (some g)) : KM (moreB B w w') (moreX P w w' gs) w' gw d g j0 s0 r' := by
  have hgl := h.gl
  have hwl := h.lt
  obtain ⟨q, c, hi⟩ := he
  refine ⟨moreB_sub h.sub hg.size, (hg.block gw h.lt (by intro e; injection e with e; exact h.wg e)).trans h.box, Or.inl h.bw, Or.inl h.bg, fun i hi' => ?_, fun hp => ?_, h.wg, q, c, hi.mono (fun i h1 hl => ?_) (fun h2 => ?_)⟩
  · rcases hi'.1 with hi' | hi'
    · exact Or.inl (h.pb i hi')
    · exact Or.inr hi'
  · rcases hp.1 with hp | hp
    · exact h.pw hp
    · omega
  · rcases h1.1 with h3 | h3
    · exact ⟨Or.inl h3, h1.2⟩
    · exact ⟨Or.inr ⟨h3, hl⟩, h1.2⟩
  · rcases h2.1 with h2 | h2
    · exact h.pg h2
    · omega
theorem RjAt.turn {gs b : Nat} {L : List Ch} {x : JX} (h : RjAt P w gs g L x) (hg : w.grownBy w' (some b)) (h1 : b ≠ gs) (h2 : ¬ P b) : RjAt P w' gs g L x := by
  obtain ⟨q, c, h⟩ := h
  refine ⟨q, c, h.kept hg.size fun i hi hl => hg.block i hl ?_⟩
  intro e
  injection e with e
  rcases hi with hi | hi
  · exact h2 (e ▸ hi)
  · exact h1 (e.symm.trans hi)
theorem RjAt.below {gs : Nat} {L : List Ch} {x : JX} (h : RjAt P w gs g L x) (hb : Below w.heap.size w w') : RjAt P w' gs g L x := by
  obtain ⟨q, c, h⟩ := h
  exact ⟨q, c, h.below hb⟩
theorem below_none (hg : w.grownBy w' none) : Below w.heap.size w w' := ⟨hg.os, hg.tape, hg.output, hg.size, fun i hi => hg.block i hi (by intro e; cases e)⟩
/-- All of it, while a row of the call's own is turned. -/
theorem KJ.turn {gs gj : Nat} {L : List Ch} {x : JX} {q : Option Addr} (h : KM B P w gw d g (some gj) (some gs) r) (hj : KJ B P w gw d g gj gs x L s M) (hg : w.grownBy w' (q.map (·.block))) (hb : ∀ p, q = some p → B p.block ∧ p.block ≠ gw ∧ p.block ≠ g ∧ p.block ≠ gs ∧ ¬ P p.block) : KM B P w' gw d g (some gj) (some gs) r ∧ KJ B P w' gw d g gj gs x L s M := by
  cases q with
  | none =>
    have hb := below_none hg
    exact ⟨h.below hb, hj.jr.below hb, hj.rj.below hb, hj.bs, hj.ne, hj.l1, hj.l2, hj.l3⟩
  | some p =>
    obtain ⟨h1, h2, h3, h4, h5⟩ := hb p rfl
    exact ⟨h.turn hg h2 h3 h5, hj.jr.other hg h1, hj.rj.turn hg h4 h5, hj.bs, hj.ne, hj.l1, hj.l2, hj.l3⟩
set_option maxHeartbeats 4000000 in
set_option maxRecDepth 100000 in
theorem wopen_yes (h : KM B P w gw d g j0 s0 r) (hd : JAt B w d s) (hr : RelJ s r M) (hs : Sz s M A) (h20 : 20 ≤ M) (hM : M ≤ 25000000000) (hA : A ≤ 5000) (he : (openM s).1 = 0) :
    Calls Tryz.prog 8 #[.pointer (some ⟨gw, 0, none⟩)] w fun e w' => e = .returned (.bool true) ∧ KE B P w gw g d g (openM s).2 M (A + 4) w' := by
  have hst := sz_st hs h20
  have hso := sz_open hs h20
  have hs1 := hs.1
  have hs3 := hs.2.2
  have ho := opens_yes hd h.sub (by omega) (by omega) (by omega) he
  have hsc := sc_len hst (open_ok he).2.2.1
  have hro : ∀ w1, Kpt B w w1 → Calls Tryz.prog 26 #[.pointer (some ⟨g, 0, none⟩)] w1 fun e w' => OpenR P w1 g s (M + M) e w' := fun w1 hk => by
    obtain ⟨q, c, hi⟩ := (h.prog hk).ref
    exact ropen_any hi hr hst (by omega) (by omega)
  obtain ⟨s1, hs1'⟩ : ∃ s1, (openM s).2 = s1 := ⟨_, rfl⟩
  obtain ⟨C, hC⟩ : ∃ C, scC (stB s) = C := ⟨_, rfl⟩
  obtain ⟨S, hS⟩ : ∃ S, scL (stB s) = S := ⟨_, rfl⟩
  obtain ⟨NX, hNX⟩ : ∃ NX, nextN (scN (stB s)) C = NX := ⟨_, rfl⟩
  rw [hs1', hC, hS, hNX] at ho
  rw [hs1'] at hso ⊢
  rw [hC, hS] at hsc
  have hro2 : ∀ w1, Kpt B w w1 → Calls Tryz.prog 26 #[.pointer (some ⟨g, 0, none⟩)] w1 fun e w' => ∃ gs, e = .returned (.tuple #[.pointer (some ⟨gs, 0, none⟩), .int .i64 NX, .int .i64 0]) ∧ OpenY P w1 g s1 (M + M) C S gs w' := fun w1 hk => (hro w1 hk).mono fun e w' hO => by
    rcases hO with ⟨h1, _⟩ | ⟨h1, gs, h2, h3⟩
    · exact absurd he h1
    · rw [hC, hNX] at h2; rw [hs1', hC, hS] at h3; exact ⟨gs, h2, h3⟩
  have H := hide h
  have HSO := hide hso
  have HO := hide ho
  have HRO := hide hro2
  obtain ⟨⟨c0, c1, c2, c3⟩, fz⟩ := cellsW h.box
  have hgl := h.gl
  have hwl := h.lt
  obtain ⟨hscS, hscC⟩ := hsc
  clear h hd hr hs he hs1' hro hro2 ho hso hst hs1 hs3 hC hS hNX
  go_enter Tryz.func8, Tryz.ntmps8
  go_upto_region 5 with (first
    | (go_at_call 7; refine (unhide HO).mono ?_; rintro e w1 ⟨⟨gj, q, c, rfl, o1, hgj, j1⟩, k1⟩; have J1 := hide j1; have K1 := hide k1; have O1 := hide o1; (obtain ⟨⟨c0, c1, c2, c3⟩, fz⟩ := cellsW ((unhide H).prog k1).box); clear j1 k1 o1)
    | (go_at_call 26; refine (unhide HRO w1 (unhide K1)).mono ?_; rintro e w2 ⟨gs, rfl, f2⟩; have F2 := hide f2; clear f2))
  obtain ⟨⟨r2, rel2, rat2⟩, rj2, hgs, g2⟩ := unhide F2
  have hk1 := (unhide K1).size
  have m1 := ((unhide H).prog (unhide K1)).setB (B' := PlusRow B q) (Sub.with_row ((unhide H).prog (unhide K1)).sub (unhide O1)) (fun i hi => Or.inl hi)
  have jr1 : JrAt (PlusRow B q) w1 gj d s1 ⟨0, C.length, S, 0⟩ := (unhide J1).more fun i hi => by
    rcases hi with hi | ⟨p, hp, rfl⟩
    · exact Or.inl hi
    · obtain ⟨_, cur, hc⟩ := own_cellsG (unhide O1) hp
      exact Or.inr (Or.inr ⟨cur, 63, hc, by decide, by decide, by decide, by decide⟩)
  have m2 := m1.diskX rat2 g2
  have jr2 := jr1.wide g2 m1.bg
  have hgsl : gs < w2.heap.size := by obtain ⟨_, _, hh⟩ := rj2; exact hh.lt
  have rjx : RjAt (moreX P w1 w2 gs) w2 gs g C ⟨0, C.length, S, 0⟩ := by
    obtain ⟨qq, cc, hh⟩ := rj2
    exact ⟨qq, cc, hh.mono (fun i hi hl => ⟨by rcases hi.1 with h1 | h1; exact Or.inl h1; exact Or.inr ⟨h1, hl⟩, hi.2⟩) (fun hp => hp.2 rfl)⟩
  have hqb : ∀ p, q = some p → w.heap.size ≤ p.block ∧ p.block < w1.heap.size := fun p hp => by
    obtain ⟨h1, cur, hc⟩ := own_cellsG (unhide O1) hp
    exact ⟨h1, (Array.getElem?_eq_some_iff.1 hc).1⟩
  have k2 := heap_setCell_same w2 gw 1 _ 34 (.pointer (some ⟨gj, 0, none⟩)) m2.box
  have k3 := heap_setCell_same _ gw 3 _ 34 (.pointer (some ⟨gs, 0, none⟩)) k2
  obtain ⟨W3, hW3⟩ : ∃ W3, (w2.setCell ⟨gw, 1, none⟩ (.pointer (some ⟨gj, 0, none⟩))).setCell ⟨gw, 3, none⟩ (.pointer (some ⟨gs, 0, none⟩)) = W3 := ⟨_, rfl⟩
  have hg3 : w2.grownBy W3 (some gw) := by rw [← hW3]; exact grown_trans (grown_set _ _ _ _) (grown_set _ _ _ _)
  rw [hW3] at k3
  have m3 := m2.set (j' := some gj) (s' := some gs) hg3 k3
  have jr3 := jr2.other hg3 m2.bw
  have rj3 := rjx.turn hg3 (by omega) (fun hp => m2.pw hp)
  have o3 : OwnK encC 63 3 w.heap.size W3 q c C := own_sameG (unhide O1) fun p hp => by
    obtain ⟨h1, h2⟩ := hqb p hp
    exact (hg3.block _ (Nat.lt_of_lt_of_le h2 g2.size) (by intro e; injection e with e; omega)).trans (g2.block _ h2 (by intro e; injection e with e; omega))
  obtain ⟨qj, cj, rj3'⟩ := rj3
  obtain ⟨⟨x0, x1, x2, x3, x4⟩, _⟩ := cells5 rj3'.box
  have hsame := sameC_any q qj c cj C C W3 o3.ls rj3'.row.1 (by omega) (by omega)
  have kj3 : KJ (moreB (PlusRow B q) w1 w2) (moreX P w1 w2 gs) W3 gw d g gj gs ⟨0, C.length, S, 0⟩ C s1 M := ⟨jr3, ⟨qj, cj, rj3'⟩, Or.inr ⟨hgs, hgsl⟩, by omega, hscC, hscS, Nat.zero_le _⟩
  have hqB : ∀ p, q = some p → moreB (PlusRow B q) w1 w2 p.block ∧ p.block ≠ gw ∧ p.block ≠ g ∧ p.block ≠ gs ∧ ¬ moreX P w1 w2 gs p.block := fun p hp => by
    obtain ⟨h1, h2⟩ := hqb p hp
    refine ⟨Or.inl (Or.inr ⟨p, hp, rfl⟩), by omega, by omega, by omega, fun hP => ?_⟩
    rcases hP.1 with hP | hP
    · have := (unhide H).sub _ ((unhide H).pb _ hP); omega
    · omega
  have hfr : Kpt (fun i => B i ∧ i ≠ g ∧ i ≠ gw) w W3 := by
    have hk := unhide K1
    refine ⟨hg3.os.trans (g2.os.trans hk.os), hg3.tape.trans (g2.tape.trans hk.tape), hg3.output.trans (g2.output.trans hk.output), Nat.le_trans hk.size (Nat.le_trans g2.size hg3.size), fun i hi hl => ?_⟩
    have l1 := Nat.lt_of_lt_of_le hl hk.size
    exact (hg3.block i (Nat.lt_of_lt_of_le l1 g2.size) (by intro e; injection e with e; exact hi.2.2 e)).trans ((g2.block i l1 (by intro e; injection e with e; exact hi.2.1 e)).trans (hk.block i hi.1 hl))
  have hfin : ∀ W4 W5, Below W3.heap.size W3 W4 → W4.grownBy W5 (q.map (·.block)) → KE B P w gw g d g s1 M (A + 4) W5 := fun W4 W5 b4 g5 => by
    obtain ⟨m5, kj5⟩ := KJ.turn (m3.below b4) ⟨kj3.jr.below b4, kj3.rj.below b4, kj3.bs, kj3.ne, kj3.l1, kj3.l2, kj3.l3⟩ g5 hqB
    refine ⟨_, _, ⟨r2, rel_sz rel2 (unhide HSO), unhide HSO, Or.inr ⟨gj, gs, _, _, m5, kj5⟩⟩, fun i hi => Or.inl (Or.inl hi), Kpt.mono (B := fun i => B i ∧ i ≠ g ∧ i ≠ gw) ?_ (fun i hi => ⟨hi.1, hi.2.1, hi.2.2.1⟩), fun i hi => ?_, fun gs' h9 => ?_⟩
    case refine_2 =>
      rcases hi.1 with hi | hi
      · exact Or.inl hi
      · exact Or.inr (Nat.le_trans hk1 hi.1)
    case refine_3 =>
      have h8 := (cellsW m5.box).1.2.2.2
      rw [h8] at h9
      injection h9 with h9
      injection h9 with h9
      injection h9 with h9
      injection h9 with h9
      exact Or.inl (h9 ▸ Nat.le_trans hk1 hgs)
    refine ⟨g5.os.trans (b4.os.trans hfr.os), g5.tape.trans (b4.tape.trans hfr.tape), g5.output.trans (b4.output.trans hfr.output), Nat.le_trans hfr.size (Nat.le_trans b4.size g5.size), fun i hi hl => ?_⟩
    have l1 := Nat.lt_of_lt_of_le hl hfr.size
    refine (g5.block i (Nat.lt_of_lt_of_le l1 b4.size) (fun e => ?_)).trans ((b4.block i l1).trans (hfr.block i hi hl))
    obtain ⟨p, hp, hpb⟩ := Option.map_eq_some_iff.1 e.symm
    have := (hqb p hp).1
    omega
  obtain ⟨⟨d0, d1, d2, d3⟩, fy⟩ := cellsW m2.box
  obtain ⟨⟨e0, e1, e2, e3⟩, fx⟩ := cellsW k2
  have fy1 := fy 1
  have fx3 := fx 3
  have HFIN := hide hfin
  have HSAME := hide hsame
  have O3 := hide o3
  rw [decide_eq_true rfl] at HSAME
  clear m1 jr1 m2 jr2 rjx hqb k2 k3 m3 jr3 kj3 hqB hfr hfin rj2 rat2 rel2 g2 hg3 o3 hsame rj3' F2 J1 O1
  go_wp2_with (go_at_call 18; refine (unhide HSAME).mono ?_; rintro e w4 ⟨rfl, b4⟩; have B4 := hide b4; have O4 := hide ((unhide O3).below b4); clear b4)
  have hst := hide (TnC.start (unhide O4))
  go_loopw [67] (fun i wr => ∃ t : Nat, t ≤ C.length ∧ i = .int .i64 (t : Int) ∧ Hid (TnC w4 q C.length wr)) (fun i _ => C.length - (intOf i).toNat)
  case atStart => exact ⟨0, Nat.zero_le _, rfl, hst⟩
  case round =>
    obtain ⟨t, ht, rfl, HT⟩ := hrel
    by_cases htl : t < C.length
    · obtain ⟨ax, hax, ⟨m0, hm0⟩, hf0⟩ := (unhide HT).row (t * 3) (by omega)
      obtain ⟨ax1, hax1, ⟨m1, hm1⟩, hf1⟩ := (unhide HT).row (t * 3 + 1) (by omega)
      obtain ⟨ax2, hax2, ⟨m2, hm2⟩, hf2⟩ := (unhide HT).row (t * 3 + 2) (by omega)
      obtain rfl : ax1 = ax := by rw [hax] at hax1; injection hax1 with e; injection e with e; exact e.symm
      obtain rfl : ax2 = ax1 := by rw [hax] at hax2; injection hax2 with e; injection e with e; exact e.symm
      have t0 : (0 : Int) ≤ (t : Int) := by omega
      have t1 : (t : Int) < (C.length : Int) := by omega
      have HTS := hide (fun a b c => (((unhide HT).set (t := t * 3) hax a).set (t := t * 3 + 1) hax b).set (t := t * 3 + 2) hax c)
      subst hax
      go_wp2
      go_roundw
      case rel => exact ⟨t + 1, by omega, by go_num, hide (unhide HTS _ _ _)⟩
      case measure => simp [intOf]; omega
    · obtain rfl : t = C.length := by omega
      have t1 : ¬ (C.length : Int) < (C.length : Int) := by omega
      go_wp2
      go_ret
      exact ⟨rfl, unhide HFIN w4 wr (unhide B4) (unhide HT).grown⟩
theorem wopen_any (h : KM B P w gw d g j0 s0 r) (hd : JAt B w d s) (hr : RelJ s r M) (hs : Sz s M A) (h20 : 20 ≤ M) (hM : M ≤ 25000000000) (hA : A ≤ 5000) :
    Calls Tryz.prog 8 #[.pointer (some ⟨gw, 0, none⟩)] w fun e w' => e = .returned (.bool true) ∧ KE B P w gw g d g (openM s).2 M (A + 4) w' := by
  by_cases he : (openM s).1 = 0
  · exact wopen_yes h hd hr hs h20 hM hA he
  · exact wopen_no h hd hr hs h20 hM hA he
end
end Go.Proofs.YtfigjfmldpfjkaaGreat
