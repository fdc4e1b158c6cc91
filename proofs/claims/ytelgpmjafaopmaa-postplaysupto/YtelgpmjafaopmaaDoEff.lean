/- world.do: what one call leaves. -/
import Derived.Test.YtelgpmjafaopmaaDoHead
namespace Go.Proofs.Ytelgpmjafaopmaa
open Go.RowKit Go.Sort Go.Shelf

def nx (k n : Nat) : Nat := if k < n then k + 1 else k
theorem nx_le {k n : Nat} (h : k ≤ n) : nx k n ≤ n := by unfold nx; split <;> omega
theorem nextC_any (C : Nat) (q : Option Addr) (n cap k : Nat) (w : World) (h : Cur w C q n cap k) (hk : k ≤ n) (hn : n ≤ 100000000000000) :
    Calls Try.prog 19 #[.pointer (some ⟨C, 0, none⟩)] w fun e w' => e = .returned (.bool (decide (nx k n < n))) ∧ Cur w' C q n cap (nx k n) ∧ w.grownBy w' (some C) := by
  by_cases hlt : k < n
  · have e : nx k n = k + 1 := by unfold nx; rw [if_pos hlt]
    rw [e]; exact nextC_in C q n cap k w h hlt hn
  · obtain rfl : k = n := by omega
    have e : nx k k = k := by unfold nx; rw [if_neg (by omega)]
    rw [e, decide_eq_false (Nat.lt_irrefl k)]; exact nextC_end C q k cap w h hn
theorem nextR_any (C : Nat) (q : Option Addr) (n cap k : Nat) (w : World) (h : RCur w C q n cap k) (hk : k ≤ n) (hn : n ≤ 100000000000000) :
    Calls Try.prog 29 #[.pointer (some ⟨C, 0, none⟩)] w fun e w' => e = .returned (.bool (decide (nx k n < n))) ∧ RCur w' C q n cap (nx k n) ∧ w.grownBy w' (some C) := by
  by_cases hlt : k < n
  · have e : nx k n = k + 1 := by unfold nx; rw [if_pos hlt]
    rw [e]; exact nextR_in C q n cap k w h hlt hn
  · obtain rfl : k = n := by omega
    have e : nx k k = k := by unfold nx; rw [if_neg (by omega)]
    rw [e, decide_eq_false (Nat.lt_irrefl k)]; exact nextR_end C q k cap w h
/-- What a call of the seven kinds leaves: no block from A on has turned. -/
def Eff (B A : Nat) (W w' : World) : Prop := Below B W w' ∧ ∀ X, A ≤ X → X < W.heap.size → w'.heap[X]? = W.heap[X]?
theorem eff_of {B A C : Nat} {W w' : World} (hg : W.grownBy w' (some C)) (hC : B ≤ C) (hA : C < A) (hB : B ≤ W.heap.size) : Eff B A W w' :=
  ⟨below_of_grown hg hC hB, fun X h1 h2 => hg.block X h2 (by simp; omega)⟩
theorem Eff.trans {B A : Nat} {a b c : World} (h : Eff B A a b) (h' : Eff B A b c) (_ : A ≤ a.heap.size) : Eff B A a c :=
  ⟨h.1.trans h'.1, fun X h1 h2 => (h'.2 X h1 (Nat.lt_of_lt_of_le h2 h.1.size)).trans (h.2 X h1 h2)⟩
theorem Eff.drew {B A : Nat} {W w' : World} (h : Eff B A W.drew w') : Eff B A W w' := ⟨((Below.refl _ _).drew).trans h.1, h.2⟩
theorem own_eff {α : Type} [Inhabited α] {enc : α → List Value} {e : TypeId} {k B A A1 : Nat} {W w' : World} {q : Option Addr} {cap : Nat} {l : List α} (h : OwnK enc e k A1 W q cap l) (he : Eff B A W w') (hA : A ≤ A1) : OwnK enc e k A1 w' q cap l := by
  refine ⟨h.1, ?_⟩
  rcases h.2 with h0 | ⟨g, cp, cur, hv, hB, hblk, hr⟩
  · exact Or.inl h0
  · exact Or.inr ⟨g, cp, cur, hv, hB, (he.2 g (Nat.le_trans hA hB) (Array.getElem?_eq_some_iff.1 hblk).1).trans hblk, hr⟩
theorem Mark.eff {B A A1 : Nat} {W w' : World} {g c : Nat} {l : List Pt} (h : Mark A1 W g c l) (he : Eff B A W w') (hA : A ≤ A1) : Mark A1 w' g c l := ⟨own_eff h.1 he hA, h.2⟩
theorem MarkI.eff {B A A1 : Nat} {W w' : World} {g c : Nat} {l : List Int} (h : MarkI A1 W g c l) (he : Eff B A W w') (hA : A ≤ A1) : MarkI A1 w' g c l := ⟨own_eff h.1 he hA, h.2⟩
theorem Eff.refl (B A : Nat) (w : World) : Eff B A w w := ⟨Below.refl _ _, fun _ _ _ => rfl⟩
theorem Eff.of_below {B A : Nat} {w w' : World} (h : Below w.heap.size w w') (hB : B ≤ w.heap.size) : Eff B A w w' := ⟨h.mono hB, fun X _ hX => h.block X hX⟩
/-- How much the lists may have grown. -/
def Grew (s s' : St) (n : Nat) : Prop := (∀ b, (s'.l b).length ≤ (s.l b).length + n) ∧ (s'.lc = s.lc ∨ ∃ b, s'.lc = s.l b)
theorem Grew.refl (s : St) (n : Nat) : Grew s s n := ⟨fun _ => Nat.le_add_right _ _, Or.inl rfl⟩
/-- Add or Drop of one list: where its row lies, and what has not turned. -/
theorem Wd.turnS {B A : Nat} {w w' : World} {G : Nat} {s : St} (h : Wd B w G s) (b : Bool) {l' : List Pt} (hst : Str l') (ht : Turned2 B (s.L b) w (s.q b) (s.l b) l' w') (_ : A ≤ w.heap.size) (hL : s.L b < A) (hq : ∀ a, s.q b = some a → a.block < A) :
    ∃ q' cap', Wd B w' G { s with q := upd s.q b q', cap := upd s.cap b cap', l := upd s.l b l' } ∧ Eff B A w w' ∧ ∀ q0 : Option Addr, Sep q0 (s.q b) → (∀ a, q0 = some a → a.block < w.heap.size) → Sep q0 q' := by
  obtain ⟨q2, cap2, h2, hb2⟩ := h.turn b hst ht
  obtain ⟨q', cap', w1, hs, hb1, ho, rfl, hp⟩ := ht
  have e1 := (h2.lst b).1
  have e2 := ((h.lst b).put hs ho).2.1
  simp only [upd_same] at e1
  rw [e1] at e2
  simp only [Option.some.injEq, Obj.cells.injEq, and_true, true_and, Array.mk.injEq, List.cons.injEq, Value.slice.injEq] at e2
  obtain ⟨rfl, rfl⟩ := e2
  refine ⟨q2, cap2, h2, ⟨hb2, fun X h1 h2 => ?_⟩, fun q0 hsep hlt => sep_step hsep hs hlt⟩
  refine (Below.heap_setCell _ _ _ _ (show X ≠ s.L b by omega)).trans (hs.1.block X h2 ?_)
  cases e : s.q b with
  | none => simp
  | some a => have := hq a e; simp; omega
/-- The copies, without their marks. -/
theorem Mark.sl {B : Nat} {w : World} {g c : Nat} {l : List Pt} (h : Mark B w g c l) : SlOf encP 2 w (some ⟨g, 0, none⟩) c l :=
  slof_pre h.1.ls (List.prefix_append _ _) (fun e => by cases e) (by have := h.2; omega) h.1.ls.2.2.1
theorem MarkI.sl {B : Nat} {w : World} {g c : Nat} {l : List Int} (h : MarkI B w g c l) : SlOf encI 1 w (some ⟨g, 0, none⟩) c l :=
  ⟨(fun e => by cases e), (by have := h.2; omega), h.1.ls.2.2.1, fun h0 => by
    obtain ⟨b, off, hq, hlt, hc⟩ := h.1.ls.2.2.2 (by rw [List.length_append]; omega)
    refine ⟨b, off, hq, hlt, fun j u hj => hc j u ?_⟩
    rw [flat_app encI 1 (by decide)]
    exact (List.getElem?_append_left (List.getElem?_eq_some_iff.1 hj).1).trans hj⟩
theorem Wd.free {B : Nat} {w : World} {G : Nat} {s : St} (h : Wd B w G s) (o : Nat) : w.frozen? ⟨G, o, none⟩ = false := frozen_free h.blk
/-- Both cursors are written. -/
theorem Wd.putCR {B : Nat} {w : World} {G : Nat} {s s' : St} (h : Wd B w G s) (hr : Wr B w s') (hcs : cellsOf s' = ((cellsOf s).setIfInBounds 4 (.pointer (some ⟨s'.C, 0, none⟩))).setIfInBounds 5 (.pointer (some ⟨s'.R, 0, none⟩))) :
    Wd B ((w.setCell ⟨G, 4, none⟩ (.pointer (some ⟨s'.C, 0, none⟩))).setCell ⟨G, 5, none⟩ (.pointer (some ⟨s'.R, 0, none⟩))) G s' := by
  have b1 : (w.setCell ⟨G, 4, none⟩ (.pointer (some ⟨s'.C, 0, none⟩))).heap[G]? = some (.cells (cellsOf { s with C := s'.C }) 33 (0, 0)) := by
    rw [heap_setCell_same w G 4 _ 33 _ h.blk]; simp [cellsOf]
  exact { (hr.keepG h.blk (grown_set w G 4 _)).keepG b1 (grown_set _ G 5 _) with
    blk := by rw [heap_setCell_same _ G 5 _ 33 _ b1, hcs]; simp [cellsOf]
    lowG := h.lowG }
theorem eff_set {B A : Nat} {w : World} {G : Nat} (hG : B ≤ G) (hA : G < A) (i : Nat) (v : Value) : Eff B A w (w.setCell ⟨G, i, none⟩ v) :=
  ⟨(Below.refl _ _).setCell (p := ⟨G, i, none⟩) hG _, fun X h1 _ => Below.heap_setCell _ _ _ _ (show X ≠ G by omega)⟩
end Go.Proofs.Ytelgpmjafaopmaa
