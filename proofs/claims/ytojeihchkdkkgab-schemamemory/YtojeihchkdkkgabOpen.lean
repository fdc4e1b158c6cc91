/- How lists of attributes and of pairs among the arguments are opened. -/
import Derived.Test.YtojeihchkdkkgabLists
import Derived.Deep.Slices
import Derived.Deep.Strs
import Derived.Deep.DeepHandedRow
import Derived.Deep.DeepWitnessRowRef
import Derived.Lib.SmallJoins
import Derived.SizedLaws
import Derived.ProofKit
import Derived.LaidMore
namespace Go.Proofs.Ytojeihchkdkkgab
open Go.ChangeShapes Go.WideShapes Go.ChangeAt Go.RowKit Go.Joins

theorem Try.own : ownKnob Try.prog.godebug = none := by kernel_rfl
theorem Try.laidOut : laidOutB Try.prog = true := by kernel_rfl
theorem Try.cells3 : Try.prog.cellsOf 3 = 1 := by kernel_rfl
theorem Try.cells9 : Try.prog.cellsOf 9 = 1 := by kernel_rfl
theorem Try.cells26 : Try.prog.cellsOf 26 = 2 := by kernel_rfl
theorem Try.cells45 : Try.prog.cellsOf 45 = 3 := by kernel_rfl
theorem Try.cells52 : Try.prog.cellsOf 52 = 4 := by kernel_rfl
theorem Try.bytes26 : Try.prog.bytesOf 26 = 24 := by kernel_rfl
theorem Try.bytes52 : Try.prog.bytesOf 52 = 48 := by kernel_rfl

theorem trod_two {H : Type} {enc : TypeId × Value → H} {P : Program} {w : World} {base : Nat} {spare : Nat → Bool} {held : Bool} {t : TypeId} {f0 f1 : Field} {fuel : Nat} {cs : List Value} {x : DataW H × List MemPlace} (ht : P.underlying t = some (.struct #[f0, f1])) (h : DataW.trod enc P w base spare held fuel t cs = some x) :
    ∃ y0 y1 n, x = (.agg [y0.1, y1.1], y0.2 ++ y1.2) ∧ cs.length = P.cellsOf t ∧ DataW.trod enc P w base spare held n f0.type ((cs.drop f0.offset).take (P.cellsOf f0.type)) = some y0 ∧
      DataW.trod enc P w base spare held n f1.type ((cs.drop f1.offset).take (P.cellsOf f1.type)) = some y1 := by
  obtain ⟨xs, n, _, rfl, hl, hlen, hf⟩ := DataW.trod_struct ht h
  match xs, hlen with
  | [y0, y1], _ => exact ⟨y0, y1, n, by simp, hl, by simpa using hf 0 f0 rfl, by simpa using hf 1 f1 rfl⟩
theorem range_at {α : Type} {f : Nat → α} {n j : Nat} {x : α} (h : ((List.range n).map f)[j]? = some x) : j < n ∧ x = f j := by
  obtain ⟨hj, e⟩ := List.getElem?_eq_some_iff.1 h
  simp at hj e
  exact ⟨hj, e.symm⟩
set_option maxRecDepth 100000 in
/-- The two cells of an attribute. -/
theorem open_at2 {H : Type} {enc : TypeId × Value → H} {W : World} {base : Nat} {sp : Nat → Bool} {held : Bool} {fuel : Nat} {cs : List Value} {x : DataW H × List MemPlace}
    (h : DataW.trod enc Try.prog W base sp held fuel 26 cs = some x) (hl : cs.length = 2) :
    ∃ y : ByteArray × Int, cs = [.string y.1, .int .i64 y.2] ∧ y.1.size ≤ maxLen := by
  obtain ⟨y0, y1, n, _, _, h0, h1⟩ := trod_two Try.underlying26 h
  match cs, hl with
  | [c0, c1], _ =>
    simp only [Try.cells3, Try.cells9, List.drop, List.take] at h0 h1
    obtain ⟨s, e0, _, hs⟩ := DataW.trod_string Try.underlying9 h0
    obtain ⟨b, e1, _, _⟩ := DataW.trod_int Try.underlying3 h1
    simp only [List.cons.injEq, and_true] at e0 e1
    exact ⟨(s, b), by rw [e0, e1], hs⟩
set_option maxRecDepth 100000 in
/-- The four cells of a pair. -/
theorem open_pr4 {H : Type} {enc : TypeId × Value → H} {W : World} {base : Nat} {sp : Nat → Bool} {held : Bool} {fuel : Nat} {cs : List Value} {x : DataW H × List MemPlace}
    (h : DataW.trod enc Try.prog W base sp held fuel 52 cs = some x) (hl : cs.length = 4) :
    ∃ y : ByteArray × Int × Int × ByteArray, cs = [.string y.1, .int .i64 y.2.1, .int .i64 y.2.2.1, .string y.2.2.2] ∧ y.1.size ≤ maxLen := by
  obtain ⟨y0, y1, n, _, _, h0, h1⟩ := trod_two Try.underlying52 h
  match cs, hl with
  | [c0, c1, c2, c3], _ =>
    simp only [Try.cells45, Try.cells9, List.drop, List.take] at h0 h1
    obtain ⟨z0, z1, z2, m, _, _, g0, g1, g2⟩ := Go.Deep.trod_struct3 Try.underlying45 h1
    simp only [Try.cells3, Try.cells9, List.drop, List.take] at g0 g1 g2
    obtain ⟨s, e0, _, hs⟩ := DataW.trod_string Try.underlying9 h0
    obtain ⟨a, e1, _, _⟩ := DataW.trod_int Try.underlying3 g0
    obtain ⟨b, e2, _, _⟩ := DataW.trod_int Try.underlying3 g1
    obtain ⟨t, e3, _, _⟩ := DataW.trod_string Try.underlying9 g2
    simp only [List.cons.injEq, and_true] at e0 e1 e2 e3
    exact ⟨(s, a, b, t), by rw [e0, e1, e2, e3], hs⟩
theorem cell_spot {w : World} {a : Addr} {v : Value} (h : w.cell? a = some v) : a.spot = none ∧ a.block < w.heap.size := by
  unfold World.cell? at h
  split at h
  · next hc =>
    refine ⟨?_, (Array.getElem?_eq_some_iff.1 hc).1⟩
    split at h
    · cases h
    · next hs => simpa using hs
  · cases h
theorem add_free (b o k : Nat) : (⟨b, o, none⟩ : Addr).add k = ⟨b, o + k, none⟩ := by
  unfold Addr.add
  split <;> simp_all

set_option maxRecDepth 100000 in
/-- A list of attributes among the arguments. -/
theorem open_ats {H : Type} {enc : TypeId × Value → H} {W : World} {r : Reach} {b0 base : Nat} {sp : Nat → Bool} {held : Bool} {v : Value} {d : DataW H} {q : List MemPlace}
    (hv : Value.okWide Try.prog W r b0 22 v) (h : DataW.Trod enc Try.prog W base sp held 22 v d q) :
    ∃ p cap l, v = .slice p l.length cap ∧ AtsOf W p l ∧ (p = none → l.length = 0 ∧ cap = 0) ∧ (∀ x ∈ l, x.1.size ≤ maxLen) ∧ (l = [] ∨ ∃ D E, d = .slice D E ∧ D.length = l.length) := by
  obtain ⟨a, len, cap, rfl⟩ := okWide_slice Try.underlying22 hv
  obtain ⟨fuel, hf⟩ := h
  rcases Go.Deep.open_slice Try.underlying22 hf with ⟨h1, _⟩ | ⟨a', len', cap', m, n, D, Pl, h1, _, hlc, _, hm, hx, hel⟩
  · simp only [Value.cells, List.cons.injEq, Value.slice.injEq, and_true] at h1
    obtain ⟨rfl, rfl, rfl⟩ := h1
    exact ⟨none, 0, [], rfl, AtsOf.nil _ _, fun _ => ⟨rfl, rfl⟩, fun x hx => by simp at hx, Or.inl rfl⟩
  · simp only [Value.cells, List.cons.injEq, Value.slice.injEq, and_true] at h1
    obtain ⟨rfl, rfl, rfl⟩ := h1
    by_cases h0 : len = 0
    · subst h0
      exact ⟨some a', cap, [], rfl, AtsOf.nil _ _, (fun h => by cases h), fun x hx => by simp at hx, Or.inl rfl⟩
    have hmm : len ≤ m := by rw [hm]; split <;> omega
    rw [Try.cells26] at hel
    have hth : ∀ i, i < m → ∃ y : ByteArray × Int, (W.cell? ((a'.add (i * 2)).add 0) = some (.string y.1) ∧ W.cell? ((a'.add (i * 2)).add 1) = some (.int .i64 y.2)) ∧ y.1.size ≤ maxLen := fun i hi => by
      obtain ⟨cs', hc, ht⟩ := hel i hi
      obtain ⟨_, hl, hcell⟩ := World.cells?_some hc
      obtain ⟨y, rfl, hs⟩ := open_at2 ht hl
      exact ⟨y, ⟨hcell 0 (by omega), hcell 1 (by omega)⟩, hs⟩
    obtain ⟨f, hf⟩ := Go.Deep.choose_lt hth
    obtain ⟨⟨hc0, _⟩, _⟩ := hf 0 (by omega)
    have e0 : (a'.add (0 * 2)).add 0 = a' := by simp [Addr.add]
    rw [e0] at hc0
    obtain ⟨hs, hb⟩ := cell_spot hc0
    obtain ⟨b, off, spot⟩ := a'
    simp only at hs hb
    subst hs
    have hd : d = .slice ((List.range len).map D) ((List.range (m - len)).map fun j => D (len + j)) := congrArg Prod.fst hx
    refine ⟨some ⟨b, off, none⟩, cap, (List.range len).map f, by simp, fun _ => ⟨b, off, rfl, hb, fun j x hj => ?_⟩, (fun h => by cases h), fun x hx => ?_, Or.inr ⟨_, _, hd, by simp⟩⟩
    · obtain ⟨hjl, rfl⟩ := range_at hj
      obtain ⟨hcs, _⟩ := hf j (by omega)
      simp only [add_free] at hcs
      exact hcs
    · simp only [List.mem_map, List.mem_range] at hx
      obtain ⟨i, hi, rfl⟩ := hx
      exact (hf i (by omega)).2
set_option maxRecDepth 100000 in
/-- A list of pairs among the arguments. -/
theorem open_prs {H : Type} {enc : TypeId × Value → H} {W : World} {r : Reach} {b0 base : Nat} {sp : Nat → Bool} {held : Bool} {v : Value} {d : DataW H} {q : List MemPlace}
    (hv : Value.okWide Try.prog W r b0 23 v) (h : DataW.Trod enc Try.prog W base sp held 23 v d q) :
    ∃ p cap l, v = .slice p l.length cap ∧ PrsOf W p l ∧ (p = none → l.length = 0 ∧ cap = 0) ∧ (∀ x ∈ l, x.1.size ≤ maxLen) ∧ (l = [] ∨ ∃ D E, d = .slice D E ∧ D.length = l.length) := by
  obtain ⟨a, len, cap, rfl⟩ := okWide_slice Try.underlying23 hv
  obtain ⟨fuel, hf⟩ := h
  rcases Go.Deep.open_slice Try.underlying23 hf with ⟨h1, _⟩ | ⟨a', len', cap', m, n, D, Pl, h1, _, hlc, _, hm, hx, hel⟩
  · simp only [Value.cells, List.cons.injEq, Value.slice.injEq, and_true] at h1
    obtain ⟨rfl, rfl, rfl⟩ := h1
    exact ⟨none, 0, [], rfl, PrsOf.nil _ _, fun _ => ⟨rfl, rfl⟩, fun x hx => by simp at hx, Or.inl rfl⟩
  · simp only [Value.cells, List.cons.injEq, Value.slice.injEq, and_true] at h1
    obtain ⟨rfl, rfl, rfl⟩ := h1
    by_cases h0 : len = 0
    · subst h0
      exact ⟨some a', cap, [], rfl, PrsOf.nil _ _, (fun h => by cases h), fun x hx => by simp at hx, Or.inl rfl⟩
    have hmm : len ≤ m := by rw [hm]; split <;> omega
    rw [Try.cells52] at hel
    have hth : ∀ i, i < m → ∃ y : ByteArray × Int × Int × ByteArray, (W.cell? ((a'.add (i * 4)).add 0) = some (.string y.1) ∧ W.cell? ((a'.add (i * 4)).add 1) = some (.int .i64 y.2.1) ∧ W.cell? ((a'.add (i * 4)).add 2) = some (.int .i64 y.2.2.1) ∧ W.cell? ((a'.add (i * 4)).add 3) = some (.string y.2.2.2)) ∧ y.1.size ≤ maxLen := fun i hi => by
      obtain ⟨cs', hc, ht⟩ := hel i hi
      obtain ⟨_, hl, hcell⟩ := World.cells?_some hc
      obtain ⟨y, rfl, hs⟩ := open_pr4 ht hl
      exact ⟨y, ⟨hcell 0 (by omega), hcell 1 (by omega), hcell 2 (by omega), hcell 3 (by omega)⟩, hs⟩
    obtain ⟨f, hf⟩ := Go.Deep.choose_lt hth
    obtain ⟨⟨hc0, _⟩, _⟩ := hf 0 (by omega)
    have e0 : (a'.add (0 * 4)).add 0 = a' := by simp [Addr.add]
    rw [e0] at hc0
    obtain ⟨hs, hb⟩ := cell_spot hc0
    obtain ⟨b, off, spot⟩ := a'
    simp only at hs hb
    subst hs
    have hd : d = .slice ((List.range len).map D) ((List.range (m - len)).map fun j => D (len + j)) := congrArg Prod.fst hx
    refine ⟨some ⟨b, off, none⟩, cap, (List.range len).map f, by simp, fun _ => ⟨b, off, rfl, hb, fun j x hj => ?_⟩, (fun h => by cases h), fun x hx => ?_, Or.inr ⟨_, _, hd, by simp⟩⟩
    · obtain ⟨hjl, rfl⟩ := range_at hj
      obtain ⟨hcs, _⟩ := hf j (by omega)
      simp only [add_free] at hcs
      exact hcs
    · simp only [List.mem_map, List.mem_range] at hx
      obtain ⟨i, hi, rfl⟩ := hx
      exact (hf i (by omega)).2
end Go.Proofs.Ytojeihchkdkkgab
