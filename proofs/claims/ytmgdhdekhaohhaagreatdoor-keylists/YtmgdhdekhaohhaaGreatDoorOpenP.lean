/- How lists of keys among the arguments are opened, their texts' sizes told. -/
import Derived.Test.YtmgdhdekhaohhaaGreatDoorOpen
namespace Go.Proofs.YtmgdhdekhaohhaaGreatDoor
open Go.ChangeShapes Go.WideShapes Go.ChangeAt Go.RowKit Go.Joins

set_option maxRecDepth 100000 in
/-- A list among the arguments. -/
theorem open_slP {α : Type} [Inhabited α] {enc' : α → List Value} {k : Nat} {t e : TypeId} (ht : Tryz.prog.underlying t = some (.slice e)) (hc : Tryz.prog.cellsOf e = k) (hk : 0 < k) {H : Type} {enc : TypeId × Value → H} {W : World} {base : Nat} {sp : Nat → Bool} {held : Bool}
    {Pr : α → Prop} (hdec : ∀ (fuel : Nat) (cs : List Value) (x : DataW H × List MemPlace), DataW.trod enc Tryz.prog W base sp held fuel e cs = some x → cs.length = k → ∃ y : α, Pr y ∧ ∀ c, c < k → cs[c]? = some ((enc' y)[c]!))
    {fuel : Nat} {v : Value} {x : DataW H × List MemPlace} (h : DataW.trod enc Tryz.prog W base sp held fuel t [v] = some x) :
    ∃ (q : Option Addr) (c : Nat) (l : List α), v = .slice q l.length c ∧ SlOf enc' k W q c l ∧ (∀ y ∈ l, Pr y) ∧ (l = [] ∨ ∃ D E, x.1 = .slice D E ∧ D.length = l.length) := by
  rcases Go.Deep.open_slice ht h with ⟨h1, _⟩ | ⟨a', len, cap, m, n, D, Pl, h1, _, hlc, hcm, hm, hx, hel⟩
  · simp only [List.cons.injEq, and_true] at h1
    exact ⟨Option.none, 0, [], h1, SlOf.none _, fun y hy => by simp at hy, Or.inl rfl⟩
  · simp only [List.cons.injEq, and_true] at h1
    by_cases h0 : len = 0
    · subst h0
      exact ⟨some a', cap, [], h1, ⟨(fun h => by cases h), Nat.zero_le _, hcm, LsOf.nil _ _⟩, fun y hy => by simp at hy, Or.inl rfl⟩
    have hmm : len ≤ m := by rw [hm]; split <;> omega
    rw [hc] at hel
    have hth : ∀ i, i < m → ∃ y : α, Pr y ∧ ∀ c, c < k → W.cell? ((a'.add (i * k)).add c) = some ((enc' y)[c]!) := fun i hi => by
      obtain ⟨cs', hcs, htr⟩ := hel i hi
      obtain ⟨_, hl, hcell⟩ := World.cells?_some hcs
      obtain ⟨y, hP, hy⟩ := hdec _ _ _ htr hl
      exact ⟨y, hP, fun c hc' => by
        rw [hcell c (by omega)]; exact hy c hc'⟩
    obtain ⟨f, hf⟩ := Go.Deep.choose_lt hth
    have hc0 := (hf 0 (by omega)).2 0 hk
    have e0 : (a'.add (0 * k)).add 0 = a' := by simp [Addr.add]
    rw [e0] at hc0
    obtain ⟨hs, hb⟩ := cell_spot hc0
    obtain ⟨b, off, spot⟩ := a'
    simp only at hs hb
    subst hs
    have hd : x.1 = .slice ((List.range len).map D) ((List.range (m - len)).map fun j => D (len + j)) := congrArg Prod.fst hx
    refine ⟨some ⟨b, off, Option.none⟩, cap, (List.range len).map f, by simpa using h1, ⟨(fun h => by cases h), by simpa using hlc, hcm, fun _ => ⟨b, off, rfl, hb, fun j u hj => ?_⟩⟩, fun y hy => ?_, Or.inr ⟨_, _, hd, by simp⟩⟩
    · obtain ⟨y, hy, rfl⟩ := flat_get hk hj
      obtain ⟨hjl, rfl⟩ := range_at hy
      have h7 := (hf (j / k) (by omega)).2 (j % k) (Nat.mod_lt _ hk)
      simp only [add_plain] at h7
      rw [Nat.add_assoc, show j / k * k + j % k = j from by rw [Nat.mul_comm]; exact Nat.div_add_mod j k] at h7
      exact h7
    · obtain ⟨i, hi, rfl⟩ := List.mem_map.1 hy
      have hi2 : i < len := List.mem_range.1 hi
      exact (hf i (by omega)).1

set_option maxRecDepth 100000 in
theorem dec_keyP {H : Type} {enc : TypeId × Value → H} {W : World} {base : Nat} {sp : Nat → Bool} {held : Bool} (fuel : Nat) (cs : List Value) (x : DataW H × List MemPlace) (h : DataW.trod enc Tryz.prog W base sp held fuel 25 cs = some x) (hl : cs.length = 5) : ∃ y : Ky, (y.attr.size ≤ maxLen ∧ y.word.size ≤ maxLen) ∧ ∀ c, c < 5 → cs[c]? = some ((encK y)[c]!) := by
  obtain ⟨y0, y1, y2, y3, y4, n, h0, h1, h2, h3, h4⟩ := trod_five Tryz.underlying25 h
  match cs, hl with
  | [c0, c1, c2, c3, c4], _ =>
    simp only [Tryz.cells3, Tryz.cells9, List.drop, List.take] at h0 h1 h2 h3 h4
    obtain ⟨A, e0, _, mA⟩ := DataW.trod_string Tryz.underlying9 h0
    obtain ⟨K, e1, _, _⟩ := DataW.trod_int Tryz.underlying3 h1
    obtain ⟨L, e2, _, _⟩ := DataW.trod_int Tryz.underlying3 h2
    obtain ⟨M, e3, _, _⟩ := DataW.trod_int Tryz.underlying3 h3
    obtain ⟨S, e4, _, mS⟩ := DataW.trod_string Tryz.underlying9 h4
    simp only [List.cons.injEq, and_true] at e0 e1 e2 e3 e4
    refine ⟨⟨A, K, L, M, S⟩, ⟨mA, mS⟩, fun c hc => ?_⟩
    have hm : c = 0 ∨ c = 1 ∨ c = 2 ∨ c = 3 ∨ c = 4 := by omega
    rcases hm with e | e | e | e | e
    · rw [e, e0]; rfl
    · rw [e, e1]; rfl
    · rw [e, e2]; rfl
    · rw [e, e3]; rfl
    · rw [e, e4]; rfl
end Go.Proofs.YtmgdhdekhaohhaaGreatDoor
