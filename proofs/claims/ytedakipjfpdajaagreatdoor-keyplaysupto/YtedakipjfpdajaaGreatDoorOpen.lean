/- How lists of keys among the arguments are opened. -/
import Derived.Test.YtedakipjfpdajaaGreatDoorZao
import Derived.Test.YtedakipjfpdajaaGreatDoorRows
import Derived.Test.YtedakipjfpdajaaGreatDoorChecked
import Derived.ProofKit
import Derived.LaidMore
import Derived.OpenShut
import Derived.Stop.Joined
import Derived.Stop.LaidErr
import Derived.Deep.Slices
import Derived.Deep.Strs
import Derived.Deep.DeepHandedRow
import Derived.Deep.DeepWitnessRowRef
import Derived.Lib.SmallJoins
import Derived.SizedLaws
import Derived.Lib.LaidTab
namespace Go.Proofs.YtedakipjfpdajaaGreatDoor
open Go.ChangeShapes Go.WideShapes Go.ChangeAt Go.RowKit Go.Joins

theorem Tryz.laidOut : laidOutB Tryz.prog = true := by kernel_rfl
theorem Tryz.own : ownKnob Tryz.prog.godebug = none := by kernel_rfl
theorem Tryz.cells3 : Tryz.prog.cellsOf 3 = 1 := by kernel_rfl
theorem Tryz.cells9 : Tryz.prog.cellsOf 9 = 1 := by kernel_rfl
theorem Tryz.cells46 : Tryz.prog.cellsOf 46 = 5 := by kernel_rfl
theorem Tryz.gTab : Tryz.prog.globalNamed "math/bits.deBruijn64tab" = some 2 := by kernel_rfl
theorem Tryz.gTabType : (Tryz.prog.globals[2]?).map (·.type) = some 158 := by kernel_rfl
theorem Tryz.cells5 : Tryz.prog.cellsOf 5 = 1 := by kernel_rfl
theorem Tryz.cells158 : Tryz.prog.cellsOf 158 = 64 := by kernel_rfl
def laidAll : List (String × DataW Unit) := [("math/bits.deBruijn32tab", Rows.laid_math_bits_deBruijn32tab), ("math/bits.deBruijn64tab", Rows.laid_math_bits_deBruijn64tab)]
theorem tab_data : (Rows.laid_math_bits_deBruijn64tab : DataW Unit) = Lib.tabData .u8 (Lib.deBruijn64tab.map Int.ofNat) := by rfl
theorem G_of_laid {W : World} (h : laidMetH Tryz.prog laidAll W) : G W := by
  rw [MakeChecks.laidMetH_plain _ _ _ (by kernel_rfl)] at h
  have h3 := h.tail
  rw [tab_data] at h3
  have ht := Lib.tabIs_of_head Tryz.gTab Tryz.gTabType Tryz.underlying158 Tryz.underlying5 Tryz.cells5 Tryz.cells158 h3
  unfold Lib.TabIs World.var? at ht
  rw [Tryz.gTab] at ht
  simp only [Option.bind_some] at ht
  split at ht
  · rename_i cs t fz hc
    have e := Option.some.inj ht
    refine ⟨fun j hj => ?_, (Array.getElem?_eq_some_iff.1 hc).1⟩
    have hcell : W.cell? ⟨2, j, none⟩ = cs[j]? := by unfold World.cell?; simp [hc]
    rw [hcell, e]
    simp [List.getD, List.getElem?_eq_getElem hj]
  · cases ht
theorem Tryz.bytes25 : Tryz.prog.bytesOf 46 = 56 := by kernel_rfl
theorem cell_spot {w : World} {a : Addr} {v : Value} (h : w.cell? a = some v) : a.spot = Option.none ∧ a.block < w.heap.size := by
  unfold World.cell? at h
  split at h
  · next hc =>
    refine ⟨?_, (Array.getElem?_eq_some_iff.1 hc).1⟩
    split at h
    · cases h
    · next hs => simpa using hs
  · cases h
theorem range_at {α : Type} {f : Nat → α} {n j : Nat} {x : α} (h : ((List.range n).map f)[j]? = some x) : j < n ∧ x = f j := by
  obtain ⟨hj, e⟩ := List.getElem?_eq_some_iff.1 h
  simp at hj e
  exact ⟨hj, e.symm⟩
/-- The cells of a row, one by one. -/
theorem flat_get {α : Type} [Inhabited α] {enc : α → List Value} {k : Nat} (hk : 0 < k) {l : List α} {j : Nat} {u : Value} (h : (Sort.flatK enc k l.toArray).toList[j]? = some u) : ∃ x, l[j / k]? = some x ∧ u = (enc x)[j % k]! := by
  have hs := (List.getElem?_eq_some_iff.1 h).1
  have hlt : j < l.length * k := by simpa using hs
  have hq : j / k < l.length := (Nat.div_lt_iff_lt_mul hk).2 hlt
  obtain ⟨x, hx, _⟩ := get_at hq
  have h2 := flat_at (enc := enc) (k := k) hx (j % k) (Nat.mod_lt _ hk)
  rw [show j / k * k + j % k = j from by rw [Nat.mul_comm]; exact Nat.div_add_mod j k, h] at h2
  exact ⟨x, hx, Option.some.inj h2⟩
set_option maxRecDepth 100000 in
/-- A list among the arguments. -/
theorem open_sl {α : Type} [Inhabited α] {enc' : α → List Value} {k : Nat} {t e : TypeId} (ht : Tryz.prog.underlying t = some (.slice e)) (hc : Tryz.prog.cellsOf e = k) (hk : 0 < k) {H : Type} {enc : TypeId × Value → H} {W : World} {base : Nat} {sp : Nat → Bool} {held : Bool}
    (hdec : ∀ (fuel : Nat) (cs : List Value) (x : DataW H × List MemPlace), DataW.trod enc Tryz.prog W base sp held fuel e cs = some x → cs.length = k → ∃ y : α, ∀ c, c < k → cs[c]? = some ((enc' y)[c]!))
    {fuel : Nat} {v : Value} {x : DataW H × List MemPlace} (h : DataW.trod enc Tryz.prog W base sp held fuel t [v] = some x) :
    ∃ (q : Option Addr) (c : Nat) (l : List α), v = .slice q l.length c ∧ SlOf enc' k W q c l ∧ (l = [] ∨ ∃ D E, x.1 = .slice D E ∧ D.length = l.length) := by
  rcases Go.Deep.open_slice ht h with ⟨h1, _⟩ | ⟨a', len, cap, m, n, D, Pl, h1, _, hlc, hcm, hm, hx, hel⟩
  · simp only [List.cons.injEq, and_true] at h1
    exact ⟨Option.none, 0, [], h1, SlOf.none _, Or.inl rfl⟩
  · simp only [List.cons.injEq, and_true] at h1
    by_cases h0 : len = 0
    · subst h0
      exact ⟨some a', cap, [], h1, ⟨(fun h => by cases h), Nat.zero_le _, hcm, LsOf.nil _ _⟩, Or.inl rfl⟩
    have hmm : len ≤ m := by rw [hm]; split <;> omega
    rw [hc] at hel
    have hth : ∀ i, i < m → ∃ y : α, ∀ c, c < k → W.cell? ((a'.add (i * k)).add c) = some ((enc' y)[c]!) := fun i hi => by
      obtain ⟨cs', hcs, htr⟩ := hel i hi
      obtain ⟨_, hl, hcell⟩ := World.cells?_some hcs
      obtain ⟨y, hy⟩ := hdec _ _ _ htr hl
      exact ⟨y, fun c hc' => by
        rw [hcell c (by omega)]; exact hy c hc'⟩
    obtain ⟨f, hf⟩ := Go.Deep.choose_lt hth
    have hc0 := hf 0 (by omega) 0 hk
    have e0 : (a'.add (0 * k)).add 0 = a' := by simp [Addr.add]
    rw [e0] at hc0
    obtain ⟨hs, hb⟩ := cell_spot hc0
    obtain ⟨b, off, spot⟩ := a'
    simp only at hs hb
    subst hs
    have hd : x.1 = .slice ((List.range len).map D) ((List.range (m - len)).map fun j => D (len + j)) := congrArg Prod.fst hx
    refine ⟨some ⟨b, off, Option.none⟩, cap, (List.range len).map f, by simpa using h1, ⟨(fun h => by cases h), by simpa using hlc, hcm, fun _ => ⟨b, off, rfl, hb, fun j u hj => ?_⟩⟩, Or.inr ⟨_, _, hd, by simp⟩⟩
    obtain ⟨y, hy, rfl⟩ := flat_get hk hj
    obtain ⟨hjl, rfl⟩ := range_at hy
    have h7 := hf (j / k) (by omega) (j % k) (Nat.mod_lt _ hk)
    simp only [add_plain] at h7
    rw [Nat.add_assoc, show j / k * k + j % k = j from by rw [Nat.mul_comm]; exact Nat.div_add_mod j k] at h7
    exact h7

theorem trod_five {H : Type} {enc : TypeId × Value → H} {P : Program} {w : World} {base : Nat} {spare : Nat → Bool} {held : Bool} {t : TypeId} {f0 f1 f2 f3 f4 : Field} {fuel : Nat} {cs : List Value} {x : DataW H × List MemPlace} (ht : P.underlying t = some (.struct #[f0, f1, f2, f3, f4])) (h : DataW.trod enc P w base spare held fuel t cs = some x) :
    ∃ y0 y1 y2 y3 y4 n, DataW.trod enc P w base spare held n f0.type ((cs.drop f0.offset).take (P.cellsOf f0.type)) = some y0 ∧ DataW.trod enc P w base spare held n f1.type ((cs.drop f1.offset).take (P.cellsOf f1.type)) = some y1 ∧ DataW.trod enc P w base spare held n f2.type ((cs.drop f2.offset).take (P.cellsOf f2.type)) = some y2 ∧ DataW.trod enc P w base spare held n f3.type ((cs.drop f3.offset).take (P.cellsOf f3.type)) = some y3 ∧ DataW.trod enc P w base spare held n f4.type ((cs.drop f4.offset).take (P.cellsOf f4.type)) = some y4 := by
  obtain ⟨xs, n, hn, rfl, hl, hlen, hf⟩ := DataW.trod_struct ht h
  match xs, hlen with
  | [y0, y1, y2, y3, y4], _ => exact ⟨y0, y1, y2, y3, y4, n, by simpa using hf 0 f0 rfl, by simpa using hf 1 f1 rfl, by simpa using hf 2 f2 rfl, by simpa using hf 3 f3 rfl, by simpa using hf 4 f4 rfl⟩
set_option maxRecDepth 100000 in
theorem dec_key {H : Type} {enc : TypeId × Value → H} {W : World} {base : Nat} {sp : Nat → Bool} {held : Bool} (fuel : Nat) (cs : List Value) (x : DataW H × List MemPlace) (h : DataW.trod enc Tryz.prog W base sp held fuel 46 cs = some x) (hl : cs.length = 5) : ∃ y : Ky, ∀ c, c < 5 → cs[c]? = some ((encK y)[c]!) := by
  obtain ⟨y0, y1, y2, y3, y4, n, h0, h1, h2, h3, h4⟩ := trod_five Tryz.underlying46 h
  match cs, hl with
  | [c0, c1, c2, c3, c4], _ =>
    simp only [Tryz.cells3, Tryz.cells9, List.drop, List.take] at h0 h1 h2 h3 h4
    obtain ⟨A, e0, _⟩ := DataW.trod_string Tryz.underlying9 h0
    obtain ⟨K, e1, _, _⟩ := DataW.trod_int Tryz.underlying3 h1
    obtain ⟨L, e2, _, _⟩ := DataW.trod_int Tryz.underlying3 h2
    obtain ⟨M, e3, _, _⟩ := DataW.trod_int Tryz.underlying3 h3
    obtain ⟨S, e4, _⟩ := DataW.trod_string Tryz.underlying9 h4
    simp only [List.cons.injEq, and_true] at e0 e1 e2 e3 e4
    refine ⟨⟨A, K, L, M, S⟩, fun c hc => ?_⟩
    have hm : c = 0 ∨ c = 1 ∨ c = 2 ∨ c = 3 ∨ c = 4 := by omega
    rcases hm with e | e | e | e | e
    · rw [e, e0]; rfl
    · rw [e, e1]; rfl
    · rw [e, e2]; rfl
    · rw [e, e3]; rfl
    · rw [e, e4]; rfl
end Go.Proofs.YtedakipjfpdajaaGreatDoor
