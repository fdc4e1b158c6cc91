/- How lists of numbers, and lists of such lists, among the arguments are opened. -/
import Derived.Test.YtfenkiplofnolaaOr1
import Derived.Test.YtfenkiplofnolaaRows
import Derived.Test.YtfenkiplofnolaaChecked
import Derived.ProofKit
import Derived.LaidMore
import Derived.OpenShut
import Derived.Stop.Joined
import Derived.Stop.LaidErr
import Derived.Deep.Slices
import Derived.Deep.Strs
import Derived.Deep.DeepHandedRow
import Derived.Deep.DeepWitnessRowRef
import Derived.Lib.SmallJoins
import Derived.SizedLaws
namespace Go.Proofs.Ytfenkiplofnolaa
open Go.ChangeShapes Go.WideShapes Go.ChangeAt Go.RowKit Go.Joins

theorem Try.laidOut : laidOutB Try.prog = true := by kernel_rfl
theorem Try.own : ownKnob Try.prog.godebug = none := by kernel_rfl
theorem Try.cells3 : Try.prog.cellsOf 3 = 1 := by kernel_rfl
theorem Try.cells30 : Try.prog.cellsOf 30 = 1 := by kernel_rfl
theorem Try.bytes3 : Try.prog.bytesOf 3 = 8 := by kernel_rfl
theorem Try.bytes30 : Try.prog.bytesOf 30 = 24 := by kernel_rfl
theorem cell_spot {w : World} {a : Addr} {v : Value} (h : w.cell? a = some v) : a.spot = Option.none ∧ a.block < w.heap.size := by
  unfold World.cell? at h
  split at h
  · next hc =>
    refine ⟨?_, (Array.getElem?_eq_some_iff.1 hc).1⟩
    split at h
    · cases h
    · next hs => simpa using hs
  · cases h
theorem range_at {α : Type} {f : Nat → α} {n j : Nat} {x : α} (h : ((List.range n).map f)[j]? = some x) : j < n ∧ x = f j := by
  obtain ⟨hj, e⟩ := List.getElem?_eq_some_iff.1 h
  simp at hj e
  exact ⟨hj, e.symm⟩
/-- The cells of a row, one by one. -/
theorem flat_get {α : Type} [Inhabited α] {enc : α → List Value} {k : Nat} (hk : 0 < k) {l : List α} {j : Nat} {u : Value} (h : (Sort.flatK enc k l.toArray).toList[j]? = some u) : ∃ x, l[j / k]? = some x ∧ u = (enc x)[j % k]! := by
  have hs := (List.getElem?_eq_some_iff.1 h).1
  have hlt : j < l.length * k := by simpa using hs
  have hq : j / k < l.length := (Nat.div_lt_iff_lt_mul hk).2 hlt
  obtain ⟨x, hx, _⟩ := get_at hq
  have h2 := flat_at (enc := enc) (k := k) hx (j % k) (Nat.mod_lt _ hk)
  rw [show j / k * k + j % k = j from by rw [Nat.mul_comm]; exact Nat.div_add_mod j k, h] at h2
  exact ⟨x, hx, Option.some.inj h2⟩
set_option maxRecDepth 100000 in
/-- A list among the arguments. -/
theorem open_sl {α : Type} [Inhabited α] {enc' : α → List Value} {k : Nat} {t e : TypeId} (ht : Try.prog.underlying t = some (.slice e)) (hc : Try.prog.cellsOf e = k) (hk : 0 < k) {H : Type} {enc : TypeId × Value → H} {W : World} {base : Nat} {sp : Nat → Bool} {held : Bool}
    (hdec : ∀ (fuel : Nat) (cs : List Value) (x : DataW H × List MemPlace), DataW.trod enc Try.prog W base sp held fuel e cs = some x → cs.length = k → ∃ y : α, ∀ c, c < k → cs[c]? = some ((enc' y)[c]!))
    {fuel : Nat} {v : Value} {x : DataW H × List MemPlace} (h : DataW.trod enc Try.prog W base sp held fuel t [v] = some x) :
    ∃ (q : Option Addr) (c : Nat) (l : List α), v = .slice q l.length c ∧ SlOf enc' k W q c l ∧ (l = [] ∨ ∃ D E, x.1 = .slice D E ∧ D.length = l.length) := by
  rcases Go.Deep.open_slice ht h with ⟨h1, _⟩ | ⟨a', len, cap, m, n, D, Pl, h1, _, hlc, hcm, hm, hx, hel⟩
  · simp only [List.cons.injEq, and_true] at h1
    exact ⟨Option.none, 0, [], h1, SlOf.none _, Or.inl rfl⟩
  · simp only [List.cons.injEq, and_true] at h1
    by_cases h0 : len = 0
    · subst h0
      exact ⟨some a', cap, [], h1, ⟨(fun h => by cases h), Nat.zero_le _, hcm, LsOf.nil _ _⟩, Or.inl rfl⟩
    have hmm : len ≤ m := by rw [hm]; split <;> omega
    rw [hc] at hel
    have hth : ∀ i, i < m → ∃ y : α, ∀ c, c < k → W.cell? ((a'.add (i * k)).add c) = some ((enc' y)[c]!) := fun i hi => by
      obtain ⟨cs', hcs, htr⟩ := hel i hi
      obtain ⟨_, hl, hcell⟩ := World.cells?_some hcs
      obtain ⟨y, hy⟩ := hdec _ _ _ htr hl
      exact ⟨y, fun c hc' => by
        rw [hcell c (by omega)]; exact hy c hc'⟩
    obtain ⟨f, hf⟩ := Go.Deep.choose_lt hth
    have hc0 := hf 0 (by omega) 0 hk
    have e0 : (a'.add (0 * k)).add 0 = a' := by simp [Addr.add]
    rw [e0] at hc0
    obtain ⟨hs, hb⟩ := cell_spot hc0
    obtain ⟨b, off, spot⟩ := a'
    simp only at hs hb
    subst hs
    have hd : x.1 = .slice ((List.range len).map D) ((List.range (m - len)).map fun j => D (len + j)) := congrArg Prod.fst hx
    refine ⟨some ⟨b, off, Option.none⟩, cap, (List.range len).map f, by simpa using h1, ⟨(fun h => by cases h), by simpa using hlc, hcm, fun _ => ⟨b, off, rfl, hb, fun j u hj => ?_⟩⟩, Or.inr ⟨_, _, hd, by simp⟩⟩
    obtain ⟨y, hy, rfl⟩ := flat_get hk hj
    obtain ⟨hjl, rfl⟩ := range_at hy
    have h7 := hf (j / k) (by omega) (j % k) (Nat.mod_lt _ hk)
    simp only [add_plain] at h7
    rw [Nat.add_assoc, show j / k * k + j % k = j from by rw [Nat.mul_comm]; exact Nat.div_add_mod j k] at h7
    exact h7
theorem dec_int {H : Type} {enc : TypeId × Value → H} {W : World} {base : Nat} {sp : Nat → Bool} {held : Bool} (fuel : Nat) (cs : List Value) (x : DataW H × List MemPlace) (h : DataW.trod enc Try.prog W base sp held fuel 3 cs = some x) (_ : cs.length = 1) : ∃ y : Int, ∀ c, c < 1 → cs[c]? = some ((encI y)[c]!) := by
  obtain ⟨a, e0, _, _⟩ := DataW.trod_int Try.underlying3 h
  exact ⟨a, fun c hc => by
    have h0 : c = 0 := (by omega)
    rw [h0, e0]; rfl⟩

theorem open_slD {α : Type} [Inhabited α] {enc' : α → List Value} {k : Nat} {t e : TypeId} (ht : Try.prog.underlying t = some (.slice e)) (hc : Try.prog.cellsOf e = k) (hk : 0 < k) {H : Type} {enc : TypeId × Value → H} {W : World} {base : Nat} {sp : Nat → Bool} {held : Bool} {fuel : Nat} {P : α → DataW H → Prop}
    (hdec : ∀ (n : Nat), n < fuel → ∀ (cs : List Value) (x : DataW H × List MemPlace), DataW.trod enc Try.prog W base sp held n e cs = some x → cs.length = k → ∃ y : α, (∀ c, c < k → cs[c]? = some ((enc' y)[c]!)) ∧ P y x.1)
    {v : Value} {x : DataW H × List MemPlace} (h : DataW.trod enc Try.prog W base sp held fuel t [v] = some x) :
    ∃ (q : Option Addr) (c : Nat) (l : List α), v = .slice q l.length c ∧ SlOf enc' k W q c l ∧ (l = [] ∨ ∃ D E, x.1 = .slice D E ∧ D.length = l.length ∧ ∀ (j : Nat) y d, l[j]? = some y → D[j]? = some d → P y d) := by
  rcases DataW.trod_slice ht h with ⟨h1, _⟩ | ⟨a', len, cap, elems, rest, n, hfu, h1, hx, hb, hlc, hcm, hlen, hel, _, _⟩
  · simp only [List.cons.injEq, and_true] at h1
    exact ⟨Option.none, 0, [], h1, SlOf.none _, Or.inl rfl⟩
  · simp only [List.cons.injEq, and_true] at h1
    by_cases h0 : len = 0
    · subst h0
      exact ⟨some a', cap, [], h1, ⟨(fun h => by cases h), Nat.zero_le _, hcm, LsOf.nil _ _⟩, Or.inl rfl⟩
    rw [hc] at hel
    have hth : ∀ i, i < len → ∃ y : α, (∀ c, c < k → W.cell? ((a'.add (i * k)).add c) = some ((enc' y)[c]!)) ∧ ∀ d, elems[i]? = some d → P y d.1 := fun i hi => by
      have h3 := hel i hi
      obtain ⟨d, hd⟩ : ∃ d, elems[i]? = some d := ⟨elems[i]'(by omega), List.getElem?_eq_getElem (by omega)⟩
      rw [hd] at h3
      obtain ⟨cs', hcs, htr⟩ := Option.bind_eq_some_iff.1 h3
      obtain ⟨_, hl, hcell⟩ := World.cells?_some hcs
      obtain ⟨y, hy, hP⟩ := hdec n (by omega) _ _ htr hl
      exact ⟨y, fun c hc' => by rw [hcell c (by omega)]; exact hy c hc', fun d' hd' => by rw [hd] at hd'; cases hd'; exact hP⟩
    obtain ⟨f, hf⟩ := Go.Deep.choose_lt hth
    have hc0 := (hf 0 (by omega)).1 0 hk
    have e0 : (a'.add (0 * k)).add 0 = a' := by simp [Addr.add]
    rw [e0] at hc0
    obtain ⟨hs, hb'⟩ := cell_spot hc0
    obtain ⟨b, off, spot⟩ := a'
    simp only at hs hb'
    subst hs
    refine ⟨some ⟨b, off, Option.none⟩, cap, (List.range len).map f, by simpa using h1, ⟨(fun h => by cases h), by simpa using hlc, hcm, fun _ => ⟨b, off, rfl, hb', fun j u hj => ?_⟩⟩, Or.inr ⟨_, _, congrArg Prod.fst hx, by simp [hlen], fun j y d hj hd => ?_⟩⟩
    · obtain ⟨y, hy, rfl⟩ := flat_get hk hj
      obtain ⟨hjl, rfl⟩ := range_at hy
      have h7 := (hf (j / k) (by omega)).1 (j % k) (Nat.mod_lt _ hk)
      simp only [add_plain] at h7
      rw [Nat.add_assoc, show j / k * k + j % k = j from by rw [Nat.mul_comm]; exact Nat.div_add_mod j k] at h7
      exact h7
    · obtain ⟨hjl, rfl⟩ := range_at hj
      rw [List.getElem?_map] at hd
      obtain ⟨d', hd', rfl⟩ := Option.map_eq_some_iff.1 hd
      exact (hf j hjl).2 d' hd'
theorem bulk_one {H : Type} (d : DataW H) : 1 ≤ Rows.uptoBulk d := by
  cases d with
  | lit l => cases l <;> simp [Rows.uptoBulk]
  | _ => simp [Rows.uptoBulk]
theorem bulk_len {H : Type} (l : List (DataW H)) : l.length ≤ Rows.uptoBulkAll l := by
  induction l with
  | nil => simp [Rows.uptoBulkAll]
  | cons x r ih => have := bulk_one x; simp only [Rows.uptoBulkAll, List.length_cons]; omega
theorem bulk_sl {H : Type} {d : DataW H} {α : Type} {l : List α} (g : l = [] ∨ ∃ D E, d = .slice D E ∧ D.length = l.length) : l.length ≤ Rows.uptoBulk d := by
  rcases g with rfl | ⟨D, E, rfl, hl⟩
  · simp
  · have := bulk_len D; simp only [Rows.uptoBulk]; omega
theorem bulk_mem {H : Type} {D : List (DataW H)} {d : DataW H} (h : d ∈ D) : Rows.uptoBulk d ≤ Rows.uptoBulkAll D := by
  induction D with
  | nil => simp at h
  | cons a D ih =>
    simp only [Rows.uptoBulkAll]
    rcases List.mem_cons.1 h with rfl | h
    · omega
    · have := ih h; omega

theorem open_hls {H : Type} {enc : TypeId × Value → H} {W : World} {base : Nat} {sp : Nat → Bool} {held : Bool} {fuel : Nat} {v : Value} {x : DataW H × List MemPlace} (h : DataW.trod enc Try.prog W base sp held fuel 46 [v] = some x) :
    ∃ q c hs, v = .slice q hs.length c ∧ HlsOf W q c hs ∧ hs.length ≤ Rows.uptoBulk x.1 ∧ (∀ y ∈ hs, y.l.length ≤ Rows.uptoBulk x.1) ∧ (hs = [] ∨ ∃ D E, x.1 = .slice D E ∧ D.length = hs.length) := by
  obtain ⟨qk, ck, hs, e2, s3, g3⟩ := open_slD (enc' := encH) (P := fun y d => SlOf encI 1 W y.q y.c y.l ∧ y.l.length ≤ Rows.uptoBulk d) Try.underlying46 Try.cells30 (by decide) (fun m hm cs x hx hl => by
    obtain ⟨u, rfl⟩ := List.length_eq_one_iff.1 hl
    obtain ⟨q, c, l, rfl, h1, h2⟩ := open_sl (enc' := encI) Try.underlying30 Try.cells3 (by decide) dec_int hx
    refine ⟨⟨q, c, l⟩, fun c' hc => ?_, h1, bulk_sl h2⟩
    obtain rfl : c' = 0 := by omega
    rfl) h
  rcases g3 with rfl | ⟨D, E, hD, hlD, hP⟩
  · exact ⟨qk, ck, [], e2, ⟨s3, fun h hh => by simp at hh⟩, by simp, fun h hh => by simp at hh, Or.inl rfl⟩
  · have hb : Rows.uptoBulkAll D ≤ Rows.uptoBulk x.1 := by rw [hD]; simp only [Rows.uptoBulk]; omega
    have hall : ∀ y ∈ hs, SlOf encI 1 W y.q y.c y.l ∧ y.l.length ≤ Rows.uptoBulk x.1 := fun y hy => by
      obtain ⟨j, hj, rfl⟩ := List.mem_iff_getElem.1 hy
      have h5 := hP j hs[j] (D[j]'(by omega)) (List.getElem?_eq_getElem hj) (List.getElem?_eq_getElem (by omega))
      have := bulk_mem (List.getElem_mem (l := D) (n := j) (by omega))
      exact ⟨h5.1, by omega⟩
    refine ⟨qk, ck, hs, e2, ⟨s3, fun y hy => (hall y hy).1⟩, ?_, fun y hy => (hall y hy).2, Or.inr ⟨D, E, hD, hlD⟩⟩
    have := bulk_len D
    omega
end Go.Proofs.Ytfenkiplofnolaa
