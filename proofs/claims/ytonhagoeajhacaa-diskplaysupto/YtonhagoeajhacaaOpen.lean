/- How bytes, lists of bytes, changes and lists of changes among the arguments are opened. -/
import Derived.Test.YtonhagoeajhacaaJk
import Derived.Test.YtonhagoeajhacaaChecked
import Derived.ProofKit
import Derived.LaidMore
import Derived.OpenShut
import Derived.Stop.Joined
import Derived.Stop.LaidErr
import Derived.Deep.Slices
import Derived.Deep.Strs
import Derived.Deep.DeepHandedRow
import Derived.Deep.DeepWitnessRowRef
import Derived.SizedLaws
import Derived.Lib.SmallJoins
namespace Go.Proofs.Ytonhagoeajhacaa
open Go.ChangeShapes Go.WideShapes Go.ChangeAt Go.RowKit Go.Joins

theorem Try.laidOut : laidOutB Try.prog = true := by kernel_rfl
theorem Try.own : ownKnob Try.prog.godebug = none := by kernel_rfl
theorem Try.cells3 : Try.prog.cellsOf 3 = 1 := by kernel_rfl
theorem Try.cells5 : Try.prog.cellsOf 5 = 1 := by kernel_rfl
theorem Try.cells9 : Try.prog.cellsOf 9 = 1 := by kernel_rfl
theorem Try.bytes5 : Try.prog.bytesOf 5 = 1 := by kernel_rfl
theorem Try.bytes3 : Try.prog.bytesOf 3 = 8 := by kernel_rfl
theorem cell_spot {w : World} {a : Addr} {v : Value} (h : w.cell? a = some v) : a.spot = Option.none ∧ a.block < w.heap.size := by
  unfold World.cell? at h
  split at h
  · next hc =>
    refine ⟨?_, (Array.getElem?_eq_some_iff.1 hc).1⟩
    split at h
    · cases h
    · next hs => simpa using hs
  · cases h
theorem range_at {α : Type} {f : Nat → α} {n j : Nat} {x : α} (h : ((List.range n).map f)[j]? = some x) : j < n ∧ x = f j := by
  obtain ⟨hj, e⟩ := List.getElem?_eq_some_iff.1 h
  simp at hj e
  exact ⟨hj, e.symm⟩
/-- The cells of a row, one by one. -/
theorem flat_get {α : Type} [Inhabited α] {enc : α → List Value} {k : Nat} (hk : 0 < k) {l : List α} {j : Nat} {u : Value} (h : (Sort.flatK enc k l.toArray).toList[j]? = some u) : ∃ x, l[j / k]? = some x ∧ u = (enc x)[j % k]! := by
  have hs := (List.getElem?_eq_some_iff.1 h).1
  have hlt : j < l.length * k := by simpa using hs
  have hq : j / k < l.length := (Nat.div_lt_iff_lt_mul hk).2 hlt
  obtain ⟨x, hx, _⟩ := get_at hq
  have h2 := flat_at (enc := enc) (k := k) hx (j % k) (Nat.mod_lt _ hk)
  rw [show j / k * k + j % k = j from by rw [Nat.mul_comm]; exact Nat.div_add_mod j k, h] at h2
  exact ⟨x, hx, Option.some.inj h2⟩
set_option maxRecDepth 100000 in
/-- A list among the arguments. -/
theorem open_sl {α : Type} [Inhabited α] {enc' : α → List Value} {k : Nat} {t e : TypeId} (ht : Try.prog.underlying t = some (.slice e)) (hc : Try.prog.cellsOf e = k) (hk : 0 < k) {H : Type} {enc : TypeId × Value → H} {W : World} {base : Nat} {sp : Nat → Bool} {held : Bool}
    (hdec : ∀ (fuel : Nat) (cs : List Value) (x : DataW H × List MemPlace), DataW.trod enc Try.prog W base sp held fuel e cs = some x → cs.length = k → ∃ y : α, ∀ c, c < k → cs[c]? = some ((enc' y)[c]!))
    {fuel : Nat} {v : Value} {x : DataW H × List MemPlace} (h : DataW.trod enc Try.prog W base sp held fuel t [v] = some x) :
    ∃ (q : Option Addr) (c : Nat) (l : List α), v = .slice q l.length c ∧ SlOf enc' k W q c l ∧ (l = [] ∨ ∃ D E, x.1 = .slice D E ∧ D.length = l.length) := by
  rcases Go.Deep.open_slice ht h with ⟨h1, _⟩ | ⟨a', len, cap, m, n, D, Pl, h1, _, hlc, hcm, hm, hx, hel⟩
  · simp only [List.cons.injEq, and_true] at h1
    exact ⟨Option.none, 0, [], h1, SlOf.none _, Or.inl rfl⟩
  · simp only [List.cons.injEq, and_true] at h1
    by_cases h0 : len = 0
    · subst h0
      exact ⟨some a', cap, [], h1, ⟨(fun h => by cases h), Nat.zero_le _, hcm, LsOf.nil _ _⟩, Or.inl rfl⟩
    have hmm : len ≤ m := by rw [hm]; split <;> omega
    rw [hc] at hel
    have hth : ∀ i, i < m → ∃ y : α, ∀ c, c < k → W.cell? ((a'.add (i * k)).add c) = some ((enc' y)[c]!) := fun i hi => by
      obtain ⟨cs', hcs, htr⟩ := hel i hi
      obtain ⟨_, hl, hcell⟩ := World.cells?_some hcs
      obtain ⟨y, hy⟩ := hdec _ _ _ htr hl
      exact ⟨y, fun c hc' => by
        rw [hcell c (by omega)]; exact hy c hc'⟩
    obtain ⟨f, hf⟩ := Go.Deep.choose_lt hth
    have hc0 := hf 0 (by omega) 0 hk
    have e0 : (a'.add (0 * k)).add 0 = a' := by simp [Addr.add]
    rw [e0] at hc0
    obtain ⟨hs, hb⟩ := cell_spot hc0
    obtain ⟨b, off, spot⟩ := a'
    simp only at hs hb
    subst hs
    have hd : x.1 = .slice ((List.range len).map D) ((List.range (m - len)).map fun j => D (len + j)) := congrArg Prod.fst hx
    refine ⟨some ⟨b, off, Option.none⟩, cap, (List.range len).map f, by simpa using h1, ⟨(fun h => by cases h), by simpa using hlc, hcm, fun _ => ⟨b, off, rfl, hb, fun j u hj => ?_⟩⟩, Or.inr ⟨_, _, hd, by simp⟩⟩
    obtain ⟨y, hy, rfl⟩ := flat_get hk hj
    obtain ⟨hjl, rfl⟩ := range_at hy
    have h7 := hf (j / k) (by omega) (j % k) (Nat.mod_lt _ hk)
    simp only [add_plain] at h7
    rw [Nat.add_assoc, show j / k * k + j % k = j from by rw [Nat.mul_comm]; exact Nat.div_add_mod j k] at h7
    exact h7
theorem toNat_of (n : Nat) : (UInt8.ofNat n).toNat = n % 256 := by simp [UInt8.toNat_ofNat']
theorem u8_of {n : Int} (h : (Lit.int .u8 n).wf = true) : ((UInt8.ofNat n.toNat).toNat : Int) = n := by
  simp [Lit.wf, IntKind.min, IntKind.max, IntKind.signed, IntKind.bits] at h
  rw [toNat_of]; omega
theorem dec_byte {H : Type} {enc : TypeId × Value → H} {W : World} {base : Nat} {sp : Nat → Bool} {held : Bool} (fuel : Nat) (cs : List Value) (x : DataW H × List MemPlace) (h : DataW.trod enc Try.prog W base sp held fuel 5 cs = some x) (_ : cs.length = 1) : ∃ y : UInt8, ∀ c, c < 1 → cs[c]? = some ((encB y)[c]!) := by
  obtain ⟨a, e0, _, hw⟩ := DataW.trod_int Try.underlying5 h
  refine ⟨UInt8.ofNat a.toNat, fun c hc => ?_⟩
  have h0 : c = 0 := (by omega)
  have h1 := u8_of hw
  rw [h0, e0]
  show some (Value.int .u8 a) = some (Value.int .u8 ((UInt8.ofNat a.toNat).toNat : Int))
  rw [h1]
theorem dec_int {H : Type} {enc : TypeId × Value → H} {W : World} {base : Nat} {sp : Nat → Bool} {held : Bool} (fuel : Nat) (cs : List Value) (x : DataW H × List MemPlace) (h : DataW.trod enc Try.prog W base sp held fuel 3 cs = some x) (_ : cs.length = 1) : ∃ y : Int, ∀ c, c < 1 → cs[c]? = some ((encI y)[c]!) := by
  obtain ⟨a, e0, _, hw⟩ := DataW.trod_int Try.underlying3 h
  refine ⟨a, fun c hc => ?_⟩
  have h0 : c = 0 := (by omega)
  rw [h0, e0]
  rfl
theorem bulk_one {H : Type} (d : DataW H) : 1 ≤ Rows.uptoBulk d := by
  cases d <;> first | (rename_i b; cases b <;> simp only [Rows.uptoBulk] <;> omega) | (simp only [Rows.uptoBulk]; omega)
theorem bulk_len {H : Type} (l : List (DataW H)) : l.length ≤ Rows.uptoBulkAll l := by
  induction l with
  | nil => simp
  | cons x r ih => have := bulk_one x; simp only [Rows.uptoBulkAll, List.length_cons]; omega
end Go.Proofs.Ytonhagoeajhacaa
