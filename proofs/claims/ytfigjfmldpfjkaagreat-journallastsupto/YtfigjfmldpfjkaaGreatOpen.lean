/- How bytes, lists of bytes, changes and lists of changes among the arguments are opened. -/
import Derived.Test.YtfigjfmldpfjkaaGreatBackP
import Derived.Test.YtfigjfmldpfjkaaGreatChecked
import Derived.ProofKit
import Derived.LaidMore
import Derived.OpenShut
import Derived.Stop.Joined
import Derived.Stop.LaidErr
import Derived.Deep.Slices
import Derived.Deep.Strs
import Derived.Deep.DeepHandedRow
import Derived.Deep.DeepWitnessRowRef
import Derived.SizedLaws
import Derived.Lib.SmallJoins
namespace Go.Proofs.YtfigjfmldpfjkaaGreat
open Go.ChangeShapes Go.WideShapes Go.ChangeAt Go.RowKit Go.Joins

theorem Tryz.laidOut : laidOutB Tryz.prog = true := by kernel_rfl
theorem Tryz.own : ownKnob Tryz.prog.godebug = none := by kernel_rfl
theorem Tryz.cells3 : Tryz.prog.cellsOf 3 = 1 := by kernel_rfl
theorem Tryz.cells5 : Tryz.prog.cellsOf 5 = 1 := by kernel_rfl
theorem Tryz.cells9 : Tryz.prog.cellsOf 9 = 1 := by kernel_rfl
theorem Tryz.cells63 : Tryz.prog.cellsOf 63 = 3 := by kernel_rfl
theorem Tryz.bytes5 : Tryz.prog.bytesOf 5 = 1 := by kernel_rfl
theorem Tryz.bytes32 : Tryz.prog.bytesOf 63 = 32 := by kernel_rfl
theorem cell_spot {w : World} {a : Addr} {v : Value} (h : w.cell? a = some v) : a.spot = Option.none ∧ a.block < w.heap.size := by
  unfold World.cell? at h
  split at h
  · next hc =>
    refine ⟨?_, (Array.getElem?_eq_some_iff.1 hc).1⟩
    split at h
    · cases h
    · next hs => simpa using hs
  · cases h
theorem range_at {α : Type} {f : Nat → α} {n j : Nat} {x : α} (h : ((List.range n).map f)[j]? = some x) : j < n ∧ x = f j := by
  obtain ⟨hj, e⟩ := List.getElem?_eq_some_iff.1 h
  simp at hj e
  exact ⟨hj, e.symm⟩
/-- The cells of a row, one by one. -/
theorem flat_get {α : Type} [Inhabited α] {enc : α → List Value} {k : Nat} (hk : 0 < k) {l : List α} {j : Nat} {u : Value} (h : (Sort.flatK enc k l.toArray).toList[j]? = some u) : ∃ x, l[j / k]? = some x ∧ u = (enc x)[j % k]! := by
  have hs := (List.getElem?_eq_some_iff.1 h).1
  have hlt : j < l.length * k := by simpa using hs
  have hq : j / k < l.length := (Nat.div_lt_iff_lt_mul hk).2 hlt
  obtain ⟨x, hx, _⟩ := get_at hq
  have h2 := flat_at (enc := enc) (k := k) hx (j % k) (Nat.mod_lt _ hk)
  rw [show j / k * k + j % k = j from by rw [Nat.mul_comm]; exact Nat.div_add_mod j k, h] at h2
  exact ⟨x, hx, Option.some.inj h2⟩
set_option maxRecDepth 100000 in
/-- A list among the arguments. -/
theorem open_sl {α : Type} [Inhabited α] {enc' : α → List Value} {k : Nat} {t e : TypeId} (ht : Tryz.prog.underlying t = some (.slice e)) (hc : Tryz.prog.cellsOf e = k) (hk : 0 < k) {H : Type} {enc : TypeId × Value → H} {W : World} {base : Nat} {sp : Nat → Bool} {held : Bool}
    (hdec : ∀ (fuel : Nat) (cs : List Value) (x : DataW H × List MemPlace), DataW.trod enc Tryz.prog W base sp held fuel e cs = some x → cs.length = k → ∃ y : α, ∀ c, c < k → cs[c]? = some ((enc' y)[c]!))
    {fuel : Nat} {v : Value} {x : DataW H × List MemPlace} (h : DataW.trod enc Tryz.prog W base sp held fuel t [v] = some x) :
    ∃ (q : Option Addr) (c : Nat) (l : List α), v = .slice q l.length c ∧ SlOf enc' k W q c l ∧ (l = [] ∨ ∃ D E, x.1 = .slice D E ∧ D.length = l.length) := by
  rcases Go.Deep.open_slice ht h with ⟨h1, _⟩ | ⟨a', len, cap, m, n, D, Pl, h1, _, hlc, hcm, hm, hx, hel⟩
  · simp only [List.cons.injEq, and_true] at h1
    exact ⟨Option.none, 0, [], h1, SlOf.none _, Or.inl rfl⟩
  · simp only [List.cons.injEq, and_true] at h1
    by_cases h0 : len = 0
    · subst h0
      exact ⟨some a', cap, [], h1, ⟨(fun h => by cases h), Nat.zero_le _, hcm, LsOf.nil _ _⟩, Or.inl rfl⟩
    have hmm : len ≤ m := by rw [hm]; split <;> omega
    rw [hc] at hel
    have hth : ∀ i, i < m → ∃ y : α, ∀ c, c < k → W.cell? ((a'.add (i * k)).add c) = some ((enc' y)[c]!) := fun i hi => by
      obtain ⟨cs', hcs, htr⟩ := hel i hi
      obtain ⟨_, hl, hcell⟩ := World.cells?_some hcs
      obtain ⟨y, hy⟩ := hdec _ _ _ htr hl
      exact ⟨y, fun c hc' => by
        rw [hcell c (by omega)]; exact hy c hc'⟩
    obtain ⟨f, hf⟩ := Go.Deep.choose_lt hth
    have hc0 := hf 0 (by omega) 0 hk
    have e0 : (a'.add (0 * k)).add 0 = a' := by simp [Addr.add]
    rw [e0] at hc0
    obtain ⟨hs, hb⟩ := cell_spot hc0
    obtain ⟨b, off, spot⟩ := a'
    simp only at hs hb
    subst hs
    have hd : x.1 = .slice ((List.range len).map D) ((List.range (m - len)).map fun j => D (len + j)) := congrArg Prod.fst hx
    refine ⟨some ⟨b, off, Option.none⟩, cap, (List.range len).map f, by simpa using h1, ⟨(fun h => by cases h), by simpa using hlc, hcm, fun _ => ⟨b, off, rfl, hb, fun j u hj => ?_⟩⟩, Or.inr ⟨_, _, hd, by simp⟩⟩
    obtain ⟨y, hy, rfl⟩ := flat_get hk hj
    obtain ⟨hjl, rfl⟩ := range_at hy
    have h7 := hf (j / k) (by omega) (j % k) (Nat.mod_lt _ hk)
    simp only [add_plain] at h7
    rw [Nat.add_assoc, show j / k * k + j % k = j from by rw [Nat.mul_comm]; exact Nat.div_add_mod j k] at h7
    exact h7
theorem u8_of {n : Int} (h : (Lit.int .u8 n).wf = true) : ((UInt8.ofNat n.toNat).toNat : Int) = n := by
  simp [Lit.wf, IntKind.min, IntKind.max, IntKind.signed, IntKind.bits] at h
  rw [toNat_of]; omega
theorem dec_byte {H : Type} {enc : TypeId × Value → H} {W : World} {base : Nat} {sp : Nat → Bool} {held : Bool} (fuel : Nat) (cs : List Value) (x : DataW H × List MemPlace) (h : DataW.trod enc Tryz.prog W base sp held fuel 5 cs = some x) (_ : cs.length = 1) : ∃ y : UInt8, ∀ c, c < 1 → cs[c]? = some ((encB y)[c]!) := by
  obtain ⟨a, e0, _, hw⟩ := DataW.trod_int Tryz.underlying5 h
  refine ⟨UInt8.ofNat a.toNat, fun c hc => ?_⟩
  have h0 : c = 0 := (by omega)
  have h1 := u8_of hw
  rw [h0, e0]
  show some (Value.int .u8 a) = some (Value.int .u8 ((UInt8.ofNat a.toNat).toNat : Int))
  rw [h1]
theorem trod_three {H : Type} {enc : TypeId × Value → H} {P : Program} {w : World} {base : Nat} {spare : Nat → Bool} {held : Bool} {t : TypeId} {f0 f1 f2 : Field} {fuel : Nat} {cs : List Value} {x : DataW H × List MemPlace} (ht : P.underlying t = some (.struct #[f0, f1, f2])) (h : DataW.trod enc P w base spare held fuel t cs = some x) :
    ∃ y0 y1 y2 n, x.1 = .agg [y0.1, y1.1, y2.1] ∧ DataW.trod enc P w base spare held n f0.type ((cs.drop f0.offset).take (P.cellsOf f0.type)) = some y0 ∧ DataW.trod enc P w base spare held n f1.type ((cs.drop f1.offset).take (P.cellsOf f1.type)) = some y1 ∧ DataW.trod enc P w base spare held n f2.type ((cs.drop f2.offset).take (P.cellsOf f2.type)) = some y2 := by
  obtain ⟨xs, n, hn, rfl, hl, hlen, hf⟩ := DataW.trod_struct ht h
  match xs, hlen with
  | [y0, y1, y2], _ => exact ⟨y0, y1, y2, n, by simp, by simpa using hf 0 f0 rfl, by simpa using hf 1 f1 rfl, by simpa using hf 2 f2 rfl⟩
set_option maxRecDepth 100000 in
/-- A change among the arguments. -/
theorem open_ch {H : Type} {enc : TypeId × Value → H} {W : World} {base : Nat} {sp : Nat → Bool} {held : Bool} {fuel : Nat} {cs : List Value} {x : DataW H × List MemPlace} (h : DataW.trod enc Tryz.prog W base sp held fuel 63 cs = some x) (hl : cs.length = 3) :
    ∃ y : Ch, cs = [.int .i64 y.kind, .int .i64 y.id, .string y.text] := by
  obtain ⟨y0, y1, y2, n, _, h0, h1, h2⟩ := trod_three Tryz.underlying63 h
  match cs, hl with
  | [c0, c1, c2], _ =>
    simp only [Tryz.cells3, Tryz.cells9, List.drop, List.take] at h0 h1 h2
    obtain ⟨K, e0, _, _⟩ := DataW.trod_int Tryz.underlying3 h0
    obtain ⟨I, e1, _, _⟩ := DataW.trod_int Tryz.underlying3 h1
    obtain ⟨T, e2, _⟩ := DataW.trod_string Tryz.underlying9 h2
    simp only [List.cons.injEq, and_true] at e0 e1 e2
    exact ⟨⟨K, I, T⟩, by rw [e0, e1, e2]⟩
theorem dec_ch {H : Type} {enc : TypeId × Value → H} {W : World} {base : Nat} {sp : Nat → Bool} {held : Bool} (fuel : Nat) (cs : List Value) (x : DataW H × List MemPlace) (h : DataW.trod enc Tryz.prog W base sp held fuel 63 cs = some x) (hl : cs.length = 3) : ∃ y : Ch, ∀ c, c < 3 → cs[c]? = some ((encC y)[c]!) := by
  obtain ⟨y, rfl⟩ := open_ch h hl
  refine ⟨y, fun c hc => ?_⟩
  have hm : c = 0 ∨ c = 1 ∨ c = 2 := by omega
  rcases hm with e | e | e <;> rw [e] <;> rfl
theorem bulk_one {H : Type} (d : DataW H) : 1 ≤ Rows.uptoBulk d := by
  cases d <;> first | (rename_i b; cases b <;> simp only [Rows.uptoBulk] <;> omega) | (simp only [Rows.uptoBulk]; omega)
theorem bulk_len {H : Type} (l : List (DataW H)) : l.length ≤ Rows.uptoBulkAll l := by
  induction l with
  | nil => simp
  | cons x r ih => have := bulk_one x; simp only [Rows.uptoBulkAll, List.length_cons]; omega
end Go.Proofs.YtfigjfmldpfjkaaGreat
