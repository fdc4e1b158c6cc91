/- Rows in memory: what is cut, cleared, stored. -/
import Derived.Test.YtfenkiplofnolaaBase
namespace Go.Proofs.Ytfenkiplofnolaa
open Go.RowKit Go.Sort

theorem wrap_nat (m : Nat) (h : m ≤ 4611686018427387904) : IntKind.i64.wrap (m : Int) = (m : Int) := by
  have e : (2 : Int) ^ IntKind.i64.bits = 18446744073709551616 := by decide
  have e2 : (2 : Int) ^ (IntKind.i64.bits - 1) = 9223372036854775808 := by decide
  simp [IntKind.wrap, e, e2]
  omega
theorem row_setCells {g : Nat} {e : TypeId} : ∀ (vs : List Value) (o : Nat) (w : World) (cur : Array Value), w.heap[g]? = some (.cells cur e (0, 0)) → ∃ cur' : Array Value, (w.setCells g o vs).heap[g]? = some (.cells cur' e (0, 0)) ∧ cur'.size = cur.size ∧ ∀ j, j < o → cur'[j]? = cur[j]?
  | [], _, _, cur, h => ⟨cur, h, rfl, fun _ _ => rfl⟩
  | v :: r, o, w, cur, h => by
    obtain ⟨cur', h1, h2, h3⟩ := row_setCells r (o + 1) (w.setCell ⟨g, o, none⟩ v) _ (heap_setCell_same w g o cur e v h)
    refine ⟨cur', h1, by simpa using h2, fun j hj => ?_⟩
    rw [h3 j (by omega), Array.getElem?_setIfInBounds, if_neg (by omega)]
theorem grown_cells {g : Nat} : ∀ (vs : List Value) (o : Nat) (w : World), w.grownBy (w.setCells g o vs) (some g)
  | [], _, w => ⟨rfl, rfl, rfl, Nat.le_refl _, fun _ _ _ => rfl⟩
  | v :: r, o, w => by
    have h := grown_cells (g := g) r (o + 1) (w.setCell ⟨g, o, none⟩ v)
    have h0 : Below g w (w.setCell ⟨g, o, none⟩ v) := (Below.refl g w).setCell (p := ⟨g, o, none⟩) (Nat.le_refl _) v
    refine ⟨h.os.trans h0.os, h.tape.trans h0.tape, h.output.trans h0.output, Nat.le_trans h0.size h.size, fun i hi hne => ?_⟩
    have e1 := h.block i (Nat.lt_of_lt_of_le hi h0.size) hne
    refine e1.trans ?_
    have hig : i ≠ g := fun e => hne (by rw [e])
    exact heap_setCell_other w ⟨g, o, none⟩ i v hig
section
variable {α : Type} [Inhabited α] {enc : α → List Value} {e : TypeId} {k : Nat}
theorem OwnK.some_of {B cap : Nat} {w : World} {q : Option Addr} {l : List α} (h : OwnK enc e k B w q cap l) (h0 : 0 < l.length) : ∃ g, q = some ⟨g, 0, none⟩ ∧ B ≤ g ∧ g < w.heap.size ∧ l.length ≤ cap ∧ cap ≤ maxLen := by
  rcases h.2 with ⟨h1, h2⟩ | ⟨g, cap', cur, hv, hB, hblk, hc, hm, _⟩
  · omega
  · injection hv with h1 h2 h3
    exact ⟨g, h1, hB, (Array.getElem?_eq_some_iff.1 hblk).1, by omega, by omega⟩
theorem OwnK.typ {B cap : Nat} {w : World} {p : Addr} {l : List α} (h : OwnK enc e k B w (some p) cap l) : ∃ cur, w.heap[p.block]? = some (.cells cur e (0, 0)) ∧ B ≤ p.block ∧ p.block < w.heap.size ∧ p = ⟨p.block, 0, none⟩ := by
  rcases h.2 with ⟨h1, h2⟩ | ⟨g, cap', cur, hv, hB, hblk, hc, hm, _⟩
  · injection h1 with h1; cases h1
  · injection hv with h1 h2 h3
    injection h1 with h1
    subst h1
    exact ⟨cur, hblk, hB, (Array.getElem?_eq_some_iff.1 hblk).1, rfl⟩
theorem OwnK.free {B g cap : Nat} {w : World} {d : List α} (h : OwnK enc e k B w (some ⟨g, 0, none⟩) cap d) (j : Nat) : w.frozen? ⟨g, j, none⟩ = false := World.ownsRow.frozenAt h j
/-- What lies ahead of what is cleared. -/
theorem OwnK.cut (hk0 : 0 < k) {B g cap : Nat} {w : World} {d : List α} (h : OwnK enc e k B w (some ⟨g, 0, none⟩) cap d) {n : Nat} (hk : n ≤ d.length) (vs : List Value) :
    OwnK enc e k B (w.setCells g (n * k) vs) (some ⟨g, 0, none⟩) cap (d.take n) := by
  rcases h.2 with ⟨h0, _⟩ | ⟨g', cap', cur, hv, hB, hblk, hc, hm, hs, ht⟩
  · injection h0 with h0; cases h0
  · injection hv with h1 h2 h3
    obtain rfl : g = g' := by injection h1 with h1; injection h1
    subst h3
    obtain ⟨cur', b1, b2, b3⟩ := row_setCells vs (n * k) w cur hblk
    have hl : (d.take n).length = n := by rw [List.length_take]; omega
    refine ⟨by rw [flat_len], Or.inr ⟨g, cap, cur', rfl, hB, b1, by omega, hm, by rw [b2, hs], ?_⟩⟩
    have e1 : (flatK enc k d.toArray).toList = (flatK enc k (d.take n).toArray).toList ++ (flatK enc k (d.drop n).toArray).toList := by rw [← flat_app enc k hk0, List.take_append_drop]
    have e2 : (flatK enc k (d.take n).toArray).toList = (flatK enc k d.toArray).toList.take (n * k) := by rw [e1, List.take_left' (by rw [flat_len, hl])]
    rw [e2, ← ht, hl, List.take_take, Nat.min_eq_left (Nat.mul_le_mul_right k hk)]
    apply List.ext_getElem?
    intro j
    rw [List.getElem?_take, List.getElem?_take]
    split
    · next hj => rw [Array.getElem?_toList, Array.getElem?_toList, b3 j hj]
    · rfl
/-- The row's beginning, as it is. -/
theorem OwnK.front (hk0 : 0 < k) {B g cap : Nat} {w : World} {d : List α} (h : OwnK enc e k B w (some ⟨g, 0, none⟩) cap d) {n : Nat} (hk : n ≤ d.length) : OwnK enc e k B w (some ⟨g, 0, none⟩) cap (d.take n) := OwnK.cut hk0 h hk []
theorem OwnK.cellSome {B g cap : Nat} {w : World} {d : List α} (h : OwnK enc e k B w (some ⟨g, 0, none⟩) cap d) (j : Nat) (hj : j < cap * k) : (w.cell? ⟨g, j, none⟩).isSome = true := by
  rcases h.2 with ⟨h0, _⟩ | ⟨g', cap', cur, hv, hB, hblk, hc, hm, hs, ht⟩
  · injection h0 with h0; cases h0
  · injection hv with h1 h2 h3
    obtain rfl : g = g' := by injection h1 with h1; injection h1
    subst h3
    unfold World.cell?
    simp [hblk, hs, hj]
/-- Only other blocks have turned. -/
theorem OwnK.kept {B B' : Nat} {w w' : World} {q : Option Addr} {cap : Nat} {l : List α} (h : OwnK enc e k B w q cap l) (hb : ∀ p, q = some p → w'.heap[p.block]? = w.heap[p.block]?) (hB : ∀ p, q = some p → B' ≤ p.block) : OwnK enc e k B' w' q cap l := by
  refine ⟨h.1, ?_⟩
  rcases h.2 with h0 | ⟨g, cp, cur, hv, hB0, hblk, hr⟩
  · exact Or.inl h0
  · injection hv with h1 h2 h3
    subst h1
    exact Or.inr ⟨g, cp, cur, by rw [← h3], hB _ rfl, (hb _ rfl).trans hblk, hr⟩
def cutK (k : Nat) (q : Option Addr) (cap a : Nat) : Option Addr := if cap = a then q else q.map (·.add (a * k))
theorem cutK_same (k : Nat) (q : Option Addr) (a : Nat) : cutK k q a a = q := if_pos rfl
theorem cutK_ne (k : Nat) (q : Option Addr) {cap a : Nat} (h : ¬ cap = a) : cutK k q cap a = q.map (·.add (a * k)) := if_neg h
/-- What is behind, and its beginning. -/
theorem cut_sl (hk0 : 0 < k) {w : World} {q : Option Addr} {cap : Nat} {l : List α} (h : SlOf enc k w q cap l) (a n : Nat) (han : a + n ≤ l.length) : SlOf enc k w (cutK k q cap a) (cap - a) ((l.drop a).take n) := by
  have hlen : ((l.drop a).take n).length = n := by simp; omega
  refine ⟨fun hq => ?_, by have := h.2.1; omega, by have := h.2.2.1; omega, fun hp => ?_⟩
  · have hq0 : q = none := by
      unfold cutK at hq
      split at hq
      · exact hq
      · simpa using hq
    have := h.1 hq0
    omega
  · obtain ⟨b, off, hq, hb, hA⟩ := h.2.2.2 (by omega)
    have hne : ¬ cap = a := by have := h.2.1; omega
    refine ⟨b, off + a * k, by rw [cutK_ne k q hne, hq]; exact congrArg some (add_plain b off (a * k)), hb, fun j u hj => ?_⟩
    have e1 : l = l.take a ++ ((l.drop a).take n ++ (l.drop a).drop n) := by rw [List.take_append_drop, List.take_append_drop]
    have h2 := hA (a * k + j) u (by
      rw [e1, flat_app enc k hk0, flat_app enc k hk0, List.getElem?_append_right (by rw [flat_len, List.length_take]; have : min a l.length = a := by omega
                                                                                     rw [this]; omega)]
      rw [flat_len, List.length_take, show min a l.length = a by omega, Nat.add_sub_cancel_left, List.getElem?_append_left (List.getElem?_eq_some_iff.1 hj).1]
      exact hj)
    rw [← Nat.add_assoc] at h2
    exact h2
theorem drop_sl (hk0 : 0 < k) {w : World} {q : Option Addr} {cap : Nat} {l : List α} (h : SlOf enc k w q cap l) (a : Nat) (ha : a ≤ l.length) : SlOf enc k w (cutK k q cap a) (cap - a) (l.drop a) := by
  have := cut_sl hk0 h a (l.length - a) (by omega)
  rwa [List.take_of_length_le (by simp)] at this
theorem take_sl (hk0 : 0 < k) {w : World} {q : Option Addr} {cap : Nat} {l : List α} (h : SlOf enc k w q cap l) (n : Nat) (hn : n ≤ l.length) : SlOf enc k w q cap (l.take n) := by
  refine ⟨fun hq => ?_, ?_, h.2.2.1, fun hp => ?_⟩
  · have := h.1 hq
    simp; omega
  · have := h.2.1; simp; omega
  · obtain ⟨b, off, hq, hb, hA⟩ := h.2.2.2 (by simp at hp; omega)
    refine ⟨b, off, hq, hb, fun j u hj => hA j u ?_⟩
    have e1 : l = l.take n ++ l.drop n := (List.take_append_drop n l).symm
    rw [e1, flat_app enc k hk0, List.getElem?_append_left (List.getElem?_eq_some_iff.1 hj).1]
    exact hj
end
theorem slice_lhI (q : Option Addr) (c N L G : Nat) (h1 : L ≤ G) (h2 : G ≤ c) (W : World) : (Instr.sliceAt 30 (.slice q N c) (some (.int .i64 (L : Int))) (some (.int .i64 (G : Int))) none).run Try.prog W = .ok (.slice (cutK 1 q c L) (G - L) (c - L)) W := by
  have u := Try.underlying30
  have g1 : (L : Int) ≤ (G : Int) := by omega
  have g2 : (G : Int) ≤ (c : Int) := by omega
  by_cases hc : c = L
  · subst hc
    rw [cutK_same]
    go_simp
  · rw [cutK_ne 1 q hc]
    go_simp
theorem slice_lI (q : Option Addr) (c N L : Nat) (h1 : L ≤ N) (h2 : N ≤ c) (W : World) : (Instr.sliceAt 30 (.slice q N c) (some (.int .i64 (L : Int))) none none).run Try.prog W = .ok (.slice (cutK 1 q c L) (N - L) (c - L)) W := by
  have u := Try.underlying30
  have g1 : (L : Int) ≤ (N : Int) := by omega
  have g2 : (N : Int) ≤ (c : Int) := by omega
  by_cases hc : c = L
  · subst hc
    rw [cutK_same]
    go_simp
  · rw [cutK_ne 1 q hc]
    go_simp
theorem slice_lhS (q : Option Addr) (c N L G : Nat) (h1 : L ≤ G) (h2 : G ≤ c) (W : World) : (Instr.sliceAt 59 (.slice q N c) (some (.int .i64 (L : Int))) (some (.int .i64 (G : Int))) none).run Try.prog W = .ok (.slice (cutK 1 q c L) (G - L) (c - L)) W := by
  have u := Try.underlying59
  have g1 : (L : Int) ≤ (G : Int) := by omega
  have g2 : (G : Int) ≤ (c : Int) := by omega
  by_cases hc : c = L
  · subst hc
    rw [cutK_same]
    go_simp
  · rw [cutK_ne 1 q hc]
    go_simp
theorem slice_lS (q : Option Addr) (c N L : Nat) (h1 : L ≤ N) (h2 : N ≤ c) (W : World) : (Instr.sliceAt 59 (.slice q N c) (some (.int .i64 (L : Int))) none none).run Try.prog W = .ok (.slice (cutK 1 q c L) (N - L) (c - L)) W := by
  have u := Try.underlying59
  have g1 : (L : Int) ≤ (N : Int) := by omega
  have g2 : (N : Int) ≤ (c : Int) := by omega
  by_cases hc : c = L
  · subst hc
    rw [cutK_same]
    go_simp
  · rw [cutK_ne 1 q hc]
    go_simp
theorem slice_lhT (q : Option Addr) (c N L G : Nat) (h1 : L ≤ G) (h2 : G ≤ c) (W : World) : (Instr.sliceAt 60 (.slice q N c) (some (.int .i64 (L : Int))) (some (.int .i64 (G : Int))) none).run Try.prog W = .ok (.slice (cutK 2 q c L) (G - L) (c - L)) W := by
  have u := Try.underlying60
  have g1 : (L : Int) ≤ (G : Int) := by omega
  have g2 : (G : Int) ≤ (c : Int) := by omega
  by_cases hc : c = L
  · subst hc
    rw [cutK_same]
    go_simp
  · rw [cutK_ne 2 q hc]
    go_simp
theorem slice_lT (q : Option Addr) (c N L : Nat) (h1 : L ≤ N) (h2 : N ≤ c) (W : World) : (Instr.sliceAt 60 (.slice q N c) (some (.int .i64 (L : Int))) none none).run Try.prog W = .ok (.slice (cutK 2 q c L) (N - L) (c - L)) W := by
  have u := Try.underlying60
  have g1 : (L : Int) ≤ (N : Int) := by omega
  have g2 : (N : Int) ≤ (c : Int) := by omega
  by_cases hc : c = L
  · subst hc
    rw [cutK_same]
    go_simp
  · rw [cutK_ne 2 q hc]
    go_simp
theorem clearI (w : World) (ty : TypeId) (g o n c : Nat) (hn : 0 < n) (hc : ∀ j, j < n * 1 → (w.cell? ⟨g, o + j, none⟩).isSome = true) (hf : ∀ j, j < n * 1 → w.frozen? ⟨g, o + j, none⟩ = false) :
    (Builtin.clear_ #[30] ty #[.slice (some ⟨g, o, none⟩) n c]).run Try.prog w = .ok (.tuple #[]) (w.setCells g o (Builtin.zeroCells #[.int .i64 0] n).toList) := by
  have hl : (Builtin.zeroCells #[.int .i64 0] n).toList.length = n * 1 := by rw [Array.length_toList, size_zeroCells]; rfl
  have hst := run_storeCells_cells (P := Try.prog) g o (Builtin.zeroCells #[.int .i64 0] n).toList 0 w (by rw [hl]; exact hc) (by rw [hl]; exact hf) (by
    intro v hv'
    simp only [Builtin.zeroCells, Array.toList_map, List.mem_map] at hv'
    obtain ⟨i, _, rfl⟩ := hv'
    have hm : i % 1 = 0 := by omega
    simp only [List.size_toArray, List.length_cons, List.length_nil, Nat.zero_add]
    rw [hm]; rfl)
  simp only [Nat.add_zero] at hst
  obtain ⟨m, rfl⟩ : ∃ m, n = m + 1 := ⟨n - 1, by omega⟩
  have hv := Try.zeroValue3
  simp [Builtin.clear_, run_underlying Try.underlying30, hv, Value.cells, hst]
theorem clearS (w : World) (ty : TypeId) (g o n c : Nat) (hn : 0 < n) (hc : ∀ j, j < n * 1 → (w.cell? ⟨g, o + j, none⟩).isSome = true) (hf : ∀ j, j < n * 1 → w.frozen? ⟨g, o + j, none⟩ = false) :
    (Builtin.clear_ #[59] ty #[.slice (some ⟨g, o, none⟩) n c]).run Try.prog w = .ok (.tuple #[]) (w.setCells g o (Builtin.zeroCells #[.string ⟨#[]⟩] n).toList) := by
  have hl : (Builtin.zeroCells #[.string ⟨#[]⟩] n).toList.length = n * 1 := by rw [Array.length_toList, size_zeroCells]; rfl
  have hst := run_storeCells_cells (P := Try.prog) g o (Builtin.zeroCells #[.string ⟨#[]⟩] n).toList 0 w (by rw [hl]; exact hc) (by rw [hl]; exact hf) (by
    intro v hv'
    simp only [Builtin.zeroCells, Array.toList_map, List.mem_map] at hv'
    obtain ⟨i, _, rfl⟩ := hv'
    have hm : i % 1 = 0 := by omega
    simp only [List.size_toArray, List.length_cons, List.length_nil, Nat.zero_add]
    rw [hm]; rfl)
  simp only [Nat.add_zero] at hst
  obtain ⟨m, rfl⟩ : ∃ m, n = m + 1 := ⟨n - 1, by omega⟩
  have hv := Try.zeroValue9
  simp [Builtin.clear_, run_underlying Try.underlying59, hv, Value.cells, hst]
theorem clearT (w : World) (ty : TypeId) (g o n c : Nat) (hn : 0 < n) (hc : ∀ j, j < n * 2 → (w.cell? ⟨g, o + j, none⟩).isSome = true) (hf : ∀ j, j < n * 2 → w.frozen? ⟨g, o + j, none⟩ = false) :
    (Builtin.clear_ #[60] ty #[.slice (some ⟨g, o, none⟩) n c]).run Try.prog w = .ok (.tuple #[]) (w.setCells g o (Builtin.zeroCells #[.string ⟨#[]⟩, .int .i64 0] n).toList) := by
  have hl : (Builtin.zeroCells #[.string ⟨#[]⟩, .int .i64 0] n).toList.length = n * 2 := by rw [Array.length_toList, size_zeroCells]; rfl
  have hst := run_storeCells_cells (P := Try.prog) g o (Builtin.zeroCells #[.string ⟨#[]⟩, .int .i64 0] n).toList 0 w (by rw [hl]; exact hc) (by rw [hl]; exact hf) (by
    intro v hv'
    simp only [Builtin.zeroCells, Array.toList_map, List.mem_map] at hv'
    obtain ⟨i, _, rfl⟩ := hv'
    have hm : i % 2 = 0 ∨ i % 2 = 1 := by omega
    simp only [List.size_toArray, List.length_cons, List.length_nil, Nat.zero_add, Nat.reduceAdd]
    rcases hm with e | e <;> rw [e] <;> rfl)
  simp only [Nat.add_zero] at hst
  obtain ⟨m, rfl⟩ : ∃ m, n = m + 1 := ⟨n - 1, by omega⟩
  have hv := Try.zeroValue58
  simp [Builtin.clear_, run_underlying Try.underlying60, hv, Value.cells, hst]
end Go.Proofs.Ytfenkiplofnolaa
