/- Merging two lists, each member told once at least: the plain part; a part of a list in memory. -/
import Derived.Test.YtedakipjfpdajaaGreatDoorSort
import Derived.Test.YtedakipjfpdajaaGreatDoorRefA
import Derived.Test.YtedakipjfpdajaaGreatDoorMemA
import Derived.Test.YtedakipjfpdajaaGreatDoorIterI
import Derived.Test.YtedakipjfpdajaaGreatDoorIterS
namespace Go.Proofs.YtedakipjfpdajaaGreatDoor
open Go.RowKit Go.Sort Go.Shelf

/-- The same members, and no more of them. -/
def Sm {α : Type} (L l : List α) : Prop := (∀ x, x ∈ L ↔ x ∈ l) ∧ L.length ≤ l.length
/-- What is merged so far: of what was taken. -/
def Mg {α : Type} (a b : List α) (i j : Nat) (out : List α) : Prop := (∀ x, x ∈ out ↔ x ∈ a.take i ∨ x ∈ b.take j) ∧ out.length ≤ i + j
theorem Mg.start {α : Type} (a b : List α) : Mg a b 0 0 [] := ⟨fun x => by simp, by simp⟩
theorem Mg.swap {α : Type} {a b : List α} {i j : Nat} {out : List α} (h : Mg a b i j out) : Mg b a j i out := ⟨fun x => (h.1 x).trans Or.comm, by have := h.2; omega⟩
theorem Mg.left {α : Type} {a b : List α} {i j : Nat} {out : List α} (h : Mg a b i j out) {x : α} (hx : a[i]? = some x) : Mg a b (i + 1) j (out ++ [x]) := by
  refine ⟨fun z => ?_, by have := h.2; simp; omega⟩
  rw [List.take_add_one, hx, List.mem_append, h.1 z, List.mem_append]
  simp only [Option.toList, List.mem_singleton]
  constructor
  · rintro ((h | h) | h) <;> simp [h]
  · rintro ((h | h) | h) <;> simp [h]
theorem Mg.leftS {α : Type} {a b : List α} {i j : Nat} {out : List α} (h : Mg a b i j out) {x : α} (hx : a[i]? = some x) (hm : x ∈ out) : Mg a b (i + 1) j out := by
  refine ⟨fun z => ?_, by have := h.2; omega⟩
  rw [List.take_add_one, hx, h.1 z, List.mem_append]
  simp only [Option.toList, List.mem_singleton]
  constructor
  · rintro (h | h) <;> simp [h]
  · rintro ((h1 | h1) | h1)
    · exact Or.inl h1
    · subst h1; exact (h.1 z).1 hm
    · exact Or.inr h1
theorem Mg.right {α : Type} {a b : List α} {i j : Nat} {out : List α} (h : Mg a b i j out) {x : α} (hx : b[j]? = some x) : Mg a b i (j + 1) (out ++ [x]) := (h.swap.left hx).swap
theorem Mg.rightS {α : Type} {a b : List α} {i j : Nat} {out : List α} (h : Mg a b i j out) {x : α} (hx : b[j]? = some x) (hm : x ∈ out) : Mg a b i (j + 1) out := (h.swap.leftS hx hm).swap
theorem Mg.done {α : Type} {l a d out : List α} {m i j : Nat} (h : Mg a d i j out) (ha : Sm a (l.take m)) (hd : Sm d (l.drop m)) (hi : i = a.length) (hj : j = d.length) : Sm out l := by
  subst hi
  subst hj
  refine ⟨fun x => ?_, ?_⟩
  · rw [h.1, List.take_of_length_le (Nat.le_refl _), List.take_of_length_le (Nat.le_refl _), ha.1, hd.1, ← List.mem_append, List.take_append_drop]
  · have h1 := h.2
    have h2 := ha.2
    have h3 := hd.2
    rw [List.length_take] at h2
    rw [List.length_drop] at h3
    omega
theorem sm_short {α : Type} (l : List α) : Sm l l := ⟨fun _ => Iff.rfl, Nat.le_refl _⟩
theorem flat_lenG {α : Type} [Inhabited α] (enc : α → List Value) (k : Nat) (l : List α) : (flatK enc k l.toArray).toList.length = l.length * k := by simp [flatK]
theorem slG_take {α : Type} [Inhabited α] {enc : α → List Value} {k : Nat} (hk : 0 < k) {w : World} {b off c : Nat} {l : List α} (h : SlOf enc k w (some ⟨b, off, none⟩) c l) (m : Nat) : SlOf enc k w (some ⟨b, off, none⟩) c (l.take m) := by
  refine ⟨(fun h => by cases h), Nat.le_trans (by rw [List.length_take]; omega) h.2.1, h.2.2.1, fun h0 => ?_⟩
  obtain ⟨b', off', hq, hb, hc⟩ := h.2.2.2 (by rw [List.length_take] at h0; omega)
  cases hq
  refine ⟨b, off, rfl, hb, fun j u hj => hc j u ?_⟩
  have e : (flatK enc k l.toArray).toList = (flatK enc k (l.take m).toArray).toList ++ (flatK enc k (l.drop m).toArray).toList := by rw [← flat_app enc k hk, List.take_append_drop]
  rw [e, List.getElem?_append_left (List.getElem?_eq_some_iff.1 hj).1]
  exact hj
theorem slG_drop {α : Type} [Inhabited α] {enc : α → List Value} {k : Nat} (hk : 0 < k) {w : World} {b off c : Nat} {l : List α} (h : SlOf enc k w (some ⟨b, off, none⟩) c l) (m : Nat) (hm : m ≤ l.length) : SlOf enc k w (some ⟨b, off + m * k, none⟩) (c - m) (l.drop m) := by
  refine ⟨(fun h => by cases h), (by have := h.2.1; rw [List.length_drop]; omega), (by have := h.2.2.1; omega), fun h0 => ?_⟩
  obtain ⟨b', off', hq, hb, hc⟩ := h.2.2.2 (by rw [List.length_drop] at h0; omega)
  cases hq
  refine ⟨b, off + m * k, rfl, hb, fun j u hj => ?_⟩
  rw [Nat.add_assoc]
  refine hc (m * k + j) u ?_
  have e : (flatK enc k l.toArray).toList = (flatK enc k (l.take m).toArray).toList ++ (flatK enc k (l.drop m).toArray).toList := by rw [← flat_app enc k hk, List.take_append_drop]
  have e2 : (flatK enc k (l.take m).toArray).toList.length = m * k := by rw [flat_lenG, List.length_take, Nat.min_eq_left hm]
  rw [e, List.getElem?_append_right (by omega), e2, Nat.add_sub_cancel_left]
  exact hj
theorem OwnK.someG {α : Type} [Inhabited α] {enc : α → List Value} {e : TypeId} {k B cap : Nat} {w : World} {q : Option Addr} {l : List α} (h : OwnK enc e k B w q cap l) (h0 : 0 < l.length) : ∃ g, q = some ⟨g, 0, none⟩ ∧ B ≤ g ∧ g < w.heap.size := by
  rcases h.2 with ⟨h1, h2⟩ | ⟨g, cap', cur, hv, hB, hblk, hc, hm, _⟩
  · omega
  · injection hv with h1 h2 h3
    exact ⟨g, h1, hB, (Array.getElem?_eq_some_iff.1 hblk).1⟩
theorem srcOneI (w : World) (x : Int) : SrcK encI 1 (w.alloc (.cells #[.int .i64 x] 3)) (some ⟨w.heap.size, 0, none⟩) 1 [x] := by
  refine ⟨(fun h => by cases h), fun ad e j u hj => ?_⟩
  cases e
  rw [flat_oneI] at hj
  exact newsI_blk (World.alloc_heap_new _ _) j u hj
theorem srcOneS (w : World) (x : ByteArray) : SrcK encS 1 (w.alloc (.cells #[.string x] 9)) (some ⟨w.heap.size, 0, none⟩) 1 [x] := by
  refine ⟨(fun h => by cases h), fun ad e j u hj => ?_⟩
  cases e
  rw [flat_oneS] at hj
  exact newsS_blk (World.alloc_heap_new _ _) j u hj
end Go.Proofs.YtedakipjfpdajaaGreatDoor
