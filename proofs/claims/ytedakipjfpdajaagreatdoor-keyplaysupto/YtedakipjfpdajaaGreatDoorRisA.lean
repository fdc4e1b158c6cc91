/- What a sort leaves of the world: the row's shape, what it holds, what lies below. -/
import Derived.Test.YtedakipjfpdajaaGreatDoorCompact
import Derived.Test.YtedakipjfpdajaaGreatDoorZac
import Derived.Test.YtedakipjfpdajaaGreatDoorCmpK
import Derived.Shelf.SlSortCmp.InsertionK
namespace Go.Proofs.YtedakipjfpdajaaGreatDoor
open Go.RowKit Go.Sort Go.Shelf
theorem below_sortWorld {α : Type} [Inhabited α] {enc : α → List Value} {k : Nat} (w : World) (g n : Nat) (d : Array α) (os : Array Obj) (hg : g < w.heap.size) : Below g w (sortWorldK enc k w g 0 n d os) := by
  unfold sortWorldK putRowK
  refine ⟨rfl, rfl, rfl, by simp [grow, putRow, mapBlock, Sort.ahead], fun j hj => ?_⟩
  simp only [grow, putRow, mapBlock, Sort.ahead]
  rw [Array.getElem?_append_left (by simp; omega)]
  simp [Array.getElem?_modify, show g ≠ j by omega]
theorem holds_sortWorld {α : Type} [Inhabited α] {enc : α → List Value} {k : Nat} {w : World} {g n : Nat} {d d' : Array α} {os : Array Obj} (hg : g < w.heap.size) (h : HoldsK enc k w g 0 d) (hs : d'.size = d.size) : HoldsK enc k (sortWorldK enc k w g 0 n d' os) g 0 d' ∧ g < (sortWorldK enc k w g 0 n d' os).heap.size := by
  have hz : (putRowK enc k (Sort.ahead w n) g 0 d').heap.size = w.heap.size := by
    unfold putRowK; simp
  unfold sortWorldK
  exact ⟨holdsK_grow _ _ _ _ _ _ _ (by rw [hz]; exact hg) (holdsK_putRowK _ _ _ _ _ d d' (holdsK_ahead _ _ _ _ _ _ _ h) hs), by simp [grow, hz]; omega⟩
theorem shape_sortWorld {α : Type} [Inhabited α] {enc : α → List Value} {k : Nat} {w : World} {g n : Nat} {d : Array α} {os : Array Obj} {cur : Array Value} {e : TypeId} {fr : Nat × Nat} (h : w.heap[g]? = some (.cells cur e fr)) : ∃ cur', (sortWorldK enc k w g 0 n d os).heap[g]? = some (.cells cur' e fr) ∧ cur'.size = cur.size := by
  have hg : g < w.heap.size := (Array.getElem?_eq_some_iff.1 h).1
  unfold sortWorldK putRowK
  simp only [grow, putRow, mapBlock, Sort.ahead]
  rw [Array.getElem?_append_left (by simpa using hg), Array.getElem?_modify]
  simp only [if_true, h, Option.map_some]
  exact ⟨_, rfl, by simp [putCells]⟩
end Go.Proofs.YtedakipjfpdajaaGreatDoor
