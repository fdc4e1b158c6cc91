/- What the builders of trees answer. -/
import Derived.Test.YtkpdhkdegoincaaCloneTree
namespace Go.Proofs.Ytkpdhkdegoincaa
open Go.RowKit Go.Sort

/-- A tree in new memory. -/
def NewT (B : Nat) (w' : World) (t : Nd) (e : Ending) : Prop := ∃ v', e = .returned v'.val ∧ NdFrom w' B v' t
def zeroT : Nd := .mk 0 ⟨#[]⟩ [] [] 0 0 0 []
def joinT (op : Int) (kids : List Nd) : Nd := match kids with
  | [] => zeroT
  | [x] => x
  | _ => .mk 0 ⟨#[]⟩ [] [] 0 0 op kids
theorem joinT_many (op : Int) {kids : List Nd} (h : 2 ≤ kids.length) : joinT op kids = .mk 0 ⟨#[]⟩ [] [] 0 0 op kids := by
  match kids, h with
  | _ :: _ :: _, _ => rfl
theorem no_from {B : Nat} : ∀ a : Addr, (none : Option Addr) = some a → B ≤ a.block := fun _ h => by cases h
theorem set8_below {B g : Nat} {a w : World} (h : Below B a w) (hg : B ≤ g) (a0 a1 a2 a3 a4 a5 a6 a7 : Value) : Below B a ((((((((w.setCell ⟨g, 0, none⟩ a0).setCell ⟨g, 1, none⟩ a1).setCell ⟨g, 2, none⟩ a2).setCell ⟨g, 3, none⟩ a3).setCell ⟨g, 4, none⟩ a4).setCell ⟨g, 5, none⟩ a5).setCell ⟨g, 6, none⟩ a6).setCell ⟨g, 7, none⟩ a7) :=
  (((((((h.setCell hg _).setCell hg _).setCell hg _).setCell hg _).setCell hg _).setCell hg _).setCell hg _).setCell hg _
theorem set8_up {B g : Nat} (w : World) (hg : g < B) (a0 a1 a2 a3 a4 a5 a6 a7 : Value) : SameUp B w ((((((((w.setCell ⟨g, 0, none⟩ a0).setCell ⟨g, 1, none⟩ a1).setCell ⟨g, 2, none⟩ a2).setCell ⟨g, 3, none⟩ a3).setCell ⟨g, 4, none⟩ a4).setCell ⟨g, 5, none⟩ a5).setCell ⟨g, 6, none⟩ a6).setCell ⟨g, 7, none⟩ a7) :=
  (((((((((SameUp.of (Below.refl _ _)).set hg _).set hg _).set hg _).set hg _).set hg _).set hg _).set hg _).set hg _)
/-- The cell of a result, behind calls. -/
theorem boxR {w w1 : World} (hb : Below (w.alloc (.cells #[.int .i64 0, .string ⟨#[]⟩, .slice none 0 0, .slice none 0 0, .int .i64 0, .int .i64 0, .int .i64 0, .slice none 0 0] 31)).heap.size (w.alloc (.cells #[.int .i64 0, .string ⟨#[]⟩, .slice none 0 0, .slice none 0 0, .int .i64 0, .int .i64 0, .int .i64 0, .slice none 0 0] 31)) w1) :
    w.heap.size < w1.heap.size ∧ (w1.cell? ⟨w.heap.size, 0, none⟩ = some (.int .i64 0) ∧ w1.cell? ⟨w.heap.size, 1, none⟩ = some (.string ⟨#[]⟩) ∧ w1.cell? ⟨w.heap.size, 2, none⟩ = some (.slice none 0 0) ∧ w1.cell? ⟨w.heap.size, 3, none⟩ = some (.slice none 0 0) ∧ w1.cell? ⟨w.heap.size, 4, none⟩ = some (.int .i64 0) ∧ w1.cell? ⟨w.heap.size, 5, none⟩ = some (.int .i64 0) ∧ w1.cell? ⟨w.heap.size, 6, none⟩ = some (.int .i64 0) ∧ w1.cell? ⟨w.heap.size, 7, none⟩ = some (.slice none 0 0)) ∧ ∀ o, w1.frozen? ⟨w.heap.size, o, none⟩ = false := by
  have hs := hb.size
  have hlt : w.heap.size < (w.alloc (.cells #[.int .i64 0, .string ⟨#[]⟩, .slice none 0 0, .slice none 0 0, .int .i64 0, .int .i64 0, .int .i64 0, .slice none 0 0] 31)).heap.size := by simp
  have hh := (hb.block _ hlt).trans (box_nw w _)
  exact ⟨by simp at hs; omega, of8' hh, fun o => frozen_free hh⟩
end Go.Proofs.Ytkpdhkdegoincaa
