/- What value.Text returns, for every value. -/
import Derived.Test.YtcjkjhblmalbhaaQuote
import Derived.Lib.SmallJoins
import Derived.Lib.AppendIntMem
namespace Go.Proofs.Ytcjkjhblmalbhaa
open Go.RowKit

/-- What the listed variables of the library hold. -/
def G (w : World) : Prop := Lib.TabIs Try.prog w "internal/strconv.uint64pow10" .u64 Lib.pow10Tab
theorem var_stays {w w' : World} {n : String} {cs : Array Value} (hb : Below w.heap.size w w') (h : w.var? Try.prog n = some cs) : w'.var? Try.prog n = some cs := by
  unfold World.var? at h
  cases hg : Try.prog.globalNamed n with
  | none => rw [hg] at h; simp at h
  | some g =>
    refine var?_below hb hg ?_ (by unfold World.var?; exact h)
    rw [hg] at h
    simp only [Option.bind_some] at h
    cases hx : w.heap[g]? with
    | none => rw [hx] at h; simp at h
    | some o => exact (Array.getElem?_eq_some_iff.1 hx).1
theorem G_below {w w' : World} (h : G w) (hb : Below w.heap.size w w') : G w' := var_stays hb h
theorem G_alloc {w : World} (h : G w) (o : Obj) : G (w.alloc o) := G_below h ((Below.refl _ _).alloc (Nat.le_refl _) _)
theorem below_sub {a b c : World} (h : Below a.heap.size a b) (h2 : Below b.heap.size b c) : Below a.heap.size a c := h.trans (h2.mono h.size)

def quoteB (s : ByteArray) : ByteArray := ⟨(quoteL s.data.toList).toArray⟩
def itoaB (n : Int) : ByteArray := ⟨(Lib.itoa n).toArray⟩
theorem chk_range {k n : Int} {s : ByteArray} (h : chkV k n s = 0) : (k = 1 ∧ -2147483648 ≤ n ∧ n ≤ 2147483647 ∧ s.size = 0) ∨ (k = 2 ∧ n = 0 ∧ s.size ≤ 64) := by
  unfold chkV at h
  by_cases hc : (k = 1 ∧ -2147483648 ≤ n ∧ n ≤ 2147483647 ∧ s.size = 0) ∨ (k = 2 ∧ n = 0 ∧ s.size ≤ 64)
  · exact hc
  · rw [if_neg hc] at h; omega
theorem chk_01 (k n : Int) (s : ByteArray) : chkV k n s = 0 ∨ chkV k n s = 1 := by unfold chkV; split <;> simp

/-- How a value is written; nothing, if it is not in form. -/
def textB (k n : Int) (s : ByteArray) : ByteArray := if chkV k n s = 0 then (if k = 2 then quoteB s else itoaB n) else ⟨#[]⟩

theorem bcell {W w1 : World} (hb : Below W.heap.size W w1) : (∀ b o, b < W.heap.size → w1.cell? ⟨b, o, none⟩ = W.cell? ⟨b, o, none⟩) ∧ (∀ b o, b < W.heap.size → w1.frozen? ⟨b, o, none⟩ = W.frozen? ⟨b, o, none⟩) :=
  ⟨fun b o h => hb.cell (p := ⟨b, o, none⟩) h, fun b o h => hb.frozen (p := ⟨b, o, none⟩) h⟩

theorem below_st3 {w w1 : World} {o : Obj} (hb : Below (w.alloc o).heap.size (w.alloc o) w1) (x y z : Value) : Below w.heap.size w (((w1.setCell ⟨w.heap.size, 0, none⟩ x).setCell ⟨w.heap.size, 1, none⟩ y).setCell ⟨w.heap.size, 2, none⟩ z) :=
  (((below_sub ((Below.refl _ _).alloc (Nat.le_refl _) _) hb).setCell (Nat.le_refl _) _).setCell (Nat.le_refl _) _).setCell (Nat.le_refl _) _

/-- The value that a text writes, its three parts and its error. -/
def parseN (s : ByteArray) (v : Int) : Prop := textB 1 v ⟨#[]⟩ = s ∧ chkV 1 v ⟨#[]⟩ = 0

theorem toList_ne {a b : ByteArray} (h : a ≠ b) : (a.toList == b.toList) = false := by
  rw [beq_eq_false_iff_ne]
  intro h2
  rw [ByteArray.toList_eq, ByteArray.toList_eq] at h2
  exact h (WideShapes.bytes_inj h2)

end Go.Proofs.Ytcjkjhblmalbhaa
