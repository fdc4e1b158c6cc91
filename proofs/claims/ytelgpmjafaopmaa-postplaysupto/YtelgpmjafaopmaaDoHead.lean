/- world.do: what its calls are given, and the marks behind what is handed in. -/
import Derived.Test.YtelgpmjafaopmaaWd
import Derived.Test.YtelgpmjafaopmaaMem
import Derived.Test.YtelgpmjafaopmaaRefDrop
import Derived.Test.YtelgpmjafaopmaaRefAdd
import Derived.Deep.Cut
namespace Go.Proofs.Ytelgpmjafaopmaa
open Go.RowKit Go.Sort Go.Shelf

def opV (kind : Int) (sec : Bool) (pp : Option Addr) (np cp : Nat) (pi : Option Addr) (ni ci : Nat) (id : Int) : Array Value := #[.int .i64 kind, .bool sec, .slice pp np cp, .slice pi ni ci, .int .i64 id]
theorem Wd.cells {B : Nat} {w : World} {G : Nat} {s : St} (h : Wd B w G s) (o : Nat) : w.cell? ⟨G, o, none⟩ = (cellsOf s)[o]? := cell_of_row _ _ _ _ 33 (0, 0) h.blk
/-- A copy with its mark behind it. -/
def Mark (B : Nat) (w : World) (g c : Nat) (l : List Pt) : Prop := OwnK encP 43 2 B w (some ⟨g, 0, none⟩) c (l ++ spP) ∧ l.length + 1 ≤ c
def MarkI (B : Nat) (w : World) (g c : Nat) (l : List Int) : Prop := OwnK encI 3 1 B w (some ⟨g, 0, none⟩) c (l ++ spI) ∧ l.length + 2 ≤ c
theorem Mark.below {B : Nat} {w w' : World} {g c : Nat} {l : List Pt} (h : Mark B w g c l) (hb : Below w.heap.size w w') : Mark B w' g c l := ⟨OwnK.below h.1 hb, h.2⟩
theorem MarkI.below {B : Nat} {w w' : World} {g c : Nat} {l : List Int} (h : MarkI B w g c l) (hb : Below w.heap.size w w') : MarkI B w' g c l := ⟨OwnK.below h.1 hb, h.2⟩
theorem op_cells {w : World} {b : Nat} {v0 v1 v2 v3 v4 : Value} (h : w.heap[b]? = some (.cells #[v0, v1, v2, v3, v4] 39 (0, 0))) : w.cell? ⟨b, 0, none⟩ = some v0 ∧ w.cell? ⟨b, 1, none⟩ = some v1 ∧ w.cell? ⟨b, 2, none⟩ = some v2 ∧ w.cell? ⟨b, 3, none⟩ = some v3 ∧ w.cell? ⟨b, 4, none⟩ = some v4 := by
  unfold World.cell?; simp [h]
end Go.Proofs.Ytelgpmjafaopmaa
