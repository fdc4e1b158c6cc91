/- A script of calls in memory. -/
import Derived.Test.YtelgpmjafaopmaaIter
namespace Go.Proofs.Ytelgpmjafaopmaa
open Go.RowKit Go.Sort

/-- A call as it lies in memory. -/
structure Ov where
  kind : Int
  sec : Bool
  pp : Option Addr
  np : Nat
  cp : Nat
  pi : Option Addr
  ni : Nat
  ci : Nat
  id : Int
instance : Inhabited Ov := ⟨⟨0, false, none, 0, 0, none, 0, 0, 0⟩⟩
def encO (v : Ov) : List Value := [.int .i64 v.kind, .bool v.sec, .slice v.pp v.np v.cp, .slice v.pi v.ni v.ci, .int .i64 v.id]
structure Od where
  kind : Int
  sec : Bool
  ps : List Pt
  is : List Int
  id : Int
instance : Inhabited Od := ⟨⟨0, false, [], [], 0⟩⟩
def OdIn (w : World) (v : Ov) (o : Od) : Prop := v.kind = o.kind ∧ v.sec = o.sec ∧ v.id = o.id ∧ v.np = o.ps.length ∧ v.ni = o.is.length ∧ SlOf encP 2 w v.pp v.cp o.ps ∧ SlOf encI 1 w v.pi v.ci o.is
def OpsOf (w : World) (q : Option Addr) (c : Nat) (l : List Od) : Prop := ∃ vs, SlOf encO 5 w q c vs ∧ vs.length = l.length ∧ ∀ (j : Nat) (v : Ov) (o : Od), vs[j]? = some v → l[j]? = some o → OdIn w v o
def odW (o : Od) : Nat := o.ps.length + o.is.length
def odsW : List Od → Nat
  | [] => 0
  | o :: l => 1 + odW o + odsW l
/-- How many posts the first calls hand in. -/
def psN (l : List Od) (k : Nat) : Nat := ((l.take k).map fun o => o.ps.length).sum
theorem odW_mem : ∀ {l : List Od} {o : Od}, o ∈ l → odW o ≤ odsW l := by
  intro l
  induction l with
  | nil => intro o h; simp at h
  | cons a l ih =>
    intro o h
    simp only [odsW]
    rcases List.mem_cons.1 h with rfl | h
    · omega
    · have := ih h; omega
theorem ods_len : ∀ l : List Od, l.length ≤ odsW l := by
  intro l
  induction l with
  | nil => simp
  | cons a l ih => simp only [odsW, List.length_cons]; omega
theorem psN_snoc {l : List Od} {k : Nat} {o : Od} (h : l[k]? = some o) : psN l (k + 1) = psN l k + o.ps.length := by
  unfold psN
  rw [List.take_add_one, h]
  simp
theorem psN_le (l : List Od) (k : Nat) : psN l k ≤ odsW l := by
  unfold psN
  induction l generalizing k with
  | nil => simp
  | cons a l ih =>
    cases k with
    | zero => simp
    | succ k => have := ih k; simp only [List.take_succ_cons, List.map_cons, List.sum_cons, odsW, odW]; omega
/-- The j-th call: its cells, and what it hands in. -/
theorem OpsOf.at {w wr : World} {q : Option Addr} {c : Nat} {l : List Od} {j : Nat} {o : Od} {B : Nat} (h : OpsOf w q c l) (hj : l[j]? = some o) (hB : B = w.heap.size) (hb : Below B w wr) :
    ∃ b off v, q = some ⟨b, off, none⟩ ∧ OdIn w v o ∧ wr.cell? ⟨b, off + j * 5, none⟩ = some (.int .i64 v.kind) ∧ wr.cell? ⟨b, off + j * 5 + 1, none⟩ = some (.bool v.sec) ∧ wr.cell? ⟨b, off + j * 5 + 2, none⟩ = some (.slice v.pp v.np v.cp) ∧ wr.cell? ⟨b, off + j * 5 + 3, none⟩ = some (.slice v.pi v.ni v.ci) ∧ wr.cell? ⟨b, off + j * 5 + 4, none⟩ = some (.int .i64 v.id) := by
  subst hB
  obtain ⟨vs, h1, h2, h3⟩ := h
  have hl : j < l.length := (List.getElem?_eq_some_iff.1 hj).1
  obtain ⟨v, hv, _⟩ := get_at (l := vs) (k := j) (by omega)
  obtain ⟨b, off, hq, hlt, hc⟩ := h1.2.2.2.at hv
  refine ⟨b, off, v, hq, h3 j v o hv hj, ?_, ?_, ?_, ?_, ?_⟩
  · exact (hb.cell hlt).trans (hc 0 (by decide))
  · exact (hb.cell hlt).trans (hc 1 (by decide))
  · exact (hb.cell hlt).trans (hc 2 (by decide))
  · exact (hb.cell hlt).trans (hc 3 (by decide))
  · exact (hb.cell hlt).trans (hc 4 (by decide))
end Go.Proofs.Ytelgpmjafaopmaa
