/- A script of calls in memory; queues of unlike things share no block. -/
import Derived.Test.YtfenkiplofnolaaOr1
namespace Go.Proofs.Ytfenkiplofnolaa
open Go.RowKit Go.Sort

/-- A call as it lies in memory. -/
structure Oq where
  kind : Int
  which : Int
  q : Option Addr
  c : Nat
  l : List Int
  n : Int
instance : Inhabited Oq := ⟨⟨0, 0, none, 0, [], 0⟩⟩
def encO (v : Oq) : List Value := [.int .i64 v.kind, .int .i64 v.which, .slice v.q v.l.length v.c, .int .i64 v.n]
def OpsOf (w : World) (p : Option Addr) (c : Nat) (ops : List Oq) : Prop := SlOf encO 4 w p c ops ∧ ∀ o ∈ ops, SlOf encI 1 w o.q o.c o.l
theorem OpsOf.below {w w' : World} {p : Option Addr} {c : Nat} {ops : List Oq} (h : OpsOf w p c ops) (hb : Below w.heap.size w w') : OpsOf w' p c ops := ⟨h.1.below hb, fun x hx => (h.2 x hx).below hb⟩
theorem OpsOf.at {w : World} {p : Option Addr} {c : Nat} {ops : List Oq} (h : OpsOf w p c ops) {j : Nat} {o : Oq} (hj : ops[j]? = some o) :
    ∃ b off, p = some ⟨b, off, none⟩ ∧ b < w.heap.size ∧ (w.cell? ⟨b, off + j * 4, none⟩ = some (.int .i64 o.kind) ∧ w.cell? ⟨b, off + j * 4 + 1, none⟩ = some (.int .i64 o.which) ∧ w.cell? ⟨b, off + j * 4 + 2, none⟩ = some (.slice o.q o.l.length o.c) ∧ w.cell? ⟨b, off + j * 4 + 3, none⟩ = some (.int .i64 o.n)) ∧ SlOf encI 1 w o.q o.c o.l := by
  obtain ⟨b, off, hq, hb, hc⟩ := h.1.2.2.2.at hj
  exact ⟨b, off, hq, hb, ⟨hc 0 (by omega), hc 1 (by omega), hc 2 (by omega), hc 3 (by omega)⟩, h.2 o (List.mem_of_getElem? hj)⟩
theorem ft_typ {α : Type} [Inhabited α] {enc : α → List Value} {e k tq : Nat} {w : World} {L : Nat} {q : Option Addr} {cap m : Nat} {l : List α} (h : QIn enc e k tq w L q cap m l) {i : Nat} (hi : Ft L q i) : ∃ cs t, w.heap[i]? = some (.cells cs t (0, 0)) ∧ (t = e ∨ t = tq) := by
  rcases hi with rfl | hi
  · exact ⟨_, _, h.1, Or.inr rfl⟩
  · cases q with
    | none => simp at hi
    | some p =>
      obtain ⟨cur, hb, _, _, _⟩ := h.2.1.typ
      simp at hi
      rw [hi] at hb
      exact ⟨_, _, hb, Or.inl rfl⟩
/-- Queues of unlike things. -/
theorem ft_apart {α β : Type} [Inhabited α] [Inhabited β] {enc : α → List Value} {enc' : β → List Value} {e k tq e' k' tq' : Nat} {w : World} {L L' : Nat} {q q' : Option Addr} {cap m cap' m' : Nat} {l : List α} {l' : List β} (h : QIn enc e k tq w L q cap m l) (h' : QIn enc' e' k' tq' w L' q' cap' m' l') (hd : e ≠ e' ∧ e ≠ tq' ∧ tq ≠ e' ∧ tq ≠ tq') : ∀ i, Ft L q i → ¬ Ft L' q' i := fun i hi hi' => by
  obtain ⟨cs, t, h1, h2⟩ := ft_typ h hi
  obtain ⟨cs', t', h3, h4⟩ := ft_typ h' hi'
  rw [h1] at h3
  injection h3 with h3
  injection h3 with h5 h6
  rw [← h6] at h4
  obtain ⟨a, b, c, d⟩ := hd
  rcases h2 with h2 | h2 <;> rcases h4 with h | h
  · exact a (h2.symm.trans h)
  · exact b (h2.symm.trans h)
  · exact c (h2.symm.trans h)
  · exact d (h2.symm.trans h)
/-- A row of unlike things is left by a queue's call. -/
theorem row_apart {α β : Type} [Inhabited α] [Inhabited β] {enc : α → List Value} {enc' : β → List Value} {e k e' k' tq' : Nat} {w w' : World} {L' : Nat} {q q' q2 : Option Addr} {B cap cap' m' : Nat} {l : List α} {l' : List β} (ho : OwnK enc e k B w q cap l) (h' : QIn enc' e' k' tq' w L' q' cap' m' l') (hm : Mv w w' L' q' q2) (hd : e ≠ e' ∧ e ≠ tq') : OwnK enc e k B w' q cap l :=
  ho.keep fun i hi => hm.1.block i (fun hf => by
    obtain ⟨cs', t', h3, h4⟩ := ft_typ h' hf
    cases q with
    | none => simp at hi
    | some p =>
      obtain ⟨cur, hb, _, _, _⟩ := ho.typ
      simp at hi
      rw [hi] at hb
      rw [hb] at h3
      injection h3 with h3
      injection h3 with h5 h6
      rw [← h6] at h4
      rcases h4 with h | h
      · exact hd.1 h
      · exact hd.2 h) (ho.blk hi).2
end Go.Proofs.Ytfenkiplofnolaa
