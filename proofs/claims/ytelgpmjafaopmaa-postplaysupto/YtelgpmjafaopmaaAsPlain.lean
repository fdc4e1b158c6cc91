/- What a cursor goes over stays, whatever becomes of the list. -/
import Derived.Test.YtelgpmjafaopmaaAdd2
namespace Go.Proofs.Ytelgpmjafaopmaa
open Go.RowKit Go.Sort Go.Shelf

/-- The cursor's row still holds l0: the list's own row begins so, or lies elsewhere. -/
def Row0 (w : World) (q0 : Option Addr) (cap0 : Nat) (l0 : List Pt) (q : Option Addr) (l : List Pt) : Prop := SlOf encP 2 w q0 cap0 l0 ∧ ((q = q0 ∧ l0 <+: l) ∨ Sep q0 q)
theorem slof_block {w w' : World} {g0 cap0 : Nat} {l0 : List Pt} (h : SlOf encP 2 w (some ⟨g0, 0, none⟩) cap0 l0) (hb : w'.heap[g0]? = w.heap[g0]?) (hs : w.heap.size ≤ w'.heap.size) : SlOf encP 2 w' (some ⟨g0, 0, none⟩) cap0 l0 := by
  refine ⟨h.1, h.2.1, h.2.2.1, fun h0 => ?_⟩
  obtain ⟨b, off, hq, hlt, hc⟩ := h.2.2.2 h0
  obtain ⟨rfl, rfl⟩ : g0 = b ∧ 0 = off := by injection hq with hq; injection hq with h1 h2 _; exact ⟨h1, h2⟩
  exact ⟨g0, 0, rfl, Nat.lt_of_lt_of_le hlt hs, fun j u hj => (World.cell?_of_block (a := ⟨g0, 0 + j, none⟩) hb).trans (hc j u hj)⟩
theorem slof_pre {w : World} {q : Option Addr} {cap cap0 : Nat} {l l0 : List Pt} (h : SlOf encP 2 w q cap l) (hp : l0 <+: l) (hn : q = none → l0.length = 0 ∧ cap0 = 0) (h1 : l0.length ≤ cap0) (h2 : cap0 ≤ maxLen) : SlOf encP 2 w q cap0 l0 := by
  refine ⟨hn, h1, h2, fun h0 => ?_⟩
  obtain ⟨r, rfl⟩ := hp
  obtain ⟨b, off, hq, hlt, hc⟩ := h.2.2.2 (by rw [List.length_append]; omega)
  refine ⟨b, off, hq, hlt, fun j u hj => hc j u ?_⟩
  rw [flat_app encP 2 (by decide), List.getElem?_append_left (List.getElem?_eq_some_iff.1 hj).1]
  exact hj
theorem row0_step {w w1 : World} {B L g0 cap0 cap cap' : Nat} {q q' : Option Addr} {l l' l0 : List Pt} (hL : Lst w B L q cap l) (h : Row0 w (some ⟨g0, 0, none⟩) cap0 l0 q l) (hs : Stays w w1 q q') (ho : OwnK encP 43 2 B w1 q' cap' l') (hp : q' = q → l <+: l') (hgL : g0 ≠ L) (hg : g0 < w.heap.size) :
    Row0 (w1.setCell ⟨L, 0, none⟩ (.slice q' l'.length cap')) (some ⟨g0, 0, none⟩) cap0 l0 q' l' := by
  have hset : (w1.setCell ⟨L, 0, none⟩ (.slice q' l'.length cap')).heap[g0]? = w1.heap[g0]? := Below.heap_setCell _ _ _ _ (by exact hgL)
  have hsz : w.heap.size ≤ (w1.setCell ⟨L, 0, none⟩ (.slice q' l'.length cap')).heap.size := Nat.le_trans hs.1.size ((Below.refl 0 w1).setCell (p := ⟨L, 0, none⟩) (Nat.zero_le _) _).size
  rcases hs.2 with e | ⟨hg1, hf⟩
  · rcases h.2 with ⟨e2, hp0⟩ | hsep
    · have hpre : l0 <+: l' := List.IsPrefix.trans hp0 (hp e)
      have hput := (hL.put hs ho).2
      refine ⟨?_, Or.inl ⟨e.trans e2, hpre⟩⟩
      have h3 := slof_pre hput.2.ls hpre (cap0 := cap0) (by rw [e, e2]; intro e; cases e) h.1.2.1 h.1.2.2.1
      rw [e, e2] at h3
      rw [e, e2]
      exact h3
    · refine ⟨slof_block h.1 (hset.trans (hs.1.block g0 hg ?_)) hsz, Or.inr (e ▸ hsep)⟩
      cases hq : q with
      | none => simp
      | some a => simp; exact hsep _ a rfl hq
  · refine ⟨slof_block h.1 (hset.trans (hg1.block g0 hg (by simp))) hsz, Or.inr fun a a1 e1 e2 => ?_⟩
    cases e1
    rcases hf with hf | ⟨g', hf, hg'⟩
    · rw [hf] at e2; cases e2
    · rw [hf] at e2
      cases e2
      show g0 ≠ g'
      omega
theorem cur_step {w w1 : World} {B L C cap n cap0 k : Nat} {q q' q0 : Option Addr} {l : List Pt} (hL : Lst w B L q cap l) (hc : Cur w C q0 n cap0 k) (hs : Stays w w1 q q') (v : Value) : Cur (w1.setCell ⟨L, 0, none⟩ v) C q0 n cap0 k := by
  have hne : C ≠ L := fun e => by subst e; have := hL.1; unfold Cur at hc; rw [hc] at this; simp at this
  have hne2 : some C ≠ q.map (·.block) := by
    rcases hL.2.2 with ⟨h1, _⟩ | ⟨g, _, cur, hv, _, hblk, _⟩
    · injection h1 with h1; subst h1; simp
    · injection hv with h1
      subst h1
      intro e
      simp at e
      subst e
      unfold Cur at hc
      rw [hc] at hblk
      simp at hblk
  exact (Below.heap_setCell _ _ _ _ (by exact hne)).trans ((hs.1.block C hc.lt hne2).trans hc)
theorem sep_step {w w1 : World} {q q' qw : Option Addr} (hsep : Sep qw q) (hs : Stays w w1 q q') (hlt : ∀ a, qw = some a → a.block < w.heap.size) : Sep qw q' := by
  rcases hs.2 with e | ⟨_, hf⟩
  · rw [e]; exact hsep
  · intro a a1 e1 e2
    have := hlt a e1
    rcases hf with hf | ⟨g', hf, hg'⟩
    · rw [hf] at e2; cases e2
    · rw [hf] at e2
      cases e2
      show a.block ≠ g'
      omega
theorem own_cur {w w' : World} {B C n cap' k : Nat} {q q' : Option Addr} {cap : Nat} {l : List Pt} (h : OwnK encP 43 2 B w q cap l) (hc : Cur w C q' n cap' k) (hg : w.grownBy w' (some C)) : OwnK encP 43 2 B w' q cap l := by
  refine World.ownsRow.kept h hg ?_
  rcases h.2 with ⟨h2, _⟩ | ⟨g, _, cur, hv, _, hblk, _⟩
  · rw [h2]; exact Or.inl rfl
  · refine Or.inr ?_
    rw [hv]
    intro e
    simp [Value.ownBlock] at e
    subst e
    unfold Cur at hc
    rw [hc] at hblk
    simp at hblk
theorem row0_cur {w w' : World} {g0 cap0 C : Nat} {q : Option Addr} {l l0 : List Pt} (h : Row0 w (some ⟨g0, 0, none⟩) cap0 l0 q l) (hg : w.grownBy w' (some C)) (hne : g0 ≠ C) (hlt : g0 < w.heap.size) : Row0 w' (some ⟨g0, 0, none⟩) cap0 l0 q l :=
  ⟨slof_block h.1 (hg.block g0 hlt (by simp [hne])) hg.size, h.2⟩
theorem row0_below {w w' : World} {q0 : Option Addr} {cap0 : Nat} {q : Option Addr} {l l0 : List Pt} (h : Row0 w q0 cap0 l0 q l) (hb : Below w.heap.size w w') : Row0 w' q0 cap0 l0 q l := ⟨h.1.below hb, h.2⟩
theorem own_lt {B : Nat} {w : World} {q : Option Addr} {cap : Nat} {l : List Pt} (h : OwnK encP 43 2 B w q cap l) : ∀ a, q = some a → a.block < w.heap.size := fun a e => (World.ownsRow.lt h a.block (by rw [own_block, e]; rfl)).2
end Go.Proofs.Ytelgpmjafaopmaa
