/- A queue beside two lists of the call's own. -/
import Derived.Test.YtfenkiplofnolaaFx
namespace Go.Proofs.Ytfenkiplofnolaa
open Go.RowKit Go.Sort

theorem lenB (L : Nat) (q : Option Addr) (c m : Nat) (l : List Int) (W : World) (hQ : QIn encI 3 1 51 W L q c m l) : Calls Try.prog 22 #[.pointer (some ⟨L, 0, none⟩)] W fun e w' => e = .returned (.int .i64 (l.length : Int)) ∧ Below W.heap.size W w' :=
  (lenQ L _ _ 51 W _ hQ.1).mono fun _ _ ⟨h1, h2⟩ => ⟨h1, by rw [h2]; exact Below.refl _ _⟩
theorem roomB (L : Nat) (q : Option Addr) (c m d : Nat) (l : List Int) (W : World) (hQ : QIn encI 3 1 51 W L q c m l) (hd : l.length + d = m) : Calls Try.prog 21 #[.pointer (some ⟨L, 0, none⟩)] W fun e w' => e = .returned (.int .i64 (d : Int)) ∧ Below W.heap.size W w' :=
  (roomQ L _ 51 W l.length m d hQ.1 hd hQ.2.2.2.2).mono fun _ _ ⟨h1, h2⟩ => ⟨h1, by rw [h2]; exact (Below.refl _ _).drew⟩
structure Tri (B : Nat) (w : World) (L : Nat) (q : Option Addr) (cap m : Nat) (l : List Int) (qi : Option Addr) (ci : Nat) (inL : List Int) (qo : Option Addr) (co : Nat) (outL : List Int) : Prop where
  Q : QIn encI 3 1 51 w L q cap m l
  I : OwnK encI 3 1 B w qi ci inL
  O : OwnK encI 3 1 B w qo co outL
  hi : Hi B L q
  d1 : ∀ i, qi.map (·.block) = some i → ¬ Ft L q i
  d2 : ∀ i, qo.map (·.block) = some i → ¬ Ft L q i
  d3 : ∀ i, qi.map (·.block) = some i → qo.map (·.block) ≠ some i
section
variable {α : Type} [Inhabited α] {enc : α → List Value} {e k : Nat}
theorem OwnK.blk {B cap : Nat} {w : World} {q : Option Addr} {l : List α} (h : OwnK enc e k B w q cap l) {i : Nat} (hi : q.map (·.block) = some i) : B ≤ i ∧ i < w.heap.size := by
  cases q with
  | none => simp at hi
  | some p =>
    obtain ⟨_, _, h1, h2, _⟩ := h.typ
    simp at hi
    omega
theorem OwnK.keep {B cap : Nat} {w w' : World} {q : Option Addr} {l : List α} (h : OwnK enc e k B w q cap l) (hb : ∀ i, q.map (·.block) = some i → w'.heap[i]? = w.heap[i]?) : OwnK enc e k B w' q cap l :=
  h.kept (fun p hp => hb _ (by rw [hp]; rfl)) (fun p hp => (h.blk (i := p.block) (by rw [hp]; rfl)).1)
end
variable {B : Nat} {w w' : World} {L : Nat} {q : Option Addr} {cap m : Nat} {l : List Int} {qi : Option Addr} {ci : Nat} {inL : List Int} {qo : Option Addr} {co : Nat} {outL : List Int}
theorem Tri.below (h : Tri B w L q cap m l qi ci inL qo co outL) (hb : Below w.heap.size w w') : Tri B w' L q cap m l qi ci inL qo co outL :=
  ⟨h.Q.below hb, h.I.below hb, h.O.below hb, h.hi, h.d1, h.d2, h.d3⟩
theorem Tri.mv (h : Tri B w L q cap m l qi ci inL qo co outL) {q' : Option Addr} {cap' : Nat} {l' : List Int} (hQ : QIn encI 3 1 51 w' L q' cap' m l') (hm : Mv w w' L q q') (hB : B ≤ w.heap.size) : Tri B w' L q' cap' m l' qi ci inL qo co outL := by
  have hk : ∀ (qq : Option Addr) (cc : Nat) (ll : List Int), OwnK encI 3 1 B w qq cc ll → (∀ i, qq.map (·.block) = some i → ¬ Ft L q i) → OwnK encI 3 1 B w' qq cc ll ∧ ∀ i, qq.map (·.block) = some i → ¬ Ft L q' i := fun qq cc ll ho hd => by
    refine ⟨ho.keep fun i hi => hm.1.block i (hd i hi) (ho.blk hi).2, fun i hi hf => ?_⟩
    rcases hm.2 i hf with h1 | h1
    · exact hd i hi h1
    · have := (ho.blk hi).2
      omega
  obtain ⟨a1, a2⟩ := hk _ _ _ h.I h.d1
  obtain ⟨b1, b2⟩ := hk _ _ _ h.O h.d2
  exact ⟨hQ, a1, b1, h.hi.mv hm hB, a2, b2, h.d3⟩
theorem Stays.blk {q q' : Option Addr} {N c c' : Nat} (h : Stays w w' q q' N c c') {i : Nat} (hi : q'.map (·.block) = some i) : q.map (·.block) = some i ∨ w.heap.size ≤ i := by
  rcases h.q with e | ⟨g', e, hg⟩
  · rw [← e]; exact Or.inl hi
  · rw [e] at hi
    simp at hi
    omega
theorem Tri.appI (h : Tri B w L q cap m l qi ci inL qo co outL) {qi' : Option Addr} {ci' N : Nat} {inL' : List Int} (hs : Stays w w' qi qi' N ci ci') (ho : OwnK encI 3 1 B w' qi' ci' inL') : Tri B w' L q cap m l qi' ci' inL' qo co outL := by
  refine ⟨h.Q.kept fun i hi => hs.1.block i (h.Q.ftlt hi) (fun e => h.d1 i e.symm hi), ho, h.O.keep fun i hi => hs.1.block i (h.O.blk hi).2 (fun e => h.d3 i e.symm hi), h.hi, fun i hi hf => ?_, h.d2, fun i hi hf => ?_⟩
  · rcases hs.blk hi with h1 | h1
    · exact h.d1 i h1 hf
    · have := h.Q.ftlt hf; omega
  · rcases hs.blk hi with h1 | h1
    · exact h.d3 i h1 hf
    · have := (h.O.blk hf).2; omega
theorem Tri.appO (h : Tri B w L q cap m l qi ci inL qo co outL) {qo' : Option Addr} {co' N : Nat} {outL' : List Int} (hs : Stays w w' qo qo' N co co') (ho : OwnK encI 3 1 B w' qo' co' outL') : Tri B w' L q cap m l qi ci inL qo' co' outL' := by
  refine ⟨h.Q.kept fun i hi => hs.1.block i (h.Q.ftlt hi) (fun e => h.d2 i e.symm hi), h.I.keep fun i hi => hs.1.block i (h.I.blk hi).2 (fun e => h.d3 i hi e.symm), ho, h.hi, h.d1, fun i hi hf => ?_, fun i hi hf => ?_⟩
  · rcases hs.blk hi with h1 | h1
    · exact h.d2 i h1 hf
    · have := h.Q.ftlt hf; omega
  · rcases hs.blk hf with h1 | h1
    · exact h.d3 i hi h1
    · have := (h.I.blk hi).2; omega
theorem Stays.below {B : Nat} {w w' : World} {q q' : Option Addr} {N c c' : Nat} (h : Stays w w' q q' N c c') (hB : ∀ i, q.map (·.block) = some i → B ≤ i) (hs : B ≤ w.heap.size) : Below B w w' :=
  ⟨h.1.os, h.1.tape, h.1.output, h.1.size, fun i hi => h.1.block i (by omega) (fun e => by have := hB i e.symm; omega)⟩
/-- A list in memory whose lists lie there too. -/
structure Hl where
  q : Option Addr
  c : Nat
  l : List Int
instance : Inhabited Hl := ⟨⟨none, 0, []⟩⟩
def encH (h : Hl) : List Value := [.slice h.q h.l.length h.c]
def HlsOf (w : World) (p : Option Addr) (c : Nat) (hs : List Hl) : Prop := SlOf encH 1 w p c hs ∧ ∀ h ∈ hs, SlOf encI 1 w h.q h.c h.l
theorem HlsOf.below {w w' : World} {p : Option Addr} {c : Nat} {hs : List Hl} (h : HlsOf w p c hs) (hb : Below w.heap.size w w') : HlsOf w' p c hs := ⟨h.1.below hb, fun x hx => (h.2 x hx).below hb⟩
theorem HlsOf.at {w : World} {p : Option Addr} {c : Nat} {hs : List Hl} (h : HlsOf w p c hs) {j : Nat} {x : Hl} (hj : hs[j]? = some x) : ∃ b off, p = some ⟨b, off, none⟩ ∧ b < w.heap.size ∧ w.cell? ⟨b, off + j, none⟩ = some (.slice x.q x.l.length x.c) ∧ SlOf encI 1 w x.q x.c x.l := by
  obtain ⟨b, off, hq, hb, hc⟩ := h.1.2.2.2.at hj
  exact ⟨b, off, hq, hb, by have := hc 0 (by omega); rw [Nat.mul_one] at this; exact this, h.2 x (List.mem_of_getElem? hj)⟩
end Go.Proofs.Ytfenkiplofnolaa
