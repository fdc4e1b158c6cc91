/- Steps over worlds that are alike but for what was drawn. -/
import Derived.Test.YtfenkiplofnolaaPl5
import Derived.Test.YtfenkiplofnolaaOps
namespace Go.Proofs.Ytfenkiplofnolaa
open Go.RowKit Go.Sort Go.Shelf

section
variable {n : Nat} {w w1 w' : World} {B A R : Nat} {gi gr : Nat → Nat} {q p : Nat → Option Addr} {c d m m' : Nat → Nat} {l l' : Nat → List Int}
theorem PS.hp (h : PS n w B A R gi gr q p c d m m' l l') (he : w'.heap = w.heap) : PS n w' B A R gi gr q p c d m m' l l' := h.kept (by rw [he]; exact Nat.le_refl _) (fun i _ => by rw [he])
theorem Stp.hp {F F' : Nat → Prop} (h : Stp B w1 w' F F') (e1 : w1.heap = w.heap) (e2 : w1.os = w.os) (e3 : w1.tape = w.tape) (e4 : w1.output = w.output) : Stp B w w' F F' :=
  ⟨⟨h.k.os.trans e2, h.k.tape.trans e3, h.k.output.trans e4, by rw [← e1]; exact h.k.size, by rw [← e1]; exact h.k.block⟩, by rw [← e1]; exact h.f, below_hp e1 e2 e3 e4 h.b⟩
theorem Stp.hp2 {F F' : Nat → Prop} {w2 : World} (h : Stp B w w1 F F') (h2 : Below w1.heap.size w1 w2) (hB : B ≤ w.heap.size) : Stp B w w2 F F' := h.trans (Stp.of h2 (Nat.le_trans hB h.k.size))
theorem PS.pf0 {i k : Nat} {p' : Option Addr} (hp : p'.map (·.block) = (p k).map (·.block)) (h : PF n A R gi gr (upd q k (q k)) (upd p k p') i) : PF n A R gi gr q p i := by
  rcases h with h | h | ⟨k', hk', h⟩
  · exact Or.inl h
  · exact Or.inr (Or.inl h)
  · refine Or.inr (Or.inr ⟨k', hk', ?_⟩)
    by_cases e : k' = k
    · subst e
      rw [upd_same, upd_same, hp] at h
      exact h
    · rw [upd_ne _ _ e, upd_ne _ _ e] at h
      exact h
end
theorem cells4 {w : World} {L : Nat} {a b c d : Value} {t : TypeId} (h : w.heap[L]? = some (.cells #[a, b, c, d] t (0, 0))) : w.cell? ⟨L, 0, none⟩ = some a ∧ w.cell? ⟨L, 1, none⟩ = some b ∧ w.cell? ⟨L, 2, none⟩ = some c ∧ w.cell? ⟨L, 3, none⟩ = some d := by
  unfold World.cell?; simp [h]
theorem two_set {w : World} {A R k B : Nat} {a b : Array Value} {ta tb : TypeId} {x y : Value} (hA : w.heap[A]? = some (.cells a ta (0, 0))) (hR : w.heap[R]? = some (.cells b tb (0, 0))) (hne : A ≠ R) (hBA : B ≤ A) (hBR : B ≤ R) :
    (∀ i, i ≠ A → i ≠ R → ((w.setCell ⟨A, k, none⟩ x).setCell ⟨R, k, none⟩ y).heap[i]? = w.heap[i]?) ∧ ((w.setCell ⟨A, k, none⟩ x).setCell ⟨R, k, none⟩ y).heap[A]? = some (.cells (a.setIfInBounds k x) ta (0, 0)) ∧ ((w.setCell ⟨A, k, none⟩ x).setCell ⟨R, k, none⟩ y).heap[R]? = some (.cells (b.setIfInBounds k y) tb (0, 0)) ∧ Below B w ((w.setCell ⟨A, k, none⟩ x).setCell ⟨R, k, none⟩ y) := by
  refine ⟨fun i h1 h2 => ?_, ?_, ?_, ((Below.refl B w).setCell (p := ⟨A, k, none⟩) hBA _).setCell (p := ⟨R, k, none⟩) hBR _⟩
  · rw [heap_setCell_other _ ⟨R, k, none⟩ i _ h2, heap_setCell_other _ ⟨A, k, none⟩ i _ h1]
  · rw [heap_setCell_other _ ⟨R, k, none⟩ A _ hne]
    exact heap_setCell_same w A k a ta x hA
  · have h1 : (w.setCell ⟨A, k, none⟩ x).heap[R]? = some (.cells b tb (0, 0)) := by rw [heap_setCell_other _ ⟨A, k, none⟩ R _ (Ne.symm hne)]; exact hR
    exact heap_setCell_same _ R k b tb y h1
theorem cells_arr {w : World} {A k : Nat} {x : Value} {a : Array Value} {t : TypeId} (h : w.heap[A]? = some (.cells (a.setIfInBounds k x) t (0, 0))) (hk : k < a.size) : w.cell? ⟨A, k, none⟩ = some x := by
  unfold World.cell?
  simp [h, hk]
theorem cell_set_other (w : World) {A R k : Nat} (x : Value) (h : A ≠ R) : (w.setCell ⟨A, k, none⟩ x).cell? ⟨R, k, none⟩ = w.cell? ⟨R, k, none⟩ ∧ (w.setCell ⟨A, k, none⟩ x).frozen? ⟨R, k, none⟩ = w.frozen? ⟨R, k, none⟩ := by
  have h1 := heap_setCell_other w ⟨A, k, none⟩ R x (Ne.symm h)
  unfold World.cell? World.frozen?
  refine ⟨?_, ?_⟩ <;> simp only [h1]
/-- What is written behind the step into a row that is new to it. -/
theorem stp_row {B : Nat} {w w1 w2 : World} {F F' : Nat → Prop} {q : Option Addr} (h : Stp B w w1 F F') (g : w1.grownBy w2 (q.map (·.block))) (hq : ∀ i, q.map (·.block) = some i → w.heap.size ≤ i) (hB : B ≤ w.heap.size) : Stp B w w2 F F' := by
  have hs := h.k.size
  have hne : ∀ i, i < w.heap.size → some i ≠ q.map (·.block) := fun i hi e => by have := hq i e.symm; omega
  exact ⟨⟨g.os.trans h.k.os, g.tape.trans h.k.tape, g.output.trans h.k.output, Nat.le_trans hs g.size, fun i hi hl => (g.block i (by omega) (hne i hl)).trans (h.k.block i hi hl)⟩, h.f, h.b.trans ⟨g.os, g.tape, g.output, g.size, fun i hi => g.block i (by omega) (hne i (by omega))⟩⟩
theorem own_apartG {α β : Type} [Inhabited α] [Inhabited β] {enc : α → List Value} {enc' : β → List Value} {e k e' k' : Nat} {w w' : World} {q q' : Option Addr} {B B' cap cap' : Nat} {l : List α} {l' : List β} (ho : OwnK enc e k B w q cap l) (h' : OwnK enc' e' k' B' w q' cap' l') (hg : w.grownBy w' (q'.map (·.block))) (hd : e ≠ e') : OwnK enc e k B w' q cap l :=
  ho.keep fun i hi => hg.block i (ho.blk hi).2 (fun he => by
    cases q with
    | none => simp at hi
    | some p =>
      cases q' with
      | none => simp at he
      | some p' =>
        obtain ⟨cur, hb, _⟩ := ho.typ
        obtain ⟨cur', hb', _⟩ := h'.typ
        simp at hi he
        rw [hi] at hb
        rw [← he, hb] at hb'
        injection hb' with hb'
        injection hb' with h5 h6
        exact hd h6)
theorem grown_hp {w w1 w' : World} {r : Option Nat} (e1 : w1.heap = w.heap) (e2 : w1.os = w.os) (e3 : w1.tape = w.tape) (e4 : w1.output = w.output) (h : w1.grownBy w' r) : w.grownBy w' r := ⟨h.os.trans e2, h.tape.trans e3, h.output.trans e4, by rw [← e1]; exact h.size, by rw [← e1]; exact h.block⟩
theorem box_nw1 (w : World) (o o' : Obj) : ((w.alloc o).alloc o').heap[w.heap.size + 1]? = some o' := by
  have h := box_nw (w.alloc o) o'
  rwa [World.size_alloc] at h
theorem blk_keep {w w' : World} {b : Nat} {o : Obj} {r : Option Nat} (h : w.heap[b]? = some o) (hg : w.grownBy w' r) (hne : ¬ r = some b) : w'.heap[b]? = some o := (hg.block b (Array.getElem?_eq_some_iff.1 h).1 (fun e => hne e.symm)).trans h
theorem ptr_lit {W : World} {L : Nat} {b : Nat} (hb : W.heap[b]? = some (.cells #[.pointer (some ⟨L, 0, none⟩)] 24 (0, 0))) : SrcK encG 1 W (some ⟨b, 0, none⟩) 1 [L] :=
  (sl_lit (fun x : Nat => Value.pointer (some ⟨x, 0, none⟩)) (l := [L]) (by simp [maxLen]) hb).src
theorem ptr_litR {W : World} {L : Nat} {b : Nat} (hb : W.heap[b]? = some (.cells #[.pointer (some ⟨L, 0, none⟩)] 26 (0, 0))) : SrcK encG 1 W (some ⟨b, 0, none⟩) 1 [L] :=
  (sl_lit (fun x : Nat => Value.pointer (some ⟨x, 0, none⟩)) (l := [L]) (by simp [maxLen]) hb).src
theorem over_mine {C : Nat} {w : World} {g cp nx : Nat} {l : List Int} (ho : OwnK encI 3 1 C w (some ⟨g, 0, none⟩) cp (l ++ spI)) (hn : l.length = nx) (hl : nx * 8 + 64 ≤ 140737488355328) (hC : C ≤ w.heap.size) : Calls Try.prog 16 #[.slice (some ⟨g, 0, none⟩) nx cp] w fun e w' => e = .returned (.tuple #[]) ∧ w.grownBy w' (some g) := by
  have h5 := (ho.front (by decide) (n := nx) (by rw [List.length_append]; omega)).rawI
  have h6 : ((l ++ spI).take nx).length = nx := by rw [List.length_take, List.length_append]; omega
  rw [h6] at h5
  exact overI C (some ⟨g, 0, none⟩) nx cp w hl hC h5
end Go.Proofs.Ytfenkiplofnolaa
