/- A list of queues that grows. -/
import Derived.Test.YtfenkiplofnolaaHd
import Derived.Test.YtfenkiplofnolaaOps
namespace Go.Proofs.Ytfenkiplofnolaa
open Go.RowKit Go.Sort Go.Shelf

theorem row_out {B : Nat} {w : World} {qq : Option Addr} {cq : Nat} {gs : List Nat} {t : Nat} {dom : Nat → Prop} {qf : Nat → Option Addr} {cf mf : Nat → Nat} {lf : Nat → List Int} (ho : OwnK encG t 1 B w qq cq gs) (hf : Fam w dom qf cf mf lf) (ht : t ≠ 3 ∧ t ≠ 51) : ∀ i, qq.map (·.block) = some i → Out dom qf i := fun i hi g hg hft => by
  obtain ⟨cs', t', h3, h4⟩ := ft_typ (hf.q g hg) hft
  cases qq with
  | none => simp at hi
  | some p =>
    obtain ⟨cur, hb, _, _, _⟩ := ho.typ
    simp at hi
    rw [hi] at hb
    rw [hb] at h3
    injection h3 with h3
    injection h3 with h5 h6
    rw [← h6] at h4
    rcases h4 with h | h
    · exact ht.1 h
    · exact ht.2 h
structure HS1 (B : Nat) (w : World) (gs : List Nat) (qq : Option Addr) (cq : Nat) (qf : Nat → Option Addr) (cf : Nat → Nat) (lf : Nat → List Int) : Prop where
  nd : gs.Nodup
  row : OwnK encG 24 1 B w qq cq gs
  fam : Fam w (· ∈ gs) qf cf (fun _ => 16) lf
  hi : ∀ g ∈ gs, Hi B g (qf g)
theorem HS1.nil (B : Nat) (w : World) : HS1 B w [] none 0 (fun _ => none) (fun _ => 0) (fun _ => []) :=
  ⟨List.nodup_nil, OwnK.nil _ _, ⟨fun g h => by simp at h, fun g _ h => by simp at h⟩, fun g h => by simp at h⟩
theorem HS1.add {B : Nat} {w w2 w3 w5 : World} {gs : List Nat} {qq : Option Addr} {cq : Nat} {qf : Nat → Option Addr} {cf : Nat → Nat} {lf : Nat → List Int} (h : HS1 B w gs qq cq qf cf lf) (hB : B ≤ w.heap.size) (b2 : Below w.heap.size w w2) {q3 : Option Addr} {c3 : Nat} {l3 : List Int} (h3 : QIn encI 3 1 51 w3 w.heap.size q3 c3 16 l3) (m3 : Mv w2 w3 w.heap.size none q3) {o : Obj} {qq5 : Option Addr} {cq5 N : Nat} (s5 : Stays (w3.alloc o) w5 qq qq5 N cq cq5) (o5 : OwnK encG 24 1 B w5 qq5 cq5 (gs ++ [w.heap.size])) :
    HS1 B w5 (gs ++ [w.heap.size]) qq5 cq5 (upd qf w.heap.size q3) (upd cf w.heap.size c3) (upd lf w.heap.size l3) ∧ Below B w w5 := by
  have hlt : ∀ g ∈ gs, ∀ i, Ft g (qf g) i → i < w.heap.size := fun g hg i hi => (h.fam.q g hg).ftlt hi
  have hgl : ∀ g ∈ gs, g < w.heap.size := fun g hg => (h.fam.q g hg).lt
  have hL : ¬ w.heap.size ∈ gs := fun hm => Nat.lt_irrefl _ (hgl _ hm)
  have hng : ∀ g ∈ gs, g ≠ w.heap.size := fun g hg e => hL (by rw [← e]; exact hg)
  have hs2 := b2.size
  have hs3 := m3.1.size
  have e34 : Below w3.heap.size w3 (w3.alloc o) := alloc_b _ _
  have hrow3 : ∀ i, qq.map (·.block) = some i → i < w.heap.size := fun i hi => (h.row.blk hi).2
  -- the row of pointers in the world ahead of the append
  have hq4 : OwnK encG 24 1 B (w3.alloc o) qq cq gs := h.row.keep fun i hi => by
    rw [e34.block i (by have := hrow3 i hi; omega), m3.1.block i (fun hf => by
      rcases hf with hf | hf
      · have := hrow3 i hi; omega
      · simp at hf) (by have := hrow3 i hi; omega), b2.block i (hrow3 i hi)]
  have hold : ∀ g ∈ gs, QIn encI 3 1 51 w5 g (qf g) (cf g) 16 (lf g) := fun g hg => (h.fam.q g hg).kept fun i hi => by
    have hi1 := hlt g hg i hi
    have hne : some i ≠ qq.map (·.block) := fun he => row_out h.row h.fam (by decide) i he.symm g hg hi
    rw [s5.1.block i (by have := e34.size; omega) hne, e34.block i (by omega), m3.1.block i (fun hf => by
      rcases hf with hf | hf
      · omega
      · simp at hf) (by omega), b2.block i hi1]
  have hnew : QIn encI 3 1 51 w5 w.heap.size q3 c3 16 l3 := (h3.below e34).kept fun i hi => s5.1.block i ((h3.below e34).ftlt hi) (fun he => by
    obtain ⟨cs', t', h5, h6⟩ := ft_typ (h3.below e34) hi
    cases qq with
    | none => simp at he
    | some p =>
      obtain ⟨cur, hb, _, _, _⟩ := hq4.typ
      simp at he
      rw [← he] at hb
      rw [hb] at h5
      injection h5 with h5
      injection h5 with h7 h8
      rw [← h8] at h6
      rcases h6 with h6 | h6 <;> exact absurd h6 (by decide))
  have hft3 : ∀ i, Ft w.heap.size q3 i → w.heap.size ≤ i := fun i hi => by
    rcases m3.2 i hi with (h1 | h1) | h1
    · omega
    · simp at h1
    · omega
  refine ⟨⟨?_, o5, ⟨fun g hg => ?_, fun g g' hg hg' hne i hi hi' => ?_⟩, fun g hg => ?_⟩, ?_⟩
  · rw [List.nodup_append]
    exact ⟨h.nd, by simp, fun a ha b hb e => by simp at hb; subst hb; exact hL (e ▸ ha)⟩
  · rcases List.mem_append.1 hg with hg | hg
    · have hne : g ≠ w.heap.size := hng g hg
      rw [upd_ne _ _ hne, upd_ne _ _ hne, upd_ne _ _ hne]
      exact hold g hg
    · simp at hg
      subst hg
      rw [upd_same, upd_same, upd_same]
      exact hnew
  · rcases List.mem_append.1 hg with hg | hg <;> rcases List.mem_append.1 hg' with hg' | hg'
    · rw [upd_ne _ _ (hng _ hg)] at hi
      rw [upd_ne _ _ (hng _ hg')] at hi'
      exact h.fam.ap g g' hg hg' hne i hi hi'
    · simp at hg'
      subst hg'
      rw [upd_ne _ _ (hng _ hg)] at hi
      rw [upd_same] at hi'
      have := hlt g hg i hi
      have := hft3 i hi'
      omega
    · simp at hg
      subst hg
      rw [upd_ne _ _ (hng _ hg')] at hi'
      rw [upd_same] at hi
      have := hlt g' hg' i hi'
      have := hft3 i hi
      omega
    · simp at hg hg'
      exact hne (hg.trans hg'.symm)
  · rcases List.mem_append.1 hg with hg | hg
    · rw [upd_ne _ _ (hng _ hg)]
      exact h.hi g hg
    · simp at hg
      subst hg
      rw [upd_same]
      exact fun i hi => Nat.le_trans hB (hft3 i hi)
  · refine ((b2.mono hB).trans (m3.below (C := B) (fun i hi => ?_) (by omega))).trans ((e34.mono (by omega)).trans (s5.below (fun i hi => (h.row.blk hi).1) (by have := e34.size; omega)))
    rcases hi with hi | hi
    · omega
    · simp at hi
theorem hs_row {B : Nat} {w w2 w3 : World} {gs : List Nat} {qq : Option Addr} {cq : Nat} {qf : Nat → Option Addr} {cf : Nat → Nat} {lf : Nat → List Int} {o : Obj} (h : HS1 B w gs qq cq qf cf lf) (b2 : Below w.heap.size w w2) {q3 : Option Addr} (m3 : Mv w2 w3 w.heap.size none q3) : OwnK encG 24 1 B (w3.alloc o) qq cq gs := h.row.keep fun i hi => by
  have hlt := (h.row.blk hi).2
  have hs2 := b2.size
  have hs3 := m3.1.size
  rw [(alloc_b w3 o).block i (by omega), m3.1.block i (fun hf => by
    rcases hf with hf | hf
    · omega
    · simp at hf) (by omega), b2.block i hlt]
theorem QIn.hp {α : Type} [Inhabited α] {enc : α → List Value} {e k tq : Nat} {w w' : World} {L : Nat} {q : Option Addr} {cap m : Nat} {l : List α} (h : QIn enc e k tq w L q cap m l) (he : w'.heap = w.heap) : QIn enc e k tq w' L q cap m l := by
  obtain ⟨h1, h2, h3⟩ := h
  exact ⟨by rw [he]; exact h1, own_heap he h2, h3⟩
theorem below_hp {C : Nat} {w w1 w' : World} (e1 : w1.heap = w.heap) (e2 : w1.os = w.os) (e3 : w1.tape = w.tape) (e4 : w1.output = w.output) (h : Below C w1 w') : Below C w w' := ⟨h.os.trans e2, h.tape.trans e3, h.output.trans e4, by rw [← e1]; exact h.size, by rw [← e1]; exact h.block⟩
theorem below_hp2 {C : Nat} {w w1 w' : World} (h : Below C w w1) (e1 : w'.heap = w1.heap) (e2 : w'.os = w1.os) (e3 : w'.tape = w1.tape) (e4 : w'.output = w1.output) : Below C w w' := ⟨e2.trans h.os, e3.trans h.tape, e4.trans h.output, by rw [e1]; exact h.size, by rw [e1]; exact h.block⟩
theorem SlOf.hpS {α : Type} [Inhabited α] {enc : α → List Value} {k : Nat} {w w' : World} {q : Option Addr} {c : Nat} {l : List α} (h : SlOf enc k w q c l) (he : w'.heap = w.heap) : SlOf enc k w' q c l := by
  refine ⟨h.1, h.2.1, h.2.2.1, fun h0 => ?_⟩
  obtain ⟨b, off, h1, h2, h3⟩ := h.2.2.2 h0
  refine ⟨b, off, h1, by rw [he]; exact h2, fun j u hj => ?_⟩
  have := h3 j u hj
  unfold World.cell? at this ⊢
  rw [he]
  exact this
/-- The least of the lengths, and 16. -/
def ml (hs : List Hl) : Nat := hs.foldl (fun a h => min a (min h.l.length 16)) 16
theorem ml_snoc {hs : List Hl} {k : Nat} {h : Hl} (hk : hs[k]? = some h) : ml (hs.take (k + 1)) = min (ml (hs.take k)) (min h.l.length 16) := by
  unfold ml
  rw [take_snoc_of hk, List.foldl_append]
  rfl
theorem fold_le (hs : List Hl) : ∀ a : Nat, hs.foldl (fun a h => min a (min h.l.length 16)) a ≤ a ∧ (∀ h ∈ hs, hs.foldl (fun a h => min a (min h.l.length 16)) a ≤ min h.l.length 16) ∧ (hs.foldl (fun a h => min a (min h.l.length 16)) a = a ∨ ∃ h ∈ hs, hs.foldl (fun a h => min a (min h.l.length 16)) a = min h.l.length 16) := by
  induction hs with
  | nil => exact fun a => ⟨Nat.le_refl _, fun h hh => by simp at hh, Or.inl rfl⟩
  | cons x r ih =>
    intro a
    obtain ⟨h1, h2, h3⟩ := ih (min a (min x.l.length 16))
    simp only [List.foldl_cons]
    refine ⟨by omega, fun h hh => ?_, ?_⟩
    · rcases List.mem_cons.1 hh with e | hh
      · rw [e]
        clear h3
        omega
      · exact h2 h hh
    · rcases h3 with h3 | ⟨h, hh, h3⟩
      · by_cases hm : a ≤ min x.l.length 16
        · exact Or.inl (by rw [h3]; omega)
        · exact Or.inr ⟨x, by simp, by rw [h3]; omega⟩
      · exact Or.inr ⟨h, by simp [hh], h3⟩
theorem ml_le (hs : List Hl) : ml hs ≤ 16 := (fold_le hs 16).1
theorem ml_mem {hs : List Hl} {h : Hl} (hh : h ∈ hs) : ml hs ≤ min h.l.length 16 := (fold_le hs 16).2.1 h hh
theorem ml_some {hs : List Hl} (h0 : 0 < hs.length) : ∃ h ∈ hs, ml hs = min h.l.length 16 := by
  rcases (fold_le hs 16).2.2 with h | h
  · have hm : hs[0] ∈ hs := List.getElem_mem h0
    have := ml_mem hm
    have he : ml hs = 16 := h
    exact ⟨hs[0], hm, by omega⟩
  · exact h
theorem nodup_count {gs : List Nat} (h : gs.Nodup) {g : Nat} (hg : g ∈ gs) : gs.count g = 1 := by
  have h1 := List.nodup_iff_count.1 h g
  have h2 := List.count_pos_iff.2 hg
  omega
theorem nodup_count0 {gs : List Nat} (h : gs.Nodup) {k x : Nat} (hx : gs[k]? = some x) : (gs.take k).count x = 0 := by
  have h1 := nodup_count h (List.mem_of_getElem? hx)
  have h2 := count_take_le gs (k + 1) x
  have h3 : (gs.take (k + 1)).count x = (gs.take k).count x + 1 := by have := congrFun (count_snoc hx) x; simpa [upN] using this
  omega
end Go.Proofs.Ytfenkiplofnolaa
