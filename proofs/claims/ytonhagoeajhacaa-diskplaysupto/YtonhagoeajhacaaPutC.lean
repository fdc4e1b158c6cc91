/- disk.put. -/
import Derived.Test.YtonhagoeajhacaaPut
namespace Go.Proofs.Ytonhagoeajhacaa
open Go.RowKit Go.Sort Go.Shelf

set_option maxHeartbeats 1000000 in
set_option maxRecDepth 100000 in
/-- put: the map alone turns, besides new memory. -/
theorem put_any {w : World} {g m n : Nat} {f : ByteArray → Option Nat} {a0 a1 a2 a3 : Value} (hbox : w.heap[g]? = some (.cells #[a0, a1, a2, a3, .map (some m)] 46 (0, 0))) (hm : FM w m n f) (hn : n < maxLen) (nm : ByteArray) (hs : nm.size ≤ 32) (nh : Nat) :
    Calls Try.prog 36 #[.pointer (some ⟨g, 0, none⟩), .string nm, .pointer (some ⟨nh, 0, none⟩)] w fun e w' => (∃ v, e = .returned v) ∧ ∃ w1, Below w.heap.size w w1 ∧ FM w' m (n + 1) (upd f nm (some nh)) ∧ w1.grownBy w' (some m) := by
  have hcl := fun W : World => strClone nm (by omega) W
  have hcell : ∀ W, Below w.heap.size w W → W.cell? ⟨g, 4, none⟩ = some (.map (some m)) := fun W hW => (cells5 ((hW.block g (Array.getElem?_eq_some_iff.1 hbox).1).trans hbox)).1.2.2.2.2
  have hgm : g ≠ m := fun e => by
    subst e
    obtain ⟨es, cl, h9⟩ := hm.is_map
    rw [hbox] at h9
    cases h9
  have hput : ∀ W, Below w.heap.size w W → ∃ w', (Instr.mapUpdate 44 (.map (some m)) (.string nm) (.pointer (some ⟨nh, 0, none⟩))).run Try.prog W = .ok () w' ∧ w'.cell? ⟨g, 4, none⟩ = some (.map (some m)) ∧ FM w' m (n + 1) (upd f nm (some nh)) ∧ W.grownBy w' (some m) := fun W hW => by
    obtain ⟨w', h1, h2, h3⟩ := (hm.below hW).put hn (nm := nm) (by unfold maxLen; omega) nh
    have hlt := (Array.getElem?_eq_some_iff.1 hbox).1
    exact ⟨w', h1, (cells5 ((h3.block g (Nat.lt_of_lt_of_le hlt hW.size) (by intro e; injection e with e; exact hgm e)).trans ((hW.block g hlt).trans hbox))).1.2.2.2.2, h2, h3⟩
  have HC := hide hcell
  have HP := hide hput
  have c0 := hcell w (Below.refl _ _)
  clear hbox hm hcell hput hgm
  go_enter Try.func36, Try.ntmps36
  go_wp2
  go_region_held3 (fun W => W.cell? ⟨g, 4, none⟩ = some (.map (some m)))
    (first | with_reducible exact unhide K1 | with_reducible exact unhide K2 | exact unhide HC _ (unhide B1) | exact unhide HC _ (Below.refl _ _).drew | exact unhide HC _ (Below.refl _ _))
    ((go_at_call 54; refine (hcl _).mono ?_; rintro e w1 ⟨rfl, b1⟩; have b1' := below_undrew b1; obtain ⟨v1, r1, k1, f1, g1⟩ := unhide HP w1 b1'; obtain ⟨v2, r2, k2, f2, g2⟩ := unhide HP w1.drew b1'.drew; have B1 := hide b1'; have K1 := hide k1; have K2 := hide k2; clear k1 k2; have F1 := hide f1; have F2 := hide f2; have G1 := hide g1; have G2 := hide g2; clear b1 b1' f1 f2 g1 g2))
  all_goals
    go_wp2
    go_end0
    first | exact ⟨⟨_, rfl⟩, w1, unhide B1, unhide F1, unhide G1⟩ | exact ⟨⟨_, rfl⟩, w1.drew, (unhide B1).drew, unhide F2, unhide G2⟩
end Go.Proofs.Ytonhagoeajhacaa
