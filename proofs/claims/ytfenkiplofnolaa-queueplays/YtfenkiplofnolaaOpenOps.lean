/- How a script of calls among the arguments is opened. -/
import Derived.Test.YtfenkiplofnolaaOpen
import Derived.Test.YtfenkiplofnolaaOps
namespace Go.Proofs.Ytfenkiplofnolaa
open Go.ChangeShapes Go.WideShapes Go.ChangeAt Go.RowKit Go.Joins

theorem Try.cells32 : Try.prog.cellsOf 32 = 4 := by kernel_rfl
theorem trod_four {H : Type} {enc : TypeId × Value → H} {P : Program} {w : World} {base : Nat} {spare : Nat → Bool} {held : Bool} {t : TypeId} {f0 f1 f2 f3 : Field} {fuel : Nat} {cs : List Value} {x : DataW H × List MemPlace} (ht : P.underlying t = some (.struct #[f0, f1, f2, f3])) (h : DataW.trod enc P w base spare held fuel t cs = some x) :
    ∃ y0 y1 y2 y3 n, n < fuel ∧ x.1 = .agg [y0.1, y1.1, y2.1, y3.1] ∧ DataW.trod enc P w base spare held n f0.type ((cs.drop f0.offset).take (P.cellsOf f0.type)) = some y0 ∧ DataW.trod enc P w base spare held n f1.type ((cs.drop f1.offset).take (P.cellsOf f1.type)) = some y1 ∧ DataW.trod enc P w base spare held n f2.type ((cs.drop f2.offset).take (P.cellsOf f2.type)) = some y2 ∧ DataW.trod enc P w base spare held n f3.type ((cs.drop f3.offset).take (P.cellsOf f3.type)) = some y3 := by
  obtain ⟨xs, n, hn, rfl, hl, hlen, hf⟩ := DataW.trod_struct ht h
  match xs, hlen with
  | [y0, y1, y2, y3], _ => exact ⟨y0, y1, y2, y3, n, by omega, by simp, by simpa using hf 0 f0 rfl, by simpa using hf 1 f1 rfl, by simpa using hf 2 f2 rfl, by simpa using hf 3 f3 rfl⟩
set_option maxRecDepth 100000 in
theorem open_op {H : Type} {enc : TypeId × Value → H} {W : World} {base : Nat} {sp : Nat → Bool} {held : Bool} {fuel : Nat} {cs : List Value} {x : DataW H × List MemPlace} (h : DataW.trod enc Try.prog W base sp held fuel 32 cs = some x) (hl : cs.length = 4) :
    ∃ v : Oq, cs = encO v ∧ SlOf encI 1 W v.q v.c v.l ∧ v.l.length ≤ Rows.uptoBulk x.1 := by
  obtain ⟨y0, y1, y2, y3, n, hn, hx, h0, h1, h2, h3⟩ := trod_four Try.underlying32 h
  match cs, hl with
  | [c0, c1, c2, c3], _ =>
    simp only [Try.cells3, Try.cells30, List.drop, List.take] at h0 h1 h2 h3
    obtain ⟨kd, e0, _, _⟩ := DataW.trod_int Try.underlying3 h0
    obtain ⟨wh, e1, _, _⟩ := DataW.trod_int Try.underlying3 h1
    obtain ⟨pi, ci, is, e2, s2, g2⟩ := open_sl (enc' := encI) Try.underlying30 Try.cells3 (by decide) dec_int h2
    obtain ⟨nn, e3, _, _⟩ := DataW.trod_int Try.underlying3 h3
    simp only [List.cons.injEq, and_true] at e0 e1 e3
    subst e0 e1 e2 e3
    refine ⟨⟨kd, wh, pi, ci, is, nn⟩, rfl, s2, ?_⟩
    rw [hx]
    have b2 := bulk_sl g2
    simp only [Rows.uptoBulk, Rows.uptoBulkAll]
    omega
theorem open_ops {H : Type} {enc : TypeId × Value → H} {W : World} {base : Nat} {sp : Nat → Bool} {held : Bool} {fuel : Nat} {v : Value} {x : DataW H × List MemPlace} (h : DataW.trod enc Try.prog W base sp held fuel 22 [v] = some x) :
    ∃ q c ops, v = .slice q ops.length c ∧ OpsOf W q c ops ∧ ops.length ≤ Rows.uptoBulk x.1 ∧ ∀ o ∈ ops, o.l.length ≤ Rows.uptoBulk x.1 := by
  obtain ⟨qk, ck, vs, e2, s3, g3⟩ := open_slD (enc' := encO) (P := fun u d => SlOf encI 1 W u.q u.c u.l ∧ u.l.length ≤ Rows.uptoBulk d) Try.underlying22 Try.cells32 (by decide) (fun m hm cs x hx hl => by
    obtain ⟨u, hv, h1, h2⟩ := open_op hx hl
    refine ⟨u, fun c hc => ?_, h1, h2⟩
    rw [hv]
    have hlen : c < (encO u).length := by simp [encO]; omega
    rw [List.getElem?_eq_getElem hlen, getElem!_pos (encO u) c hlen]) h
  rcases g3 with rfl | ⟨D, E, hD, hlD, hP⟩
  · exact ⟨qk, ck, [], e2, ⟨s3, fun h hh => by simp at hh⟩, by simp, fun h hh => by simp at hh⟩
  · have hb : Rows.uptoBulkAll D ≤ Rows.uptoBulk x.1 := by rw [hD]; simp only [Rows.uptoBulk]; omega
    have hall : ∀ y ∈ vs, SlOf encI 1 W y.q y.c y.l ∧ y.l.length ≤ Rows.uptoBulk x.1 := fun y hy => by
      obtain ⟨j, hj, rfl⟩ := List.mem_iff_getElem.1 hy
      have h5 := hP j vs[j] (D[j]'(by omega)) (List.getElem?_eq_getElem hj) (List.getElem?_eq_getElem (by omega))
      have := bulk_mem (List.getElem_mem (l := D) (n := j) (by omega))
      exact ⟨h5.1, by omega⟩
    refine ⟨qk, ck, vs, e2, ⟨s3, fun y hy => (hall y hy).1⟩, ?_, fun y hy => (hall y hy).2⟩
    have := bulk_len D
    omega
end Go.Proofs.Ytfenkiplofnolaa
