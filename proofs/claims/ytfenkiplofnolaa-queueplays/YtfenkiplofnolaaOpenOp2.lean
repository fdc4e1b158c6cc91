/- A script of calls among the arguments, with the sizes of what it hands in. -/
import Derived.Test.YtfenkiplofnolaaOpenOps
import Derived.Test.YtfenkiplofnolaaOpen2
namespace Go.Proofs.Ytfenkiplofnolaa
open Go.ChangeShapes Go.WideShapes Go.ChangeAt Go.RowKit Go.Joins

theorem Try.bytes32 : Try.prog.bytesOf 32 = 48 := by kernel_rfl
set_option maxRecDepth 100000 in
theorem open_op2 {H : Type} {enc : TypeId × Value → H} {W : World} {base : Nat} {sp : Nat → Bool} {held : Bool} {fuel : Nat} {cs : List Value} {x : DataW H × List MemPlace} (h : DataW.trod enc Try.prog W base sp held fuel 32 cs = some x) (hl : cs.length = 4) :
    ∃ v : Oq, cs = encO v ∧ SlOf encI 1 W v.q v.c v.l ∧ (v.l = [] ∨ ∃ y0 y1 D E y3, x.1 = .agg [y0, y1, .slice D E, y3] ∧ D.length = v.l.length) := by
  obtain ⟨y0, y1, y2, y3, n, hn, hx, h0, h1, h2, h3⟩ := trod_four Try.underlying32 h
  match cs, hl with
  | [c0, c1, c2, c3], _ =>
    simp only [Try.cells3, Try.cells30, List.drop, List.take] at h0 h1 h2 h3
    obtain ⟨kd, e0, _, _⟩ := DataW.trod_int Try.underlying3 h0
    obtain ⟨wh, e1, _, _⟩ := DataW.trod_int Try.underlying3 h1
    obtain ⟨pi, ci, is, e2, s2, g2⟩ := open_sl (enc' := encI) Try.underlying30 Try.cells3 (by decide) dec_int h2
    obtain ⟨nn, e3, _, _⟩ := DataW.trod_int Try.underlying3 h3
    simp only [List.cons.injEq, and_true] at e0 e1 e3
    subst e0 e1 e2 e3
    refine ⟨⟨kd, wh, pi, ci, is, nn⟩, rfl, s2, ?_⟩
    rcases g2 with g2 | ⟨D, E, hD, hDl⟩
    · exact Or.inl g2
    · exact Or.inr ⟨y0.1, y1.1, D, E, y3.1, by rw [hx, hD], hDl⟩
theorem open_ops2 {H : Type} {enc : TypeId × Value → H} {W : World} {base : Nat} {sp : Nat → Bool} {held : Bool} {fuel : Nat} {v : Value} {x : DataW H × List MemPlace} (h : DataW.trod enc Try.prog W base sp held fuel 22 [v] = some x) :
    ∃ q c ops, v = .slice q ops.length c ∧ OpsOf W q c ops ∧ (ops = [] ∨ ∃ D E, x.1 = .slice D E ∧ D.length = ops.length ∧ ∀ o ∈ ops, o.l = [] ∨ ∃ y0 y1 D' E' y3, DataW.agg [y0, y1, .slice D' E', y3] ∈ D ∧ D'.length = o.l.length) := by
  obtain ⟨qk, ck, vs, e2, s3, g3⟩ := open_slD (enc' := encO) (P := fun u d => SlOf encI 1 W u.q u.c u.l ∧ (u.l = [] ∨ ∃ y0 y1 D E y3, d = .agg [y0, y1, .slice D E, y3] ∧ D.length = u.l.length)) Try.underlying22 Try.cells32 (by decide) (fun m hm cs x hx hl => by
    obtain ⟨u, hv, h1, h2⟩ := open_op2 hx hl
    refine ⟨u, fun c hc => ?_, h1, h2⟩
    rw [hv]
    have hlen : c < (encO u).length := by simp [encO]; omega
    rw [List.getElem?_eq_getElem hlen, getElem!_pos (encO u) c hlen]) h
  rcases g3 with rfl | ⟨D, E, hD, hlD, hP⟩
  · exact ⟨qk, ck, [], e2, ⟨s3, fun h hh => by simp at hh⟩, Or.inl rfl⟩
  · have hall : ∀ y ∈ vs, SlOf encI 1 W y.q y.c y.l ∧ (y.l = [] ∨ ∃ y0 y1 D' E' y3, DataW.agg [y0, y1, .slice D' E', y3] ∈ D ∧ D'.length = y.l.length) := fun y hy => by
      obtain ⟨j, hj, rfl⟩ := List.mem_iff_getElem.1 hy
      have hjD : j < D.length := by omega
      obtain ⟨h5, h6⟩ := hP j vs[j] D[j] (List.getElem?_eq_getElem hj) (List.getElem?_eq_getElem hjD)
      refine ⟨h5, ?_⟩
      rcases h6 with h6 | ⟨y0, y1, D', E', y3, h6, h7⟩
      · exact Or.inl h6
      · exact Or.inr ⟨y0, y1, D', E', y3, by rw [← h6]; exact List.getElem_mem hjD, h7⟩
    exact ⟨qk, ck, vs, e2, ⟨s3, fun y hy => (hall y hy).1⟩, Or.inr ⟨D, E, hD, hlD, fun y hy => (hall y hy).2⟩⟩
/-- The size of what a call hands in. -/
theorem sized_op {H : Type} {ts : List TypeId} {ds : List (DataW H)} (h : (DataW.weightsEach Try.prog ts ds).all (· ≤ reachBytes) = true) {j : Nat} {D E D' E' : List (DataW H)} {y0 y1 y3 : DataW H} (ht : ts[j]? = some 22) (hd : ds[j]? = some (.slice D E)) (hm : DataW.agg [y0, y1, .slice D' E', y3] ∈ D) : (D'.length + E'.length) * 8 ≤ reachBytes := by
  have hb3 : Try.prog.bytesOf 3 = 8 := Try.bytes3
  have h2 : (D'.length + E'.length) * 8 ∈ DataW.weights Try.prog 32 (DataW.agg [y0, y1, .slice D' E', y3]) := by
    simp only [DataW.weights, Try.underlying32]
    refine DataW.weights_mem_each (j := 2) (t := 30) (d := .slice D' E') rfl rfl _ ?_
    simp [DataW.weights, Try.underlying30, hb3]
  have h3 := weightsAll_mem (P := Try.prog) (e := 32) hm _ h2
  have := List.all_eq_true.1 h _ (DataW.weights_mem_each ht hd ((D'.length + E'.length) * 8) (by simp [DataW.weights, Try.underlying22, h3]))
  simpa using this
end Go.Proofs.Ytfenkiplofnolaa
