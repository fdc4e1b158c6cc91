/- Events by the list, read from memory. -/
import Derived.Test.YtppkjlmdfcifgaaOpenEv
import Derived.Test.YtppkjlmdfcifgaaDnfMeansLaw
namespace Go.Proofs.Ytppkjlmdfcifgaa
open Go.RowKit Go.Sort

theorem bulk_mem {H : Type} {D : List (DataW H)} {d : DataW H} (h : d ∈ D) : Rows.uptoBulk d ≤ Rows.uptoBulkAll D := by
  induction D with
  | nil => simp at h
  | cons a D ih =>
    simp only [Rows.uptoBulkAll]
    rcases List.mem_cons.1 h with rfl | h
    · omega
    · have := ih h; omega
theorem open_prss {H : Type} {enc : TypeId × Value → H} {W : World} {base : Nat} {sp : Nat → Bool} {held : Bool} {fuel : Nat} {v : Value} {x : DataW H × List MemPlace} (h : DataW.trod enc Try.prog W base sp held fuel 77 [v] = some x) :
    ∃ q c evs, v = .slice q evs.length c ∧ EvsOf W q c evs ∧ evs.length ≤ Rows.uptoBulk x.1 ∧ ∀ ev ∈ evs, ev.length ≤ Rows.uptoBulk x.1 := by
  obtain ⟨qk, ck, vs, e2, s3, g3⟩ := open_slD (enc' := encQ) (P := fun u d => ∃ ev : List Pr, u.2.1 = ev.length ∧ SlOf encP 4 W u.1 u.2.2 ev ∧ ev.length ≤ Rows.uptoBulk d) Try.underlying77 Try.cells23 (by decide) (fun m hm cs x hx hl => by
    obtain ⟨u, rfl⟩ := List.length_eq_one_iff.1 hl
    obtain ⟨q, c, l, rfl, h1, h2⟩ := open_prsD hx
    refine ⟨(q, l.length, c), fun c' hc => ?_, l, rfl, h1, h2⟩
    obtain rfl : c' = 0 := by omega
    rfl) h
  rcases g3 with rfl | ⟨D, E, hD, hlD, hP⟩
  · exact ⟨qk, ck, [], e2, ⟨[], s3, rfl, fun j v t hj _ => by simp at hj⟩, by simp, fun ev h => by simp at h⟩
  · have hth : ∀ i, i < vs.length → ∃ t : List Pr, ∀ u d, vs[i]? = some u → D[i]? = some d → u.2.1 = t.length ∧ SlOf encP 4 W u.1 u.2.2 t ∧ t.length ≤ Rows.uptoBulk d := fun i hi => by
      obtain ⟨t, ht⟩ := hP i vs[i] (D[i]'(by omega)) (List.getElem?_eq_getElem hi) (List.getElem?_eq_getElem (by omega))
      exact ⟨t, fun v d hv hd => by
        rw [List.getElem?_eq_getElem hi] at hv
        rw [List.getElem?_eq_getElem (by omega)] at hd
        cases hv; cases hd; exact ht⟩
    obtain ⟨f, hf⟩ := Go.Deep.choose_lt hth
    have hb : Rows.uptoBulkAll D ≤ Rows.uptoBulk x.1 := by rw [hD]; simp only [Rows.uptoBulk]; omega
    refine ⟨qk, ck, (List.range vs.length).map f, by simpa using e2, ⟨vs, s3, by simp, fun j v t hj ht => ?_⟩, ?_, ?_⟩
    · obtain ⟨hjl, rfl⟩ := range_at ht
      have := hf j hjl v (D[j]'(by omega)) hj (List.getElem?_eq_getElem (by omega))
      exact ⟨this.1, this.2.1⟩
    · have := bulk_len D
      simp
      omega
    · intro ev hev
      obtain ⟨j, hj, rfl⟩ := List.mem_map.1 hev
      have hjl := List.mem_range.1 hj
      have := (hf j hjl vs[j] (D[j]'(by omega)) (List.getElem?_eq_getElem hjl) (List.getElem?_eq_getElem (by omega))).2.2
      have := bulk_mem (List.getElem_mem (l := D) (n := j) (by omega))
      omega
end Go.Proofs.Ytppkjlmdfcifgaa
