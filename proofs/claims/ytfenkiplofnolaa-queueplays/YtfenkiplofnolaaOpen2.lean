/- Lists of lists among the arguments, with the sizes of the inner ones. -/
import Derived.Test.YtfenkiplofnolaaOpen
namespace Go.Proofs.Ytfenkiplofnolaa
open Go.ChangeShapes Go.WideShapes Go.ChangeAt Go.RowKit Go.Joins

theorem weightsAll_mem {H : Type} {P : Program} {e : TypeId} : ∀ {l : List (DataW H)} {d : DataW H}, d ∈ l → ∀ n ∈ d.weights P e, n ∈ DataW.weightsAll P e l
  | [], _, h, _, _ => by simp at h
  | x :: r, d, h, n, hn => by
    simp only [DataW.weightsAll, List.mem_append]
    rcases List.mem_cons.1 h with rfl | h
    · exact Or.inl hn
    · exact Or.inr (weightsAll_mem h n hn)
/-- An inner list's size. -/
theorem sized_inner {H : Type} {P : Program} {ts : List TypeId} {ds : List (DataW H)} (h : (DataW.weightsEach P ts ds).all (· ≤ reachBytes) = true) {j : Nat} {t e e' : TypeId} {D E : List (DataW H)} {D' E' : List (DataW H)} (ht : ts[j]? = some t) (hd : ds[j]? = some (.slice D E)) (hu : P.underlying t = some (.slice e)) (hm : DataW.slice D' E' ∈ D) (hu' : P.underlying e = some (.slice e')) : (D'.length + E'.length) * P.bytesOf e' ≤ reachBytes := by
  have h1 := weightsAll_mem (P := P) (e := e) hm ((D'.length + E'.length) * P.bytesOf e') (by simp [DataW.weights, hu'])
  have := List.all_eq_true.1 h _ (DataW.weights_mem_each ht hd ((D'.length + E'.length) * P.bytesOf e') (by simp [DataW.weights, hu, h1]))
  simpa using this
theorem open_hls2 {H : Type} {enc : TypeId × Value → H} {W : World} {base : Nat} {sp : Nat → Bool} {held : Bool} {fuel : Nat} {v : Value} {x : DataW H × List MemPlace} (h : DataW.trod enc Try.prog W base sp held fuel 46 [v] = some x) :
    ∃ q c hs, v = .slice q hs.length c ∧ HlsOf W q c hs ∧ (hs = [] ∨ ∃ D E, x.1 = .slice D E ∧ D.length = hs.length ∧ ∀ y ∈ hs, y.l = [] ∨ ∃ D' E', DataW.slice D' E' ∈ D ∧ D'.length = y.l.length) := by
  obtain ⟨qk, ck, hs, e2, s3, g3⟩ := open_slD (enc' := encH) (P := fun y d => SlOf encI 1 W y.q y.c y.l ∧ (y.l = [] ∨ ∃ D E, d = .slice D E ∧ D.length = y.l.length)) Try.underlying46 Try.cells30 (by decide) (fun m hm cs x hx hl => by
    obtain ⟨u, rfl⟩ := List.length_eq_one_iff.1 hl
    obtain ⟨q, c, l, rfl, h1, h2⟩ := open_sl (enc' := encI) Try.underlying30 Try.cells3 (by decide) dec_int hx
    refine ⟨⟨q, c, l⟩, fun c' hc => ?_, h1, h2⟩
    obtain rfl : c' = 0 := by omega
    rfl) h
  rcases g3 with rfl | ⟨D, E, hD, hlD, hP⟩
  · exact ⟨qk, ck, [], e2, ⟨s3, fun h hh => by simp at hh⟩, Or.inl rfl⟩
  · have hall : ∀ y ∈ hs, SlOf encI 1 W y.q y.c y.l ∧ (y.l = [] ∨ ∃ D' E', DataW.slice D' E' ∈ D ∧ D'.length = y.l.length) := fun y hy => by
      obtain ⟨j, hj, rfl⟩ := List.mem_iff_getElem.1 hy
      have hjD : j < D.length := by omega
      obtain ⟨h5, h6⟩ := hP j hs[j] D[j] (List.getElem?_eq_getElem hj) (List.getElem?_eq_getElem hjD)
      refine ⟨h5, ?_⟩
      rcases h6 with h6 | ⟨D', E', h6, h7⟩
      · exact Or.inl h6
      · exact Or.inr ⟨D', E', by rw [← h6]; exact List.getElem_mem hjD, h7⟩
    exact ⟨qk, ck, hs, e2, ⟨s3, fun y hy => (hall y hy).1⟩, Or.inr ⟨D, E, hD, hlD, fun y hy => (hall y hy).2⟩⟩
end Go.Proofs.Ytfenkiplofnolaa
