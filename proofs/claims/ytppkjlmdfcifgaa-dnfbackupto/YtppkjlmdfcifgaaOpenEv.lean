/- The openers of events and values among the arguments. -/
import Derived.Test.YtppkjlmdfcifgaaOpenTree
import Derived.Test.YtppkjlmdfcifgaaEvGet
namespace Go.Proofs.Ytppkjlmdfcifgaa
open Go.ChangeShapes Go.WideShapes Go.ChangeAt Go.RowKit Go.Joins

theorem Try.cells23 : Try.prog.cellsOf 23 = 1 := by kernel_rfl
theorem Try.cells88 : Try.prog.cellsOf 88 = 3 := by kernel_rfl
theorem Try.cells90 : Try.prog.cellsOf 90 = 4 := by kernel_rfl
theorem Try.bytes48 : Try.prog.bytesOf 90 = 48 := by kernel_rfl
theorem trod_two {H : Type} {enc : TypeId × Value → H} {P : Program} {w : World} {base : Nat} {spare : Nat → Bool} {held : Bool} {t : TypeId} {f0 f1 : Field} {fuel : Nat} {cs : List Value} {x : DataW H × List MemPlace} (ht : P.underlying t = some (.struct #[f0, f1])) (h : DataW.trod enc P w base spare held fuel t cs = some x) :
    ∃ y0 y1 n, n < fuel ∧ x.1 = .agg [y0.1, y1.1] ∧ DataW.trod enc P w base spare held n f0.type ((cs.drop f0.offset).take (P.cellsOf f0.type)) = some y0 ∧ DataW.trod enc P w base spare held n f1.type ((cs.drop f1.offset).take (P.cellsOf f1.type)) = some y1 := by
  obtain ⟨xs, n, hn, rfl, hl, hlen, hf⟩ := DataW.trod_struct ht h
  match xs, hlen with
  | [y0, y1], _ => exact ⟨y0, y1, n, by omega, by simp, by simpa using hf 0 f0 rfl, by simpa using hf 1 f1 rfl⟩
set_option maxRecDepth 100000 in
/-- The three cells of a value. -/
theorem open_val {H : Type} {enc : TypeId × Value → H} {W : World} {base : Nat} {sp : Nat → Bool} {held : Bool} {fuel : Nat} {cs : List Value} {x : DataW H × List MemPlace} (h : DataW.trod enc Try.prog W base sp held fuel 88 cs = some x) (hl : cs.length = 3) :
    ∃ (k n : Int) (s : ByteArray), cs = [.int .i64 k, .int .i64 n, .string s] := by
  obtain ⟨y0, y1, y2, n, _, hx, h0, h1, h2⟩ := trod_three Try.underlying88 h
  match cs, hl with
  | [c0, c1, c2], _ =>
    simp only [Try.cells3, Try.cells9, List.drop, List.take] at h0 h1 h2
    obtain ⟨k, e0, _, _⟩ := DataW.trod_int Try.underlying3 h0
    obtain ⟨i, e1, _, _⟩ := DataW.trod_int Try.underlying3 h1
    obtain ⟨s, e2, _, _⟩ := DataW.trod_string Try.underlying9 h2
    simp only [List.cons.injEq, and_true] at e0 e1 e2
    exact ⟨k, i, s, by rw [e0, e1, e2]⟩
set_option maxRecDepth 100000 in
theorem open_pair {H : Type} {enc : TypeId × Value → H} {W : World} {base : Nat} {sp : Nat → Bool} {held : Bool} {fuel : Nat} {cs : List Value} {x : DataW H × List MemPlace} (h : DataW.trod enc Try.prog W base sp held fuel 90 cs = some x) (hl : cs.length = 4) : ∃ y : Pr, cs = encP y := by
  obtain ⟨y0, y1, n, _, hx, h0, h1⟩ := trod_two Try.underlying90 h
  match cs, hl with
  | [c0, c1, c2, c3], _ =>
    simp only [Try.cells9, Try.cells88, List.drop, List.take] at h0 h1
    obtain ⟨s, e0, _, _⟩ := DataW.trod_string Try.underlying9 h0
    obtain ⟨k, i, s2, e1⟩ := open_val h1 rfl
    simp only [List.cons.injEq, and_true] at e0 e1
    exact ⟨⟨s, k, i, s2⟩, by rw [e0, e1.1, e1.2.1, e1.2.2]; rfl⟩
theorem open_prsD {H : Type} {enc : TypeId × Value → H} {W : World} {base : Nat} {sp : Nat → Bool} {held : Bool} {fuel : Nat} {v : Value} {x : DataW H × List MemPlace} (h : DataW.trod enc Try.prog W base sp held fuel 23 [v] = some x) :
    ∃ q c l, v = .slice q l.length c ∧ SlOf encP 4 W q c l ∧ l.length ≤ Rows.uptoBulk x.1 := by
  obtain ⟨qk, ck, vs, e2, s3, g3⟩ := open_slD (enc' := encP) (P := fun _ _ => True) Try.underlying23 Try.cells90 (by decide) (fun m _ cs x hx hl => by
    obtain ⟨y, hv⟩ := open_pair hx hl
    refine ⟨y, fun c hc => ?_, trivial⟩
    rw [hv]
    have hlen : c < (encP y).length := by simp [encP]; omega
    rw [List.getElem?_eq_getElem hlen, getElem!_pos (encP y) c hlen]) h
  refine ⟨qk, ck, vs, e2, s3, ?_⟩
  rcases g3 with rfl | ⟨D, E, hD, hlD, _⟩
  · simp
  · rw [hD, ← hlD]
    have := bulk_len D
    simp only [Rows.uptoBulk]
    omega
end Go.Proofs.Ytppkjlmdfcifgaa
