/- What Path answers, for every number. -/
import Derived.Test.YtjclojeihjgnkaaDoorCover
namespace Go.Proofs.YtjclojeihjgnkaaDoor
open Go.RowKit

/-- The first k spans that have the place p lie in the block b, the others are still zero; all may be written. -/
def PthAt (w : World) (b p k : Nat) : Prop :=
  (∀ j, j < 33 → w.cell? ⟨b, j * 2, none⟩ = some (.int .i64 ((if j < k then j else 0 : Nat) : Int)) ∧ w.cell? ⟨b, j * 2 + 1, none⟩ = some (.int .i64 ((if j < k then p / 2 ^ j else 0 : Nat) : Int))) ∧ (∀ o, w.frozen? ⟨b, o, none⟩ = false) ∧ b < w.heap.size
theorem PthAt.below {w w' : World} {b p k : Nat} (h : PthAt w b p k) (hb : Below w.heap.size w w') : PthAt w' b p k :=
  ⟨fun j hj => ⟨(hb.cell (p := ⟨b, j * 2, none⟩) h.2.2).trans (h.1 j hj).1, (hb.cell (p := ⟨b, j * 2 + 1, none⟩) h.2.2).trans (h.1 j hj).2⟩, fun o => (hb.frozen (p := ⟨b, o, none⟩) h.2.2).trans (h.2.1 o), Nat.lt_of_lt_of_le h.2.2 hb.size⟩
theorem far (w : World) (b o o' : Nat) (v : Value) (h : o ≠ o') : (w.setCell ⟨b, o, none⟩ v).cell? ⟨b, o', none⟩ = w.cell? ⟨b, o', none⟩ := World.cell?_setCell_other w ⟨b, o, none⟩ ⟨b, o', none⟩ v (by intro g; injection g; omega)
theorem near {w : World} {b o : Nat} {u : Value} (v : Value) (h : w.cell? ⟨b, o, none⟩ = some u) : (w.setCell ⟨b, o, none⟩ v).cell? ⟨b, o, none⟩ = some v := World.cell?_setCell_same w ⟨b, o, none⟩ v h
theorem PthAt.put {w : World} {b p k : Nat} (h : PthAt w b p k) : PthAt ((w.setCell ⟨b, k * 2, none⟩ (.int .i64 k)).setCell ⟨b, k * 2 + 1, none⟩ (.int .i64 ((p / 2 ^ k : Nat) : Int))) b p (k + 1) := by
  refine ⟨fun j hj => ?_, fun o => by simpa using h.2.1 o, by simpa [World.setCell] using h.2.2⟩
  obtain ⟨h0, h1⟩ := h.1 j hj
  by_cases e : j = k
  · subst e
    refine ⟨?_, ?_⟩
    · rw [far _ _ _ _ _ (by omega), near _ h0]
      simp
    · rw [near _ ((far w b (j * 2) (j * 2 + 1) _ (by omega)).trans h1)]
      simp
  · have e2 : (j < k + 1) = (j < k) := by simp; omega
    refine ⟨?_, ?_⟩
    · rw [far _ _ _ _ _ (by omega), far _ _ _ _ _ (by omega), h0]
      simp [e2]
    · rw [far _ _ _ _ _ (by omega), far _ _ _ _ _ (by omega), h1]
      simp [e2]

theorem makeP : ∃ cur : Array Value, (∀ j, j < 66 → cur[j]? = some (.int .i64 0)) ∧ ∀ W : World, (Instr.makeSlice 38 (.int .i64 33) (.int .i64 33)).run Tryd.prog W = .ok (.slice (some ⟨W.heap.size, 0, none⟩) 33 33) (W.alloc (.cells cur 23)) := by
  obtain ⟨i0, hi, hz0, hz1, hz2⟩ := info_parts Tryd.info23
  refine ⟨madeCells (Value.cells (.agg #[.int .i64 0, .int .i64 0])) (33 * i0.size), fun j hj => ?_, fun W => ?_⟩
  · rw [hz1]
    have hm : ∀ t, t < 2 → (Value.cells (.agg #[.int .i64 0, .int .i64 0]))[t]! = .int .i64 0 := by
      intro t ht
      have : t = 0 ∨ t = 1 := by omega
      rcases this with e | e <;> subst e <;> rfl
    rw [Array.getElem?_eq_getElem (by rw [size_madeCells]; omega)]
    simp only [madeCells, Array.getElem_map, Array.getElem_range]
    exact congrArg some (hm _ (Nat.mod_lt _ (by decide)))
  · have := run_make (P := Tryd.prog) W 38 23 i0 _ Tryd.underlying38 hi hz0 .i64 .i64 33 33 (by omega) (by omega) (by rw [hz2]; omega) (by omega)
    exact this
theorem PthAt.new (w : World) (p : Nat) (cur : Array Value) (h : ∀ j, j < 66 → cur[j]? = some (.int .i64 0)) : PthAt (w.alloc (.cells cur 23)) w.heap.size p 0 := by
  refine ⟨fun j hj => ?_, fun o => by simp, by simp⟩
  simp [h (j * 2) (by omega), h (j * 2 + 1) (by omega)]
theorem path_none (x : Int) (h : ¬ (-2147483648 ≤ x ∧ x ≤ 2147483647)) (w : World) :
    Calls Tryd.prog 23 #[.int .i64 x] w fun e w' => e = .returned (.slice none 0 0) ∧ w' = w := by
  have hn : ∀ w, Calls Tryd.prog 27 #[.int .i64 x] w fun e w' => e = .returned (.bool false) ∧ w' = w := fun w => (isNumber_any x w).mono fun e w' ⟨he, hw⟩ => ⟨by rw [he]; simp; omega, hw⟩
  clear h
  go_enter Tryd.func23, Tryd.ntmps23
  go_wp2_with (go_at_call 27; refine (hn _).mono ?_; rintro e w1 ⟨rfl, rfl⟩)
  go_ret
  exact ⟨rfl, rfl⟩

set_option maxHeartbeats 1000000 in
theorem path_any (x : Int) (p : Nat) (h : x + 2147483648 = p) (hp : p < 4294967296) (w : World) :
    Calls Tryd.prog 23 #[.int .i64 x] w fun e w' => e = .returned (.slice (some ⟨w.heap.size, 0, none⟩) 33 33) ∧ PthAt w' w.heap.size p 33 ∧ Below w.heap.size w w' := by
  have hn : ∀ w, Calls Tryd.prog 27 #[.int .i64 x] w fun e w' => e = .returned (.bool true) ∧ w' = w := fun w => (isNumber_any x w).mono fun e w' ⟨he, hw⟩ => ⟨by rw [he]; simp; omega, hw⟩
  obtain ⟨cur, hcur, hmk⟩ := makeP
  go_enter Tryd.func23, Tryd.ntmps23
  go_wp2_with (go_at_call 27; refine (hn _).mono ?_; rintro e w1 ⟨rfl, hw1⟩; rw [hw1])
  go_loopw [11] (fun i wr => ∃ k : Nat, k ≤ 33 ∧ i = .int .i64 k ∧ PthAt wr w.heap.size p k ∧ Below w.heap.size w wr) (fun i _ => 33 - (intOf i).toNat)
  case atStart => exact ⟨0, by omega, rfl, PthAt.new _ _ _ hcur, (Below.refl _ _).alloc (Nat.le_refl _) _⟩
  case round =>
    obtain ⟨k, hk, rfl, hP, hbel⟩ := hrel
    by_cases hlt : k < 33
    · have hat := at_any k p x h (by omega) (by omega)
      have HP := hide hP
      have HX := hide (And.intro hbel h)
      clear hP h
      have ki : (k : Int) < 33 := by omega
      obtain ⟨J, hJ⟩ : ∃ J, p / 2 ^ k = J := ⟨_, rfl⟩
      rw [hJ] at hat
      have HJ := hide hJ
      clear hJ
      go_wp2_with (go_at_call 29; refine (hat _).mono ?_; rintro e w2 ⟨rfl, hb2⟩; have P2 := (unhide HP).below hb2; have f0 := P2.2.1; obtain ⟨g0, g1⟩ := P2.1 k (by omega))
      refine ⟨⟨k + 1, by omega, by simp, ?_, ((below_sub (unhide HX).1 hb2).setCell (by simp) _).setCell (by simp) _⟩, by simp [intOf]; omega⟩
      rw [← unhide HJ]
      exact P2.put
    · obtain rfl : k = 33 := by omega
      have HP := hide hP
      clear hP
      go_wp2
      go_ret
      exact ⟨rfl, unhide HP, hbel⟩
end Go.Proofs.YtjclojeihjgnkaaDoor
