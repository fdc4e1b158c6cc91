/- OverInts and OverWords write a row of the caller's own, and nothing else. -/
import Derived.Test.YtonhagoeajhacaaM1
import Derived.Maps.AppendAt
namespace Go.Proofs.Ytonhagoeajhacaa.Ov
open Go.RowKit Go.Sort Go.Shelf

/-- A row of the call's own, whatever it holds. -/
def RawK (e : TypeId) (B : Nat) (w : World) (q : Option Addr) (n cap : Nat) : Prop := ∃ xs, w.ownsRow B e 1 (.slice q n cap) n xs
theorem RawK.cell {e : TypeId} {B : Nat} {w : World} {g n cap : Nat} (h : RawK e B w (some ⟨g, 0, none⟩) n cap) (t : Nat) (ht : t < n) : (∃ v, w.cell? ⟨g, t, none⟩ = some v) ∧ w.frozen? ⟨g, t, none⟩ = false := by
  obtain ⟨xs, h⟩ := h
  rcases h.2 with ⟨h0, _⟩ | ⟨g', cap', cur, hv, _, hblk, hc, _, hs, _⟩
  · cases h0
  · injection hv with h1 h2 h3
    cases h1
    have hlt : t < cur.size := by rw [hs]; omega
    exact ⟨⟨cur[t], by rw [cell_of_row w g t cur e (0, 0) hblk]; exact Array.getElem?_eq_getElem hlt⟩, frozen_free hblk⟩
theorem RawK.set {e : TypeId} {B : Nat} {w : World} {g n cap : Nat} (h : RawK e B w (some ⟨g, 0, none⟩) n cap) (j : Nat) (u : Value) : RawK e B (w.setCell ⟨g, j, none⟩ u) (some ⟨g, 0, none⟩) n cap := by
  obtain ⟨xs, h⟩ := h
  exact ⟨_, (h.stored j u).1⟩
theorem OwnK.rawTake {α : Type} [Inhabited α] {enc : α → List Value} {e : TypeId} {B : Nat} {w : World} {g cap : Nat} {l m : List α} (h : OwnK enc e 1 B w (some ⟨g, 0, none⟩) cap (l ++ m)) : RawK e B w (some ⟨g, 0, none⟩) l.length cap := by
  rcases h.2 with ⟨h0, _⟩ | ⟨g', cap', cur, hv, hB, hblk, hc, hm, hs, _⟩
  · cases h0
  · injection hv with h1 h2 h3
    cases h1
    subst h3
    rw [List.length_append] at hc
    exact ⟨cur.toList.take (l.length * 1), by simp [hs]; omega, Or.inr ⟨g, cap, cur, rfl, hB, hblk, by omega, hm, hs, rfl⟩⟩
theorem grown_set {w w' : World} {g : Nat} (h : w.grownBy w' (some g)) (o : Nat) (v : Value) : w.grownBy (w'.setCell ⟨g, o, none⟩ v) (some g) := by
  have hb := (Below.refl 0 w').setCell (p := ⟨g, o, none⟩) (Nat.zero_le _) v
  exact ⟨hb.os.trans h.os, hb.tape.trans h.tape, hb.output.trans h.output, Nat.le_trans h.size hb.size, fun k hk hne => (Below.heap_setCell _ _ _ _ (fun e => hne (by rw [e]))).trans (h.block k hk hne)⟩
theorem grown_two {w w1 w2 : World} {r r2 : Option Nat} (h : w.grownBy w1 r) (h2 : w1.grownBy w2 r2) (hr : ∀ k, r2 = some k → r = some k ∨ w.heap.size ≤ k) : w.grownBy w2 r :=
  ⟨h2.os.trans h.os, h2.tape.trans h.tape, h2.output.trans h.output, Nat.le_trans h.size h2.size, fun k hk hne => (h2.block k (Nat.lt_of_lt_of_le hk h.size) (fun e => by
    rcases hr k e.symm with h3 | h3
    · exact hne h3.symm
    · omega)).trans (h.block k hk hne)⟩
theorem grown_refl (w : World) (r : Option Nat) : w.grownBy w r := ⟨rfl, rfl, rfl, Nat.le_refl _, fun _ _ _ => rfl⟩
theorem grown_alloc (w : World) (o : Obj) (r : Option Nat) : w.grownBy (w.alloc o) r := World.grownBy_alloc w o r
def nw2S : Array Value := #[.string ⟨#[103, 114, 111, 119, 110]⟩, .string ⟨#[109, 111, 114, 101]⟩]
set_option maxHeartbeats 2000000 in
set_option maxRecDepth 100000 in
theorem overS (B g n cap : Nat) (w : World) (hl : n * 16 + 64 ≤ 140737488355328) (hB : B ≤ w.heap.size) (hR : RawK 9 B w (some ⟨g, 0, none⟩) n cap) :
    Calls Try.prog 45 #[.slice (some ⟨g, 0, none⟩) n cap] w fun e w' => e = .returned (.tuple #[]) ∧ w.grownBy w' (some g) := by
  have mixed : Try.prog.follows .mixedOrders = true := by kernel_rfl
  have HR := hide hR
  have n0 : (0 : Int) ≤ (n : Int) := by omega
  have n9 : (n : Int) ≤ 140737488355328 := by omega
  obtain ⟨i0, hi, hz0, hz1, hz2⟩ := info_parts Try.info9
  have Hi := hide hi
  have Hz := hide (And.intro hz0 (And.intro hz1 hz2))
  clear hR hi hz0 hz1 hz2
  go_enter Try.func45, Try.ntmps45
  go_wp2
  go_loopw [6] (fun i wr => ∃ k : Nat, k ≤ n ∧ i = .int .i64 k ∧ Hid (RawK 9 B wr (some ⟨g, 0, none⟩) n cap) ∧ Hid (w.grownBy wr (some g))) (fun i _ => n - (intOf i).toNat)
  case atStart => exact ⟨0, by omega, rfl, HR, hide (grown_refl _ _)⟩
  case round =>
    obtain ⟨k, hk, rfl, Hrow, Hgr⟩ := hrel
    by_cases hlt : k < n
    · have k0 : (0 : Int) ≤ (k : Int) := by omega
      have k1 : (k : Int) < (n : Int) := by omega
      obtain ⟨⟨v0, cc0⟩, ff0⟩ := (unhide Hrow).cell k hlt
      go_wp2
      exact ⟨⟨k + 1, by omega, congrArg (Value.int .i64) (by omega), hide ((unhide Hrow).set _ _), hide (grown_set (unhide Hgr) _ _)⟩, by simp [intOf]; omega⟩
    · obtain rfl : k = n := by omega
      have n1 : (k : Int) < (k : Int) + 2 := by omega
      obtain ⟨xs, hxs⟩ := unhide Hrow
      have Hxs := hide hxs
      clear hxs
      go_wp2_with (at_builtin; refine wpList_append_own_at _ rfl _ _ 51 rfl B 9 i0 (.string ⟨#[]⟩) 1 16 Try.underlying51 (unhide Hi) (unhide Hz).1 (unhide Hz).2.1 (unhide Hz).2.2 rfl (by decide) _ k xs rfl (World.ownsRow.alloc (unhide Hxs) _) ⟨wr.heap.size, 0, none⟩ 2 2 nw2S.toList rfl rfl (World.news_of_block (heap_alloc_new wr _)) (by decide) (by unfold maxLen; omega) (by omega) (by have := (unhide Hgr).size; simp; omega) ?_; intro v' w2 hown hgrow hnil hat; (obtain ⟨g2, cp2, rfl, hB2, hlt2⟩ := hown.form (by omega)); (obtain ⟨⟨vv, cc⟩, ff⟩ := RawK.cell ⟨_, hown⟩ k (by omega)); have Hgrow := hide hgrow; have Hat := hide hat; clear hown hgrow hnil hat)
      have Hend : Hid (w.grownBy (w2.setCell ⟨g2, k, none⟩ (.string ⟨#[103, 114, 111, 119, 110, 32, 115, 116, 105, 108, 108]⟩)) (some g)) := hide (by
        have h1 := grown_two (unhide Hgr) (grown_alloc wr (.cells nw2S 9) none) (fun j hj => by cases hj)
        have h2 := grown_two h1 (unhide Hgrow) (fun j hj => Or.inl hj)
        refine grown_two h2 (grown_set (grown_refl w2 (some g2)) _ _) (fun j hj => ?_)
        cases hj
        rcases unhide Hat with h | h
        · exact Or.inl h.symm
        · have h3 : g2 = (wr.alloc (.cells nw2S 9)).heap.size := by simpa [Value.ownBlock] using h
          exact Or.inr (by rw [h3]; have := (unhide Hgr).size; simp; omega))
      go_wp2
      exact bodyPost_end (v := .tuple #[]) (by simp [results, go_sem]) rfl ⟨rfl, unhide Hend⟩
end Go.Proofs.Ytonhagoeajhacaa.Ov
