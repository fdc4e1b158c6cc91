/- law12.over writes a row of the caller's own, and nothing else. -/
import Derived.Test.YtedakipjfpdajaaGreatDoorZab
import Derived.Maps.AppendAt
namespace Go.Proofs.YtedakipjfpdajaaGreatDoor
open Go.RowKit Go.Sort Go.Shelf

/-- A row of the call's own, whatever it holds. -/
def RawK (B : Nat) (w : World) (q : Option Addr) (n cap : Nat) : Prop := ∃ xs, w.ownsRow B 46 5 (.slice q n cap) n xs
theorem RawK.cell {B : Nat} {w : World} {g n cap : Nat} (h : RawK B w (some ⟨g, 0, none⟩) n cap) (t : Nat) (ht : t < n * 5) : (∃ v, w.cell? ⟨g, t, none⟩ = some v) ∧ w.frozen? ⟨g, t, none⟩ = false := by
  obtain ⟨xs, h⟩ := h
  rcases h.2 with ⟨h0, _⟩ | ⟨g', cap', cur, hv, _, hblk, hc, _, hs, _⟩
  · cases h0
  · injection hv with h1 h2 h3
    cases h1
    have hlt : t < cur.size := by rw [hs]; omega
    exact ⟨⟨cur[t], by rw [cell_of_row w g t cur 46 (0, 0) hblk]; exact Array.getElem?_eq_getElem hlt⟩, frozen_free hblk⟩
theorem RawK.set {B : Nat} {w : World} {g n cap : Nat} (h : RawK B w (some ⟨g, 0, none⟩) n cap) (j : Nat) (u : Value) : RawK B (w.setCell ⟨g, j, none⟩ u) (some ⟨g, 0, none⟩) n cap := by
  obtain ⟨xs, h⟩ := h
  exact ⟨_, (h.stored j u).1⟩
theorem RawK.shape {B : Nat} {w : World} {q : Option Addr} {n cap : Nat} (h : RawK B w q n cap) : (q = none ∧ n = 0 ∧ cap = 0) ∨ ∃ g, q = some ⟨g, 0, none⟩ := by
  obtain ⟨xs, h⟩ := h
  rcases h.2 with ⟨h0, _⟩ | ⟨g', cap', cur, hv, _⟩
  · injection h0 with h1 h2 h3
    exact Or.inl ⟨h1, h2, h3⟩
  · injection hv with h1
    exact Or.inr ⟨g', h1⟩
theorem OwnK.raw {B : Nat} {w : World} {q : Option Addr} {cap : Nat} {l : List Ky} (h : OwnK encK 46 5 B w q cap l) : RawK B w q l.length cap := ⟨_, h⟩
theorem grown_two {w w1 w2 : World} {r r2 : Option Nat} (h : w.grownBy w1 r) (h2 : w1.grownBy w2 r2) (hr : ∀ k, r2 = some k → r = some k ∨ w.heap.size ≤ k) : w.grownBy w2 r :=
  ⟨h2.os.trans h.os, h2.tape.trans h.tape, h2.output.trans h.output, Nat.le_trans h.size h2.size, fun k hk hne => (h2.block k (Nat.lt_of_lt_of_le hk h.size) (fun e => by
    rcases hr k e.symm with h3 | h3
    · exact hne h3.symm
    · omega)).trans (h.block k hk hne)⟩
theorem grown_refl (w : World) (r : Option Nat) : w.grownBy w r := ⟨rfl, rfl, rfl, Nat.le_refl _, fun _ _ _ => rfl⟩
theorem grown_alloc (w : World) (o : Obj) (r : Option Nat) : w.grownBy (w.alloc o) r := World.grownBy_alloc w o r
theorem grown_set {w w' : World} {g : Nat} (h : w.grownBy w' (some g)) (o : Nat) (v : Value) : w.grownBy (w'.setCell ⟨g, o, none⟩ v) (some g) := by
  have hb := (Below.refl 0 w').setCell (p := ⟨g, o, none⟩) (Nat.zero_le _) v
  exact ⟨hb.os.trans h.os, hb.tape.trans h.tape, hb.output.trans h.output, Nat.le_trans h.size hb.size, fun k hk hne => (Below.heap_setCell _ _ _ _ (fun e => hne (by rw [e]))).trans (h.block k hk hne)⟩
def twoP : Array Value := #[.string ⟨#[]⟩, .int .i64 0, .int .i64 0, .int .i64 0, .string ⟨#[]⟩, .string ⟨#[]⟩, .int .i64 0, .int .i64 0, .int .i64 0, .string ⟨#[]⟩]
set_option maxHeartbeats 2000000 in
set_option maxRecDepth 100000 in
theorem over_any (B : Nat) (q : Option Addr) (n cap : Nat) (w : World) (hl : n * 56 + 112 ≤ 140737488355328) (hB : B ≤ w.heap.size) (hR : RawK B w q n cap) :
    Calls Tryz.prog 11 #[.slice q n cap] w fun e w' => e = .returned (.tuple #[]) ∧ w.grownBy w' (Value.slice q n cap).ownBlock := by
  have mixed : Tryz.prog.follows .mixedOrders = true := by kernel_rfl
  have HR := hide hR
  have n0 : (0 : Int) ≤ (n : Int) := by omega
  obtain ⟨i0, hi, hz0, hz1, hz2⟩ := info_parts Tryz.info46
  have Hi := hide hi
  have Hz := hide (And.intro hz0 (And.intro hz1 hz2))
  clear hR hi hz0 hz1 hz2
  go_enter Tryz.func11, Tryz.ntmps11
  go_wp2
  go_loopw [6] (fun i wr => ∃ k : Nat, k ≤ n ∧ i = .int .i64 k ∧ Hid (RawK B wr q n cap) ∧ Hid (w.grownBy wr (Value.slice q n cap).ownBlock)) (fun i _ => n - (intOf i).toNat)
  case atStart => exact ⟨0, by omega, rfl, HR, hide (grown_refl _ _)⟩
  case round =>
    obtain ⟨k, hk, rfl, Hrow, Hgr⟩ := hrel
    by_cases hlt : k < n
    · have k0 : (0 : Int) ≤ (k : Int) := by omega
      have k1 : (k : Int) < (n : Int) := by omega
      rcases (unhide Hrow).shape with ⟨_, h1, _⟩ | ⟨g, rfl⟩
      · omega
      obtain ⟨⟨v0, cc0⟩, ff0⟩ := (unhide Hrow).cell (k * 5) (by omega)
      obtain ⟨⟨v1, cc1⟩, ff1⟩ := (unhide Hrow).cell (k * 5 + 1) (by omega)
      obtain ⟨⟨v2, cc2⟩, ff2⟩ := (unhide Hrow).cell (k * 5 + 2) (by omega)
      obtain ⟨⟨v3, cc3⟩, ff3⟩ := (unhide Hrow).cell (k * 5 + 3) (by omega)
      obtain ⟨⟨v4, cc4⟩, ff4⟩ := (unhide Hrow).cell (k * 5 + 4) (by omega)
      have Hg2 : Hid (w.grownBy wr (some g)) := Hgr
      go_wp2
      exact ⟨⟨k + 1, by omega, by go_num, hide ((((((unhide Hrow).set _ _).set _ _).set _ _).set _ _).set _ _), hide (grown_set (grown_set (grown_set (grown_set (grown_set (unhide Hg2) _ _) _ _) _ _) _ _) _ _)⟩, by simp [intOf]; omega⟩
    · obtain rfl : k = n := by omega
      have n1 : (k : Int) < (k : Int) + 2 := by omega
      obtain ⟨xs, hxs⟩ := unhide Hrow
      have Hxs := hide hxs
      clear hxs
      go_wp2_with (at_builtin; refine wpList_append_own_at _ rfl _ _ 30 rfl B 46 i0 (.agg #[.string ⟨#[]⟩, .int .i64 0, .int .i64 0, .int .i64 0, .string ⟨#[]⟩]) 5 56 Tryz.underlying30 (unhide Hi) (unhide Hz).1 (unhide Hz).2.1 (unhide Hz).2.2 rfl (by decide) _ k xs rfl (World.ownsRow.alloc (unhide Hxs) _) ⟨wr.heap.size, 0, none⟩ 2 2 twoP.toList rfl rfl (World.news_of_block (World.alloc_heap_new wr _)) (by decide) (by unfold maxLen; omega) (by omega) (by have := (unhide Hgr).size; simp; omega) ?_; intro v' w2 hown hgrow hnil hat; (obtain ⟨g2, cp2, rfl, hB2, hlt2⟩ := hown.form (by omega)); (obtain ⟨⟨vv, cc⟩, ff⟩ := RawK.cell ⟨_, hown⟩ (k * 5 + 1) (by omega)); have Hgrow := hide hgrow; have Hat := hide hat; clear hown hgrow hnil hat)
      have Hend : Hid (w.grownBy (w2.setCell ⟨g2, k * 5 + 1, none⟩ (.int .i64 9)) (Value.slice q k cap).ownBlock) := hide (by
        have h1 := grown_two (unhide Hgr) (grown_alloc wr (.cells twoP 46) none) (fun j hj => by cases hj)
        have h2 := grown_two h1 (unhide Hgrow) (fun j hj => Or.inl hj)
        refine grown_two h2 (grown_set (grown_refl w2 (some g2)) _ _) (fun j hj => ?_)
        cases hj
        rcases unhide Hat with h | h
        · exact Or.inl h.symm
        · have h3 : g2 = (wr.alloc (.cells twoP 46)).heap.size := by simpa [Value.ownBlock] using h
          exact Or.inr (by rw [h3]; have := (unhide Hgr).size; simp; omega))
      go_wp2
      exact bodyPost_end (v := .tuple #[]) (by simp [results, Tryz.results11, go_sem]) rfl ⟨rfl, unhide Hend⟩
end Go.Proofs.YtedakipjfpdajaaGreatDoor
