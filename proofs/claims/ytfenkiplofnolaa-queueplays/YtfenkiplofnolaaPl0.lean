/- OverInts; x & 3; the document's queue: New, Put, Take. -/
import Derived.Test.YtfenkiplofnolaaHl1
namespace Go.Proofs.Ytfenkiplofnolaa
open Go.RowKit Go.Sort

theorem heap_alloc_new (w : World) (o : Obj) : (w.alloc o).heap[w.heap.size]? = some o := box_nw w o
def RawI (B : Nat) (w : World) (q : Option Addr) (n cap : Nat) : Prop := ∃ xs, w.ownsRow B 3 1 (.slice q n cap) n xs
theorem RawI.cell {B : Nat} {w : World} {g n cap : Nat} (h : RawI B w (some ⟨g, 0, none⟩) n cap) (t : Nat) (ht : t < n * 1) : (∃ v, w.cell? ⟨g, t, none⟩ = some v) ∧ w.frozen? ⟨g, t, none⟩ = false := by
  obtain ⟨xs, h⟩ := h
  rcases h.2 with ⟨h0, _⟩ | ⟨g', cap', cur, hv, _, hblk, hc, _, hs, _⟩
  · cases h0
  · injection hv with h1 h2 h3
    cases h1
    have hlt : t < cur.size := by rw [hs]; omega
    exact ⟨⟨cur[t], by rw [cell_of_row w g t cur 3 (0, 0) hblk]; exact Array.getElem?_eq_getElem hlt⟩, frozen_free hblk⟩
theorem RawI.set {B : Nat} {w : World} {g n cap : Nat} (h : RawI B w (some ⟨g, 0, none⟩) n cap) (j : Nat) (u : Value) : RawI B (w.setCell ⟨g, j, none⟩ u) (some ⟨g, 0, none⟩) n cap := by
  obtain ⟨xs, h⟩ := h
  exact ⟨_, (h.stored j u).1⟩
theorem RawI.shape {B : Nat} {w : World} {q : Option Addr} {n cap : Nat} (h : RawI B w q n cap) : (q = none ∧ n = 0 ∧ cap = 0) ∨ ∃ g, q = some ⟨g, 0, none⟩ := by
  obtain ⟨xs, h⟩ := h
  rcases h.2 with ⟨h0, _⟩ | ⟨g', cap', cur, hv, _⟩
  · injection h0 with h1 h2 h3
    exact Or.inl ⟨h1, h2, h3⟩
  · injection hv with h1
    exact Or.inr ⟨g', h1⟩
theorem OwnK.rawI {B : Nat} {w : World} {q : Option Addr} {cap : Nat} {l : List Int} (h : OwnK encI 3 1 B w q cap l) : RawI B w q l.length cap := ⟨_, h⟩
theorem grown_two {w w1 w2 : World} {r r2 : Option Nat} (h : w.grownBy w1 r) (h2 : w1.grownBy w2 r2) (hr : ∀ k, r2 = some k → r = some k ∨ w.heap.size ≤ k) : w.grownBy w2 r :=
  ⟨h2.os.trans h.os, h2.tape.trans h.tape, h2.output.trans h.output, Nat.le_trans h.size h2.size, fun k hk hne => (h2.block k (Nat.lt_of_lt_of_le hk h.size) (fun e => by
    rcases hr k e.symm with h3 | h3
    · exact hne h3.symm
    · omega)).trans (h.block k hk hne)⟩
theorem grown_refl (w : World) (r : Option Nat) : w.grownBy w r := ⟨rfl, rfl, rfl, Nat.le_refl _, fun _ _ _ => rfl⟩
theorem grown_alloc (w : World) (o : Obj) (r : Option Nat) : w.grownBy (w.alloc o) r := World.grownBy_alloc w o r
theorem grown_setI {w w1 : World} {g : Nat} (h : w.grownBy w1 (some g)) (j : Nat) (u : Value) : w.grownBy (w1.setCell ⟨g, j, none⟩ u) (some g) := by
  have hb := (Below.refl 0 w1).setCell (p := ⟨g, j, none⟩) (Nat.zero_le _) u
  exact ⟨hb.os.trans h.os, hb.tape.trans h.tape, hb.output.trans h.output, Nat.le_trans h.size hb.size, fun k hk hne => (Below.heap_setCell _ _ _ _ (fun e => hne (by rw [e]))).trans (h.block k hk hne)⟩
def fiveI : Array Value := #[.int .i64 (-5), .int .i64 (-6)]
set_option maxHeartbeats 2000000 in
set_option maxRecDepth 100000 in
theorem overI (B : Nat) (q : Option Addr) (n cap : Nat) (w : World) (hl : n * 8 + 64 ≤ 140737488355328) (hB : B ≤ w.heap.size) (hR : RawI B w q n cap) :
    Calls Try.prog 16 #[.slice q n cap] w fun e w' => e = .returned (.tuple #[]) ∧ w.grownBy w' (Value.slice q n cap).ownBlock := by
  have mixed : Try.prog.follows .mixedOrders = true := by kernel_rfl
  have HR := hide hR
  have n0 : (0 : Int) ≤ (n : Int) := by omega
  have n3 : (n : Int) ≤ 17592186044416 := by omega
  obtain ⟨i0, hi, hz0, hz1, hz2⟩ := info_parts Try.info3
  have Hi := hide hi
  have Hz := hide (And.intro hz0 (And.intro hz1 hz2))
  clear hR hi hz0 hz1 hz2
  go_enter Try.func16, Try.ntmps16
  go_wp2
  go_loopw [6] (fun i wr => ∃ k : Nat, k ≤ n ∧ i = .int .i64 k ∧ Hid (RawI B wr q n cap) ∧ Hid (w.grownBy wr (Value.slice q n cap).ownBlock)) (fun i _ => n - (intOf i).toNat)
  case atStart => exact ⟨0, by omega, rfl, HR, hide (grown_refl _ _)⟩
  case round =>
    obtain ⟨k, hk, rfl, Hrow, Hgr⟩ := hrel
    by_cases hlt : k < n
    · have k0 : (0 : Int) ≤ (k : Int) := by omega
      have k1 : (k : Int) < (n : Int) := by omega
      rcases (unhide Hrow).shape with ⟨_, h1, _⟩ | ⟨g, rfl⟩
      · omega
      obtain ⟨⟨v0, cc0⟩, ff0⟩ := (unhide Hrow).cell k (by omega)
      have Hg2 : Hid (w.grownBy wr (some g)) := Hgr
      go_wp2
      exact ⟨⟨k + 1, by omega, by go_num, hide ((unhide Hrow).set _ _), hide (grown_setI (unhide Hg2) _ _)⟩, by simp [intOf]; omega⟩
    · obtain rfl : k = n := by omega
      have n1 : (k : Int) < (k : Int) + 2 := by omega
      obtain ⟨xs, hxs⟩ := unhide Hrow
      have Hxs := hide hxs
      clear hxs
      go_wp2_with (at_builtin; refine wpList_append_own_at _ rfl _ _ 30 rfl B 3 i0 (.int .i64 0) 1 8 Try.underlying30 (unhide Hi) (unhide Hz).1 (unhide Hz).2.1 (unhide Hz).2.2 rfl (by decide) _ k xs rfl (World.ownsRow.alloc (unhide Hxs) _) ⟨wr.heap.size, 0, none⟩ 2 2 fiveI.toList rfl rfl (World.news_of_block (heap_alloc_new wr _)) (by decide) (by unfold maxLen; omega) (by omega) (by have := (unhide Hgr).size; simp; omega) ?_; intro v' w2 hown hgrow hnil hat; (obtain ⟨g2, cp2, rfl, hB2, hlt2⟩ := hown.form (by omega)); (obtain ⟨⟨vv, cc⟩, ff⟩ := RawI.cell ⟨_, hown⟩ k (by omega)); have Hgrow := hide hgrow; have Hat := hide hat; clear hown hgrow hnil hat)
      have Hend : Hid (w.grownBy (w2.setCell ⟨g2, k, none⟩ (.int .i64 (-7))) (Value.slice q k cap).ownBlock) := hide (by
        have h1 := grown_two (unhide Hgr) (grown_alloc wr (.cells fiveI 3) none) (fun j hj => by cases hj)
        have h2 := grown_two h1 (unhide Hgrow) (fun j hj => Or.inl hj)
        refine grown_two h2 (grown_setI (grown_refl w2 (some g2)) _ _) (fun j hj => ?_)
        cases hj
        rcases unhide Hat with h | h
        · exact Or.inl h.symm
        · have h3 : g2 = (wr.alloc (.cells fiveI 3)).heap.size := by simpa [Value.ownBlock] using h
          exact Or.inr (by rw [h3]; have := (unhide Hgr).size; simp; omega))
      go_wp2
      exact bodyPost_end (v := .tuple #[]) (by simp [results, Try.results16, go_sem]) rfl ⟨rfl, unhide Hend⟩

/-- The lowest two bits. -/
def b3 (n : Int) : Nat := (BitVec.ofInt 64 n).toNat % 4
theorem b3_lt (n : Int) : b3 n < 4 := Nat.mod_lt _ (by decide)
theorem and_three (n : Int) : bits BinOp.and IntKind.i64 n 3 = ((b3 n : Nat) : Int) := by
  have h : (BitVec.ofInt 64 n &&& BitVec.ofInt 64 3).toNat = (BitVec.ofInt 64 n).toNat % 4 := by
    rw [BitVec.toNat_and, show (BitVec.ofInt 64 3).toNat = 2 ^ 2 - 1 from rfl, Nat.and_two_pow_sub_one_eq_mod]
  have h2 : bits BinOp.and IntKind.i64 n 3 = IntKind.i64.wrap (((BitVec.ofInt 64 n &&& BitVec.ofInt 64 3).toNat : Nat) : Int) := rfl
  rw [h] at h2
  rw [h2]
  exact wrap_nat _ (by have := b3_lt n; unfold b3 at this; omega)
end Go.Proofs.Ytfenkiplofnolaa
