/- What the memory helpers do with lists of numbers: Ints, SameInts, KeptInts. -/
import Derived.Test.YtfenkiplofnolaaQ0
namespace Go.Proofs.Ytfenkiplofnolaa
open Go.RowKit Go.Sort

theorem take_snoc_of {α : Type} {l : List α} {k : Nat} {x : α} (h : l[k]? = some x) : l.take (k + 1) = l.take k ++ [x] := by
  obtain ⟨hk, rfl⟩ := List.getElem?_eq_some_iff.1 h
  rw [List.take_add_one, List.getElem?_eq_getElem hk]; rfl
theorem pre_snoc {α : Type} {l m : List α} {k : Nat} {x : α} (h : l.take k = m.take k) (hx : l[k]? = some x) (hy : m[k]? = some x) : l.take (k + 1) = m.take (k + 1) := by
  rw [take_snoc_of hx, take_snoc_of hy, h]
theorem pre_ne {α : Type} {l m : List α} {k : Nat} {x y : α} (hx : l[k]? = some x) (hy : m[k]? = some y) (h : x ≠ y) : l ≠ m := fun e => by subst e; rw [hx] at hy; cases hy; exact h rfl
theorem intAt {w : World} {q : Option Addr} {c : Nat} {l : List Int} {j : Nat} {x : Int} (h : SlOf encI 1 w q c l) (hj : l[j]? = some x) : ∃ b off, q = some ⟨b, off, none⟩ ∧ b < w.heap.size ∧ w.cell? ⟨b, off + j, none⟩ = some (.int .i64 x) := by
  obtain ⟨b, off, hq, hb, hc⟩ := h.2.2.2.at hj
  exact ⟨b, off, hq, hb, by have := hc 0 (by omega); rw [Nat.mul_one] at this; exact this⟩
theorem LsOf.take {α : Type} [Inhabited α] {enc : α → List Value} {k : Nat} (hk : 0 < k) {w : World} {q : Option Addr} {l : List α} (h : LsOf enc k w q l) (j : Nat) : LsOf enc k w q (l.take j) := fun h0 => by
  have h1 : 0 < l.length := by simp at h0; omega
  obtain ⟨b, off, hq, hb, hA⟩ := h h1
  refine ⟨b, off, hq, hb, fun t u ht => hA t u ?_⟩
  have e := flat_app enc k hk (l.take j) (l.drop j)
  rw [List.take_append_drop] at e
  rw [e, List.getElem?_append_left (List.getElem?_eq_some_iff.1 ht).1]
  exact ht
theorem OwnI {B : Nat} {w : World} {q : Option Addr} {cap : Nat} {l : List Int} (h : OwnK encI 3 1 B w q cap (l ++ [-77, -78])) : ∃ g, q = some ⟨g, 0, none⟩ := by
  rcases h.2 with ⟨h0, _⟩ | ⟨g, cp, cur, hv, _⟩
  · injection h0 with _ h1; simp at h1
  · injection hv with h1; exact ⟨g, h1⟩
theorem makeI (n : Nat) (h : n * 8 ≤ 140737488355328) : ∃ cur : Array Value, cur.size = n * 1 ∧ ∀ W : World, (Instr.makeSlice 30 (.int .i64 0) (.int .i64 (n : Int))).run Try.prog W = .ok (.slice (some ⟨W.heap.size, 0, none⟩) 0 n) (W.alloc (.cells cur 3)) := by
  obtain ⟨i0, hi, hz0, hz1, hz2⟩ := info_parts Try.info3
  refine ⟨madeCells (Value.cells (.int .i64 0)) (n * i0.size), by rw [size_madeCells, hz1], fun W => ?_⟩
  have := run_make (P := Try.prog) W 30 3 i0 _ Try.underlying30 hi hz0 .i64 .i64 0 (n : Int) (Int.le_refl _) (by omega) (by rw [hz2]; omega) (by omega)
  simpa only [Int.toNat_zero, Int.toNat_natCast] using this
theorem ownI {B : Nat} {w : World} {n : Nat} {cur : Array Value} (hB : B ≤ w.heap.size) (hn : n ≤ maxLen) (hs : cur.size = n * 1) : OwnK encI 3 1 B (w.alloc (.cells cur 3)) (some ⟨w.heap.size, 0, none⟩) n [] := by
  have : (flatK encI 1 ([] : List Int).toArray).toList = [] := by simp [flatK]
  unfold OwnK; rw [this]; exact World.ownsRow_made w cur n hB hn hs
theorem twoI {w : World} {M : Nat} {x y : Int} (h : w.heap[M]? = some (.cells #[.int .i64 x, .int .i64 y] 3 (0, 0))) : SrcK encI 1 w (some ⟨M, 0, none⟩) 2 [x, y] := by
  refine ⟨(fun h => by cases h), fun ad hq j u hj => ?_⟩
  cases hq
  rw [add_plain, Nat.zero_add]
  have hs := (List.getElem?_eq_some_iff.1 hj).1
  simp at hs
  have hc : w.cell? ⟨M, j, none⟩ = (#[.int .i64 x, .int .i64 y] : Array Value)[j]? := (by unfold World.cell?; simp [h])
  rw [hc]
  obtain rfl | rfl : j = 0 ∨ j = 1 := by omega
  · exact (flat_at (enc := encI) (k := 1) (l := [x, y]) (j := 0) (x := x) rfl 0 (by omega)).symm.trans hj
  · exact (flat_at (enc := encI) (k := 1) (l := [x, y]) (j := 1) (x := y) rfl 0 (by omega)).symm.trans hj
def spI : List Int := [-77, -78]
set_option maxHeartbeats 1000000 in
set_option maxRecDepth 100000 in
theorem memI (q : Option Addr) (c : Nat) (l : List Int) (w : World) (h : SlOf encI 1 w q c l) (hl : l.length * 8 + 64 ≤ 140737488355328) :
    Calls Try.prog 10 #[.slice q l.length c] w fun e w' => (∃ g cp, e = .returned (.slice (some ⟨g, 0, none⟩) l.length cp) ∧ OwnK encI 3 1 w.heap.size w' (some ⟨g, 0, none⟩) cp (l ++ spI) ∧ l.length + 2 ≤ cp) ∧ Below w.heap.size w w' := by
  have HS := hide h
  have l0 : (0 : Int) ≤ (l.length : Int) := by omega
  obtain ⟨cur, hcs, hmk⟩ := makeI (l.length + 2) (by omega)
  have hmk' : ∀ W : World, (Instr.makeSlice 30 (.int .i64 0) (.int .i64 ((l.length : Int) + 2))).run Try.prog W = .ok (.slice (some ⟨W.heap.size, 0, none⟩) 0 (l.length + 2)) (W.alloc (.cells cur 3)) := fun W => by have := hmk W; rwa [Int.natCast_add] at this
  have Hcs := hide hcs
  clear h hmk hcs
  go_enter Try.func10, Try.ntmps10
  go_wp2_with (first
    | (at_builtin; refine wpList_app rowI rfl _ _ rfl w.heap.size q8 cp8 l (some ⟨w8.heap.size, 0, none⟩) 2 spI l.length 2 (l.length + 2) rfl rfl rfl rfl rfl ((unhide Hown8).below ((Below.refl _ _).alloc (Nat.le_refl _) _)) (twoI (box_nw _ _)) (by unfold maxLen; omega) (by omega) (by have := (unhide B8).size; simp; omega) ?_; intro q9 cp9 w9 hown9 hb9 hnn9 _; obtain ⟨g9, hg9⟩ := OwnI hown9; subst hg9; have hc9 := hown9.ls.2.1; have c9 : (l.length : Int) ≤ (cp9 : Int) := (by simp [spI] at hc9; omega); have Hown9 := hide hown9; have B9 := hide (((unhide B8).alloc (unhide B8).size _).trans hb9); clear hown9 hb9 hnn9)
    | (at_builtin; refine wpList_app rowI rfl _ _ rfl w.heap.size (some ⟨w.heap.size, 0, none⟩) (l.length + 2) [] q c l 0 l.length l.length rfl rfl (by simp) rfl rfl (ownI (Nat.le_refl _) (by unfold maxLen; omega) (unhide Hcs)) ((unhide HS).below ((Below.refl _ _).alloc (Nat.le_refl _) _)).src (by unfold maxLen; omega) (by omega) (by simp) ?_; intro q8 cp8 w8 hown8 hb8 _ _; have Hown8 := hide hown8; have B8 := hide (((Below.refl w.heap.size w).alloc (Nat.le_refl _) (.cells cur 3)).trans hb8); clear hown8 hb8))
  go_ret
  exact ⟨⟨g9, cp9, rfl, unhide Hown9, by simp [spI] at hc9; exact hc9⟩, unhide B9⟩
set_option maxHeartbeats 1000000 in
set_option maxRecDepth 100000 in
theorem memEqI (q : Option Addr) (c : Nat) (l : List Int) (q' : Option Addr) (c' : Nat) (m : List Int) (w : World) (h1 : SlOf encI 1 w q c l) (h2 : SlOf encI 1 w q' c' m) (hl : l.length ≤ 100000000000000) :
    Calls Try.prog 14 #[.slice q l.length c, .slice q' m.length c'] w fun e w' => e = .returned (.bool (decide (l = m))) ∧ Below w.heap.size w w' := by
  by_cases hlm : l.length = m.length
  · rw [← hlm]
    have H1 := hide h1
    have H2 := hide h2
    have hnn : ((l.length : Int) != (l.length : Int)) = false := by simp
    have a0 : (l.length : Int) ≤ 100000000000000 := by omega
    have HLM := hide hlm
    clear h1 h2 hlm
    go_enter Try.func14, Try.ntmps14
    go_wp2
    go_loopw [13] (fun i wr => ∃ k : Nat, k ≤ l.length ∧ i = .int .i64 k ∧ l.take k = m.take k ∧ Below w.heap.size w wr) (fun i _ => l.length - (intOf i).toNat)
    case atStart => exact ⟨0, by omega, rfl, rfl, Below.refl _ _⟩
    case round =>
      obtain ⟨k, hk, rfl, hpre, hbel⟩ := hrel
      have HB := hide hbel
      have HP := hide hpre
      by_cases hlt : k < l.length
      · obtain ⟨x, hx, _⟩ := get_at hlt
        obtain ⟨y, hy, _⟩ := get_at (l := m) (k := k) (by have := unhide HLM; omega)
        obtain ⟨b, off, hq, _, g1⟩ := intAt ((unhide H1).below hbel) hx
        obtain ⟨b', off', hq', _, g2⟩ := intAt ((unhide H2).below hbel) hy
        subst hq
        subst hq'
        have ki0 : (0 : Int) ≤ (k : Int) := by omega
        have ki1 : (k : Int) < (l.length : Int) := by omega
        by_cases hxy : x = y
        · subst hxy
          have HN := hide (pre_snoc hpre hx hy)
          clear hx hy hbel hpre
          go_wp2
          go_region_held3 (fun w' => w'.cell? ⟨b, off + k, none⟩ = some (.int .i64 x) ∧ w'.cell? ⟨b', off' + k, none⟩ = some (.int .i64 x)) (go_keep) (fail)
          all_goals
            go_wp2
            go_roundw
            case rel => exact ⟨k + 1, by omega, by go_num, unhide HN, (unhide HB).drew⟩
            case measure => simp [intOf]; omega
        · have HN := hide (pre_ne hx hy hxy)
          have hne : (x != y) = true := by simpa using hxy
          clear hx hy hbel hpre
          go_wp2
          go_region_held3 (fun w' => w'.cell? ⟨b, off + k, none⟩ = some (.int .i64 x) ∧ w'.cell? ⟨b', off' + k, none⟩ = some (.int .i64 y)) (go_keep) (fail)
          all_goals
            go_wp2
            go_ret
            exact ⟨ret_bool (by simp [unhide HN]), (unhide HB).drew⟩
      · have ki1 : ¬ (k : Int) < (l.length : Int) := by omega
        have HN := hide (show l = m by rw [← List.take_of_length_le (l := l) (i := k) (by omega), hpre, List.take_of_length_le (by have := unhide HLM; omega)])
        clear hpre
        go_wp2
        go_ret
        exact ⟨ret_bool (by simp [unhide HN]), unhide HB⟩
  · have hnn : ((l.length : Int) != (m.length : Int)) = true := by rw [bne_iff_ne]; omega
    have HN := hide (show l ≠ m from fun e => hlm (by rw [e]))
    clear h1 h2
    go_enter Try.func14, Try.ntmps14
    go_wp2
    go_ret
    exact ⟨ret_bool (by simp [unhide HN]), Below.refl _ _⟩
set_option maxHeartbeats 1000000 in
set_option maxRecDepth 100000 in
theorem keptI (g cp : Nat) (q' : Option Addr) (c' : Nat) (l : List Int) (w : World) (hl : l.length ≤ 100000000000000) (hN : LsOf encI 1 w (some ⟨g, 0, none⟩) (l ++ spI)) (hc : l.length + 2 ≤ cp) (hcm : cp ≤ maxLen) (hA' : SlOf encI 1 w q' c' l) :
    Calls Try.prog 19 #[.slice (some ⟨g, 0, none⟩) l.length cp, .slice q' l.length c'] w fun e w' => e = .returned (.bool true) ∧ Below w.heap.size w w' := by
  have l0 : (0 : Int) ≤ (l.length : Int) := by omega
  have l1 : (0 : Int) ≤ (l.length : Int) + 2 := by omega
  have l2 : (l.length : Int) + 2 ≤ (cp : Int) := by omega
  have l3 : (l.length : Int) < (l.length : Int) + 2 := by omega
  have l4 : (l.length : Int) + 1 < (l.length : Int) + 2 := by omega
  have l5 : (0 : Int) ≤ (l.length : Int) + 1 := by omega
  have l6 : (l.length : Int) ≤ 100000000000000 := by omega
  obtain ⟨b, off, hb, hlt, hAt⟩ := hN (by simp [spI])
  cases hb
  have c0 : w.cell? ⟨g, l.length, none⟩ = some (.int .i64 (-77)) := by
    have := hAt _ _ (flat_at (enc := encI) (k := 1) (l := l ++ spI) (j := l.length) (x := -77) (by simp [spI]) 0 (by omega))
    simpa [encI] using this
  have c1 : w.cell? ⟨g, l.length + 1, none⟩ = some (.int .i64 (-78)) := by
    have := hAt _ _ (flat_at (enc := encI) (k := 1) (l := l ++ spI) (j := l.length + 1) (x := -78) (by simp [spI]) 0 (by omega))
    simpa [encI] using this
  have hAl : SlOf encI 1 w (some ⟨g, 0, none⟩) cp l := ⟨(fun h => by cases h), by omega, hcm, (by have h := LsOf.take (by decide) hN l.length; rwa [List.take_left] at h)⟩
  have hsame := memEqI (some ⟨g, 0, none⟩) cp l q' c' l w hAl hA' hl
  rw [decide_eq_true rfl] at hsame
  have hnn : ((l.length : Int) != (l.length : Int)) = false := by simp
  clear hN hA' hAl hAt
  go_enter Try.func19, Try.ntmps19
  go_wp2_with (go_at_call 14; refine hsame.mono ?_; rintro e w1 ⟨rfl, b1⟩)
  go_ret
  exact ⟨rfl, b1⟩
end Go.Proofs.Ytfenkiplofnolaa
