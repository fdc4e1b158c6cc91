/- trommelmem: copies of numbers, words, predicates and pairs, and that they are kept. -/
import Derived.Test.YtedakipjfpdajaaGreatDoorEvH
import Derived.Maps.AppendAt
namespace Go.Proofs.YtedakipjfpdajaaGreatDoor
open Go.RowKit Go.Sort Go.Shelf

theorem toList_ne {a b : ByteArray} (h : a ≠ b) : (a.toList == b.toList) = false := by
  rw [beq_eq_false_iff_ne]
  intro h2
  rw [ByteArray.toList_eq, ByteArray.toList_eq] at h2
  exact h (WideShapes.bytes_inj h2)

/-- A later world that has the same cells from B on. -/
def SameUp (B : Nat) (w w' : World) : Prop := w.heap.size ≤ w'.heap.size ∧ ∀ b o, B ≤ b → b < w.heap.size → w'.cell? ⟨b, o, none⟩ = w.cell? ⟨b, o, none⟩
theorem SlOf.up {α : Type} [Inhabited α] {enc : α → List Value} {k B : Nat} {w w' : World} {q : Option Addr} {c : Nat} {l : List α} (h : SlOf enc k w q c l) (hq : ∀ a, q = some a → B ≤ a.block) (hu : SameUp B w w') : SlOf enc k w' q c l := by
  refine ⟨h.1, h.2.1, h.2.2.1, fun h0 => ?_⟩
  obtain ⟨b, off, rfl, hB, hA⟩ := h.2.2.2 h0
  exact ⟨b, off, rfl, Nat.lt_of_lt_of_le hB hu.1, fun j u hj => (hu.2 b (off + j) (hq _ rfl) hB).trans (hA j u hj)⟩
theorem SameUp.of {B : Nat} {w w' : World} (h : Below w.heap.size w w') : SameUp B w w' := ⟨h.size, fun b o _ hb => h.cell (p := ⟨b, o, none⟩) hb⟩
theorem SameUp.trans {B : Nat} {x y z : World} (h : SameUp B x y) (k : SameUp B y z) : SameUp B x z := ⟨Nat.le_trans h.1 k.1, fun b o h1 h2 => (k.2 b o h1 (Nat.lt_of_lt_of_le h2 h.1)).trans (h.2 b o h1 h2)⟩
theorem SameUp.set {B : Nat} {a w : World} (h : SameUp B a w) {p : Addr} (hp : p.block < B) (u : Value) : SameUp B a (w.setCell p u) :=
  h.trans ⟨by simp, fun b o h1 _ => World.cell?_of_block (w := w) (a := ⟨b, o, none⟩) (Below.heap_setCell w p u b (by show b ≠ p.block; omega))⟩
theorem OwnK.from {α : Type} [Inhabited α] {enc : α → List Value} {k B : Nat} {e : TypeId} {w : World} {q : Option Addr} {cap : Nat} {l : List α} (h : OwnK enc e k B w q cap l) : ∀ a, q = some a → B ≤ a.block := by
  intro a ha
  rcases h.2 with ⟨h0, _⟩ | ⟨g, cp, cur, hv, hB, _⟩
  · injection h0 with h1; rw [ha] at h1; cases h1
  · injection hv with h1; rw [ha] at h1; cases h1; exact hB
theorem pre_snoc {α : Type} {l m : List α} {k : Nat} {x : α} (h : l.take k = m.take k) (hx : l[k]? = some x) (hy : m[k]? = some x) : l.take (k + 1) = m.take (k + 1) := by
  rw [take_snoc_of hx, take_snoc_of hy, h]
theorem pre_ne {α : Type} {l m : List α} {k : Nat} {x y : α} (hx : l[k]? = some x) (hy : m[k]? = some y) (h : x ≠ y) : l ≠ m := fun e => by subst e; rw [hx] at hy; cases hy; exact h rfl
theorem toL_eq {a b : ByteArray} : (a.toList == b.toList) = decide (a = b) := by
  by_cases h : a = b
  · subst h; simp
  · rw [toList_ne h]; simp [h]
theorem LsOf.take {α : Type} [Inhabited α] {enc : α → List Value} {k : Nat} {w : World} {q : Option Addr} {l m : List α} (hk : 0 < k) (h : LsOf enc k w q (l ++ m)) : LsOf enc k w q l := fun h0 => by
  obtain ⟨b, off, hq, hb, hA⟩ := h (by simp; omega)
  refine ⟨b, off, hq, hb, fun j u hj => hA j u ?_⟩
  rw [flat_app enc k hk, List.getElem?_append_left (List.getElem?_eq_some_iff.1 hj).1]; exact hj
theorem OwnI {B : Nat} {w : World} {q : Option Addr} {cap : Nat} {l : List Int} (h : OwnK encI 3 1 B w q cap (l ++ [-77, -78])) : ∃ g, q = some ⟨g, 0, none⟩ := by
  rcases h.2 with ⟨h0, _⟩ | ⟨g, cp, cur, hv, _⟩
  · injection h0 with _ h1; simp at h1
  · injection hv with h1; exact ⟨g, h1⟩
theorem makeI (n : Nat) (h : n * 8 ≤ 140737488355328) : ∃ cur : Array Value, cur.size = n * 1 ∧ ∀ W : World, (Instr.makeSlice 22 (.int .i64 0) (.int .i64 (n : Int))).run Tryz.prog W = .ok (.slice (some ⟨W.heap.size, 0, none⟩) 0 n) (W.alloc (.cells cur 3)) := by
  obtain ⟨i0, hi, hz0, hz1, hz2⟩ := info_parts Tryz.info3
  refine ⟨madeCells (Value.cells (.int .i64 0)) (n * i0.size), by rw [size_madeCells, hz1], fun W => ?_⟩
  have := run_make (P := Tryz.prog) W 22 3 i0 _ Tryz.underlying22 hi hz0 .i64 .i64 0 (n : Int) (Int.le_refl _) (by omega) (by rw [hz2]; omega) (by omega)
  simpa only [Int.toNat_zero, Int.toNat_natCast] using this
theorem ownI {B : Nat} {w : World} {n : Nat} {cur : Array Value} (hB : B ≤ w.heap.size) (hn : n ≤ maxLen) (hs : cur.size = n * 1) : OwnK encI 3 1 B (w.alloc (.cells cur 3)) (some ⟨w.heap.size, 0, none⟩) n [] := by
  have : (flatK encI 1 ([] : List Int).toArray).toList = [] := by simp [flatK]
  unfold OwnK; rw [this]; exact World.ownsRow_made w cur n hB hn hs
theorem twoI {w : World} {M : Nat} {x y : Int} (h : w.heap[M]? = some (.cells #[.int .i64 x, .int .i64 y] 3 (0, 0))) : SrcK encI 1 w (some ⟨M, 0, none⟩) 2 [x, y] := by
  refine ⟨(fun h => by cases h), fun ad hq j u hj => ?_⟩
  cases hq
  rw [add_plain, Nat.zero_add]
  have hs := (List.getElem?_eq_some_iff.1 hj).1
  simp at hs
  have hc : w.cell? ⟨M, j, none⟩ = (#[.int .i64 x, .int .i64 y] : Array Value)[j]? := (by unfold World.cell?; simp [h])
  rw [hc]
  obtain rfl | rfl : j = 0 ∨ j = 1 := by omega
  · exact (flat_at (enc := encI) (k := 1) (l := [x, y]) (j := 0) (x := x) rfl 0 (by omega)).symm.trans hj
  · exact (flat_at (enc := encI) (k := 1) (l := [x, y]) (j := 1) (x := y) rfl 0 (by omega)).symm.trans hj
def spI : List Int := [-77, -78]
set_option maxHeartbeats 1000000 in
set_option maxRecDepth 100000 in
theorem memI (q : Option Addr) (c : Nat) (l : List Int) (w : World) (h : SlOf encI 1 w q c l) (hl : l.length * 8 + 64 ≤ 140737488355328) :
    Calls Tryz.prog 21 #[.slice q l.length c] w fun e w' => (∃ g cp, e = .returned (.slice (some ⟨g, 0, none⟩) l.length cp) ∧ OwnK encI 3 1 w.heap.size w' (some ⟨g, 0, none⟩) cp (l ++ spI) ∧ l.length + 2 ≤ cp) ∧ Below w.heap.size w w' := by
  have HS := hide h
  have l0 : (0 : Int) ≤ (l.length : Int) := by omega
  obtain ⟨cur, hcs, hmk⟩ := makeI (l.length + 2) (by omega)
  have hmk' : ∀ W : World, (Instr.makeSlice 22 (.int .i64 0) (.int .i64 ((l.length : Int) + 2))).run Tryz.prog W = .ok (.slice (some ⟨W.heap.size, 0, none⟩) 0 (l.length + 2)) (W.alloc (.cells cur 3)) := fun W => by have := hmk W; rwa [Int.natCast_add] at this
  have Hcs := hide hcs
  clear h hmk hcs
  go_enter Tryz.func21, Tryz.ntmps21
  go_wp2_with (first
    | (at_builtin; refine wpList_app rowI rfl _ _ rfl w.heap.size q8 cp8 l (some ⟨w8.heap.size, 0, none⟩) 2 spI l.length 2 (l.length + 2) rfl rfl rfl rfl rfl ((unhide Hown8).below ((Below.refl _ _).alloc (Nat.le_refl _) _)) (twoI (box_nw _ _)) (by unfold maxLen; omega) (by omega) (by have := (unhide B8).size; simp; omega) ?_; intro q9 cp9 w9 hown9 hb9 hnn9 _; obtain ⟨g9, hg9⟩ := OwnI hown9; subst hg9; have hc9 := hown9.ls.2.1; have c9 : (l.length : Int) ≤ (cp9 : Int) := (by simp [spI] at hc9; omega); have Hown9 := hide hown9; have B9 := hide (((unhide B8).alloc (unhide B8).size _).trans hb9); clear hown9 hb9 hnn9)
    | (at_builtin; refine wpList_app rowI rfl _ _ rfl w.heap.size (some ⟨w.heap.size, 0, none⟩) (l.length + 2) [] q c l 0 l.length l.length rfl rfl (by simp) rfl rfl (ownI (Nat.le_refl _) (by unfold maxLen; omega) (unhide Hcs)) ((unhide HS).below ((Below.refl _ _).alloc (Nat.le_refl _) _)).src (by unfold maxLen; omega) (by omega) (by simp) ?_; intro q8 cp8 w8 hown8 hb8 _ _; have Hown8 := hide hown8; have B8 := hide (((Below.refl w.heap.size w).alloc (Nat.le_refl _) (.cells cur 3)).trans hb8); clear hown8 hb8))
  go_ret
  exact ⟨⟨g9, cp9, rfl, unhide Hown9, by simp [spI] at hc9; exact hc9⟩, unhide B9⟩
theorem OwnS {B : Nat} {w : World} {q : Option Addr} {cap : Nat} {l : List ByteArray} (h : OwnK encS 9 1 B w q cap (l ++ [⟨#[115, 112, 97, 114, 101]⟩, ⟨#[114, 111, 111, 109]⟩])) : ∃ g, q = some ⟨g, 0, none⟩ := by
  rcases h.2 with ⟨h0, _⟩ | ⟨g, cp, cur, hv, _⟩
  · injection h0 with _ h1; simp at h1
  · injection hv with h1; exact ⟨g, h1⟩
theorem makeS (n : Nat) (h : n * 16 ≤ 140737488355328) : ∃ cur : Array Value, cur.size = n * 1 ∧ ∀ W : World, (Instr.makeSlice 23 (.int .i64 0) (.int .i64 (n : Int))).run Tryz.prog W = .ok (.slice (some ⟨W.heap.size, 0, none⟩) 0 n) (W.alloc (.cells cur 9)) := by
  obtain ⟨i0, hi, hz0, hz1, hz2⟩ := info_parts Tryz.info9
  refine ⟨madeCells (Value.cells (.string ⟨#[]⟩)) (n * i0.size), by rw [size_madeCells, hz1], fun W => ?_⟩
  have := run_make (P := Tryz.prog) W 23 9 i0 _ Tryz.underlying23 hi hz0 .i64 .i64 0 (n : Int) (Int.le_refl _) (by omega) (by rw [hz2]; omega) (by omega)
  simpa only [Int.toNat_zero, Int.toNat_natCast] using this
theorem ownS {B : Nat} {w : World} {n : Nat} {cur : Array Value} (hB : B ≤ w.heap.size) (hn : n ≤ maxLen) (hs : cur.size = n * 1) : OwnK encS 9 1 B (w.alloc (.cells cur 9)) (some ⟨w.heap.size, 0, none⟩) n [] := by
  have : (flatK encS 1 ([] : List ByteArray).toArray).toList = [] := by simp [flatK]
  unfold OwnK; rw [this]; exact World.ownsRow_made w cur n hB hn hs
theorem twoS {w : World} {M : Nat} {x y : ByteArray} (h : w.heap[M]? = some (.cells #[.string x, .string y] 9 (0, 0))) : SrcK encS 1 w (some ⟨M, 0, none⟩) 2 [x, y] := by
  refine ⟨(fun h => by cases h), fun ad hq j u hj => ?_⟩
  cases hq
  rw [add_plain, Nat.zero_add]
  have hs := (List.getElem?_eq_some_iff.1 hj).1
  simp at hs
  have hc : w.cell? ⟨M, j, none⟩ = (#[.string x, .string y] : Array Value)[j]? := (by unfold World.cell?; simp [h])
  rw [hc]
  obtain rfl | rfl : j = 0 ∨ j = 1 := by omega
  · exact (flat_at (enc := encS) (k := 1) (l := [x, y]) (j := 0) (x := x) rfl 0 (by omega)).symm.trans hj
  · exact (flat_at (enc := encS) (k := 1) (l := [x, y]) (j := 1) (x := y) rfl 0 (by omega)).symm.trans hj
def spS : List ByteArray := [⟨#[115, 112, 97, 114, 101]⟩, ⟨#[114, 111, 111, 109]⟩]
set_option maxHeartbeats 1000000 in
set_option maxRecDepth 100000 in
theorem memS (q : Option Addr) (c : Nat) (l : List ByteArray) (w : World) (h : SlOf encS 1 w q c l) (hl : l.length * 16 + 64 ≤ 140737488355328) :
    Calls Tryz.prog 22 #[.slice q l.length c] w fun e w' => (∃ g cp, e = .returned (.slice (some ⟨g, 0, none⟩) l.length cp) ∧ OwnK encS 9 1 w.heap.size w' (some ⟨g, 0, none⟩) cp (l ++ spS) ∧ l.length + 2 ≤ cp) ∧ Below w.heap.size w w' := by
  have HS := hide h
  have l0 : (0 : Int) ≤ (l.length : Int) := by omega
  obtain ⟨cur, hcs, hmk⟩ := makeS (l.length + 2) (by omega)
  have hmk' : ∀ W : World, (Instr.makeSlice 23 (.int .i64 0) (.int .i64 ((l.length : Int) + 2))).run Tryz.prog W = .ok (.slice (some ⟨W.heap.size, 0, none⟩) 0 (l.length + 2)) (W.alloc (.cells cur 9)) := fun W => by have := hmk W; rwa [Int.natCast_add] at this
  have Hcs := hide hcs
  clear h hmk hcs
  go_enter Tryz.func22, Tryz.ntmps22
  go_wp2_with (first
    | (at_builtin; refine wpList_app rowS rfl _ _ rfl w.heap.size q8 cp8 l (some ⟨w8.heap.size, 0, none⟩) 2 spS l.length 2 (l.length + 2) rfl rfl rfl rfl rfl ((unhide Hown8).below ((Below.refl _ _).alloc (Nat.le_refl _) _)) (twoS (box_nw _ _)) (by unfold maxLen; omega) (by omega) (by have := (unhide B8).size; simp; omega) ?_; intro q9 cp9 w9 hown9 hb9 hnn9 _; obtain ⟨g9, hg9⟩ := OwnS hown9; subst hg9; have hc9 := hown9.ls.2.1; have c9 : (l.length : Int) ≤ (cp9 : Int) := (by simp [spS] at hc9; omega); have Hown9 := hide hown9; have B9 := hide (((unhide B8).alloc (unhide B8).size _).trans hb9); clear hown9 hb9 hnn9)
    | (at_builtin; refine wpList_app rowS rfl _ _ rfl w.heap.size (some ⟨w.heap.size, 0, none⟩) (l.length + 2) [] q c l 0 l.length l.length rfl rfl (by simp) rfl rfl (ownS (Nat.le_refl _) (by unfold maxLen; omega) (unhide Hcs)) ((unhide HS).below ((Below.refl _ _).alloc (Nat.le_refl _) _)).src (by unfold maxLen; omega) (by omega) (by simp) ?_; intro q8 cp8 w8 hown8 hb8 _ _; have Hown8 := hide hown8; have B8 := hide (((Below.refl w.heap.size w).alloc (Nat.le_refl _) (.cells cur 9)).trans hb8); clear hown8 hb8))
  go_ret
  exact ⟨⟨g9, cp9, rfl, unhide Hown9, by simp [spS] at hc9; exact hc9⟩, unhide B9⟩
set_option maxRecDepth 100000 in
set_option maxHeartbeats 2000000 in
theorem memEqI (q : Option Addr) (c : Nat) (l : List Int) (q' : Option Addr) (c' : Nat) (m : List Int) (w : World) (h1 : SlOf encI 1 w q c l) (h2 : SlOf encI 1 w q' c' m) (hl : l.length ≤ 100000000000000) :
    Calls Tryz.prog 79 #[.slice q l.length c, .slice q' m.length c'] w fun e w' => e = .returned (.bool (decide (l = m))) ∧ Below w.heap.size w w' := by
  by_cases hlm : l.length = m.length
  · rw [← hlm]
    have H1 := hide h1
    have H2 := hide h2
    have hnn : ((l.length : Int) != (l.length : Int)) = false := by simp
    have a0 : (l.length : Int) ≤ 100000000000000 := by omega
    have HLM := hide hlm
    clear h1 h2 hlm
    go_enter Tryz.func79, Tryz.ntmps79
    go_wp2
    go_loopw [13] (fun i wr => ∃ k : Nat, k ≤ l.length ∧ i = .int .i64 k ∧ l.take k = m.take k ∧ Below w.heap.size w wr) (fun i _ => l.length - (intOf i).toNat)
    case atStart => exact ⟨0, by omega, rfl, rfl, Below.refl _ _⟩
    case round =>
      obtain ⟨k, hk, rfl, hpre, hbel⟩ := hrel
      have HB := hide hbel
      have HP := hide hpre
      by_cases hlt : k < l.length
      · obtain ⟨x, hx, _⟩ := get_at hlt
        obtain ⟨y, hy, _⟩ := get_at (l := m) (k := k) (by have := unhide HLM; omega)
        obtain ⟨b, off, hq, _, g1⟩ := intsAt ((unhide H1).below hbel) hx
        obtain ⟨b', off', hq', _, g2⟩ := intsAt ((unhide H2).below hbel) hy
        subst hq
        subst hq'
        have ki0 : (0 : Int) ≤ (k : Int) := by omega
        have ki1 : (k : Int) < (l.length : Int) := by omega
        by_cases hxy : x = y
        · subst hxy
          have HN := hide (pre_snoc hpre hx hy)
          clear hx hy hbel hpre
          go_wp2
          go_region_held3 (fun w' => w'.cell? ⟨b, off + k, none⟩ = some (.int .i64 x) ∧ w'.cell? ⟨b', off' + k, none⟩ = some (.int .i64 x)) (go_keep) (fail)
          all_goals
            go_wp2
            go_roundw
            case rel => exact ⟨k + 1, by omega, by go_num, unhide HN, (unhide HB).drew⟩
            case measure => simp [intOf]; omega
        · have HN := hide (pre_ne hx hy hxy)
          have hne : (x != y) = true := by simpa using hxy
          clear hx hy hbel hpre
          go_wp2
          go_region_held3 (fun w' => w'.cell? ⟨b, off + k, none⟩ = some (.int .i64 x) ∧ w'.cell? ⟨b', off' + k, none⟩ = some (.int .i64 y)) (go_keep) (fail)
          all_goals
            go_wp2
            go_ret
            exact ⟨ret_bool (by simp [unhide HN]), (unhide HB).drew⟩
      · have ki1 : ¬ (k : Int) < (l.length : Int) := by omega
        have HN := hide (show l = m by rw [← List.take_of_length_le (l := l) (i := k) (by omega), hpre, List.take_of_length_le (by have := unhide HLM; omega)])
        clear hpre
        go_wp2
        go_ret
        exact ⟨ret_bool (by simp [unhide HN]), unhide HB⟩
  · have hnn : ((l.length : Int) != (m.length : Int)) = true := by rw [bne_iff_ne]; omega
    have HN := hide (show l ≠ m from fun e => hlm (by rw [e]))
    clear h1 h2
    go_enter Tryz.func79, Tryz.ntmps79
    go_wp2
    go_ret
    exact ⟨ret_bool (by simp [unhide HN]), Below.refl _ _⟩
set_option maxRecDepth 100000 in
set_option maxHeartbeats 2000000 in
theorem memEqS (q : Option Addr) (c : Nat) (l : List ByteArray) (q' : Option Addr) (c' : Nat) (m : List ByteArray) (w : World) (h1 : SlOf encS 1 w q c l) (h2 : SlOf encS 1 w q' c' m) (hl : l.length ≤ 100000000000000) :
    Calls Tryz.prog 80 #[.slice q l.length c, .slice q' m.length c'] w fun e w' => e = .returned (.bool (decide (l = m))) ∧ Below w.heap.size w w' := by
  by_cases hlm : l.length = m.length
  · rw [← hlm]
    have H1 := hide h1
    have H2 := hide h2
    have hnn : ((l.length : Int) != (l.length : Int)) = false := by simp
    have a0 : (l.length : Int) ≤ 100000000000000 := by omega
    have HLM := hide hlm
    clear h1 h2 hlm
    go_enter Tryz.func80, Tryz.ntmps80
    go_wp2
    go_loopw [13] (fun i wr => ∃ k : Nat, k ≤ l.length ∧ i = .int .i64 k ∧ l.take k = m.take k ∧ Below w.heap.size w wr) (fun i _ => l.length - (intOf i).toNat)
    case atStart => exact ⟨0, by omega, rfl, rfl, Below.refl _ _⟩
    case round =>
      obtain ⟨k, hk, rfl, hpre, hbel⟩ := hrel
      have HB := hide hbel
      have HP := hide hpre
      by_cases hlt : k < l.length
      · obtain ⟨x, hx, _⟩ := get_at hlt
        obtain ⟨y, hy, _⟩ := get_at (l := m) (k := k) (by have := unhide HLM; omega)
        obtain ⟨b, off, hq, _, g1⟩ := wordsAt ((unhide H1).below hbel) hx
        obtain ⟨b', off', hq', _, g2⟩ := wordsAt ((unhide H2).below hbel) hy
        subst hq
        subst hq'
        have ki0 : (0 : Int) ≤ (k : Int) := by omega
        have ki1 : (k : Int) < (l.length : Int) := by omega
        by_cases hxy : x = y
        · subst hxy
          have HN := hide (pre_snoc hpre hx hy)
          clear hx hy hbel hpre
          go_wp2
          go_region_held3 (fun w' => w'.cell? ⟨b, off + k, none⟩ = some (.string x) ∧ w'.cell? ⟨b', off' + k, none⟩ = some (.string x)) (go_keep) (fail)
          all_goals
            go_wp2
            go_roundw
            case rel => exact ⟨k + 1, by omega, by go_num, unhide HN, (unhide HB).drew⟩
            case measure => simp [intOf]; omega
        · have HN := hide (pre_ne hx hy hxy)
          have hne : (x.toList == y.toList) = false := toList_ne hxy
          clear hx hy hbel hpre
          go_wp2
          go_region_held3 (fun w' => w'.cell? ⟨b, off + k, none⟩ = some (.string x) ∧ w'.cell? ⟨b', off' + k, none⟩ = some (.string y)) (go_keep) (fail)
          all_goals
            go_wp2
            go_ret
            exact ⟨ret_bool (by simp [unhide HN]), (unhide HB).drew⟩
      · have ki1 : ¬ (k : Int) < (l.length : Int) := by omega
        have HN := hide (show l = m by rw [← List.take_of_length_le (l := l) (i := k) (by omega), hpre, List.take_of_length_le (by have := unhide HLM; omega)])
        clear hpre
        go_wp2
        go_ret
        exact ⟨ret_bool (by simp [unhide HN]), unhide HB⟩
  · have hnn : ((l.length : Int) != (m.length : Int)) = true := by rw [bne_iff_ne]; omega
    have HN := hide (show l ≠ m from fun e => hlm (by rw [e]))
    clear h1 h2
    go_enter Tryz.func80, Tryz.ntmps80
    go_wp2
    go_ret
    exact ⟨ret_bool (by simp [unhide HN]), Below.refl _ _⟩
set_option maxHeartbeats 1000000 in
set_option maxRecDepth 100000 in
theorem keptI (g cp : Nat) (q' : Option Addr) (c' : Nat) (l : List Int) (w : World) (hl : l.length ≤ 100000000000000) (hN : LsOf encI 1 w (some ⟨g, 0, none⟩) (l ++ spI)) (hc : l.length + 2 ≤ cp) (hcm : cp ≤ maxLen) (hA' : SlOf encI 1 w q' c' l) :
    Calls Tryz.prog 41 #[.slice (some ⟨g, 0, none⟩) l.length cp, .slice q' l.length c'] w fun e w' => e = .returned (.bool true) ∧ Below w.heap.size w w' := by
  have l0 : (0 : Int) ≤ (l.length : Int) := by omega
  have l1 : (0 : Int) ≤ (l.length : Int) + 2 := by omega
  have l2 : (l.length : Int) + 2 ≤ (cp : Int) := by omega
  have l3 : (l.length : Int) < (l.length : Int) + 2 := by omega
  have l4 : (l.length : Int) + 1 < (l.length : Int) + 2 := by omega
  have l5 : (0 : Int) ≤ (l.length : Int) + 1 := by omega
  have l6 : (l.length : Int) ≤ 100000000000000 := by omega
  obtain ⟨b, off, hb, hlt, hAt⟩ := hN (by simp [spI])
  cases hb
  have c0 : w.cell? ⟨g, l.length, none⟩ = some (.int .i64 (-77)) := by
    have := hAt _ _ (flat_at (enc := encI) (k := 1) (l := l ++ spI) (j := l.length) (x := -77) (by simp [spI]) 0 (by omega))
    simpa [encI] using this
  have c1 : w.cell? ⟨g, l.length + 1, none⟩ = some (.int .i64 (-78)) := by
    have := hAt _ _ (flat_at (enc := encI) (k := 1) (l := l ++ spI) (j := l.length + 1) (x := -78) (by simp [spI]) 0 (by omega))
    simpa [encI] using this
  have hAl : SlOf encI 1 w (some ⟨g, 0, none⟩) cp l := ⟨(fun h => by cases h), by omega, hcm, hN.take (by decide)⟩
  have hsame := memEqI (some ⟨g, 0, none⟩) cp l q' c' l w hAl hA' hl
  rw [decide_eq_true rfl] at hsame
  have hnn : ((l.length : Int) != (l.length : Int)) = false := by simp
  clear hN hA' hAl hAt
  go_enter Tryz.func41, Tryz.ntmps41
  go_wp2_with (go_at_call 79; refine hsame.mono ?_; rintro e w1 ⟨rfl, b1⟩)
  go_ret
  exact ⟨rfl, b1⟩
set_option maxHeartbeats 1000000 in
set_option maxRecDepth 100000 in
theorem keptS (g cp : Nat) (q' : Option Addr) (c' : Nat) (l : List ByteArray) (w : World) (hl : l.length ≤ 100000000000000) (hN : LsOf encS 1 w (some ⟨g, 0, none⟩) (l ++ spS)) (hc : l.length + 2 ≤ cp) (hcm : cp ≤ maxLen) (hA' : SlOf encS 1 w q' c' l) :
    Calls Tryz.prog 42 #[.slice (some ⟨g, 0, none⟩) l.length cp, .slice q' l.length c'] w fun e w' => e = .returned (.bool true) ∧ Below w.heap.size w w' := by
  have l0 : (0 : Int) ≤ (l.length : Int) := by omega
  have l1 : (0 : Int) ≤ (l.length : Int) + 2 := by omega
  have l2 : (l.length : Int) + 2 ≤ (cp : Int) := by omega
  have l3 : (l.length : Int) < (l.length : Int) + 2 := by omega
  have l4 : (l.length : Int) + 1 < (l.length : Int) + 2 := by omega
  have l5 : (0 : Int) ≤ (l.length : Int) + 1 := by omega
  have l6 : (l.length : Int) ≤ 100000000000000 := by omega
  obtain ⟨b, off, hb, hlt, hAt⟩ := hN (by simp [spS])
  cases hb
  have c0 : w.cell? ⟨g, l.length, none⟩ = some (.string (⟨#[115, 112, 97, 114, 101]⟩)) := by
    have := hAt _ _ (flat_at (enc := encS) (k := 1) (l := l ++ spS) (j := l.length) (x := ⟨#[115, 112, 97, 114, 101]⟩) (by simp [spS]) 0 (by omega))
    simpa [encS] using this
  have c1 : w.cell? ⟨g, l.length + 1, none⟩ = some (.string (⟨#[114, 111, 111, 109]⟩)) := by
    have := hAt _ _ (flat_at (enc := encS) (k := 1) (l := l ++ spS) (j := l.length + 1) (x := ⟨#[114, 111, 111, 109]⟩) (by simp [spS]) 0 (by omega))
    simpa [encS] using this
  have hAl : SlOf encS 1 w (some ⟨g, 0, none⟩) cp l := ⟨(fun h => by cases h), by omega, hcm, hN.take (by decide)⟩
  have hsame := memEqS (some ⟨g, 0, none⟩) cp l q' c' l w hAl hA' hl
  rw [decide_eq_true rfl] at hsame
  have hnn : ((l.length : Int) != (l.length : Int)) = false := by simp
  clear hN hA' hAl hAt
  go_enter Tryz.func42, Tryz.ntmps42
  go_wp2_with (go_at_call 80; refine hsame.mono ?_; rintro e w1 ⟨rfl, b1⟩)
  go_ret
  exact ⟨rfl, b1⟩
set_option maxHeartbeats 4000000 in
set_option maxRecDepth 100000 in
theorem samePred_eq (kind : Int) (attr : ByteArray) (ints : List Int) (words : List ByteArray) (lo hi : Int) (qi : Option Addr) (ci : Nat) (qw : Option Addr) (cw : Nat) (qi' : Option Addr) (ci' : Nat) (qw' : Option Addr) (cw' : Nat) (w : World) (s1 : SlOf encI 1 w qi ci ints) (s2 : SlOf encI 1 w qi' ci' ints) (t1 : SlOf encS 1 w qw cw words) (t2 : SlOf encS 1 w qw' cw' words) (m1 : ints.length ≤ 100000000000000) (m2 : words.length ≤ 100000000000000) :
    Calls Tryz.prog 40 #[.agg #[.int .i64 kind, .string attr, .slice qi ints.length ci, .slice qw words.length cw, .int .i64 lo, .int .i64 hi], .agg #[.int .i64 kind, .string attr, .slice qi' ints.length ci', .slice qw' words.length cw', .int .i64 lo, .int .i64 hi]] w fun e w' => e = .returned (.bool true) ∧ Below w.heap.size w w' := by
  obtain ⟨X, HX⟩ : ∃ X, (w.alloc (.cells #[.int .i64 kind, .string attr, .slice qi ints.length ci, .slice qw words.length cw, .int .i64 lo, .int .i64 hi] 25)).alloc (.cells #[.int .i64 kind, .string attr, .slice qi' ints.length ci', .slice qw' words.length cw', .int .i64 lo, .int .i64 hi] 25) = X := ⟨_, rfl⟩
  have hXs : X.heap.size = w.heap.size + 2 := by rw [← HX]; simp
  have hwX : Below w.heap.size w X := by rw [← HX]; exact ((Below.refl _ _).alloc (Nat.le_refl _) _).alloc (by simp) _
  have hX0 : X.heap[w.heap.size]? = some (.cells #[.int .i64 kind, .string attr, .slice qi ints.length ci, .slice qw words.length cw, .int .i64 lo, .int .i64 hi] 25 (0, 0)) := by rw [← HX, Below.heap_alloc _ _ _ (by simp)]; exact box_nw _ _
  have hX1 : X.heap[w.heap.size + 1]? = some (.cells #[.int .i64 kind, .string attr, .slice qi' ints.length ci', .slice qw' words.length cw', .int .i64 lo, .int .i64 hi] 25 (0, 0)) := by rw [← HX, show w.heap.size + 1 = (w.alloc (.cells #[.int .i64 kind, .string attr, .slice qi ints.length ci, .slice qw words.length cw, .int .i64 lo, .int .i64 hi] 25)).heap.size by simp]; exact box_nw _ _
  obtain ⟨x0, x1, x2, x3, x4, x5⟩ := of6' hX0
  obtain ⟨y0, y1, y2, y3, y4, y5⟩ := of6' hX1
  have HX0 := hide hX0
  have HX1 := hide hX1
  have HWX := hide hwX
  have c1 := memEqI qi ci ints qi' ci' ints X (s1.below hwX) (s2.below hwX) m1
  have c2 := fun w' (hb : Below w.heap.size w w') => memEqS qw cw words qw' cw' words w' (t1.below hb) (t2.below hb) m2
  rw [decide_eq_true rfl] at c1 c2
  clear s1 s2 t1 t2 hwX hX0 hX1
  go_enter Tryz.func40, Tryz.ntmps40
  go_wp2_with (first
    | (go_at_call 79; refine c1.mono ?_; rintro e u1 ⟨rfl, b1⟩; obtain ⟨d0, d1, d2, d3, d4, d5⟩ := of6' ((b1.block _ (by omega)).trans (unhide HX0)); obtain ⟨e0, e1, e2, e3, e4, e5⟩ := of6' ((b1.block _ (by omega)).trans (unhide HX1)); have B1 := hide b1; clear b1)
    | (go_at_call 80; refine (c2 _ (by exact below_sub (unhide HWX) (unhide B1))).mono ?_; rintro e u2 ⟨rfl, b2⟩; have B2 := hide (below_sub (unhide B1) b2); clear b2))
  go_ret
  exact ⟨rfl, below_sub (unhide HWX) (unhide B2)⟩
set_option maxHeartbeats 4000000 in
set_option maxRecDepth 100000 in
theorem keptPred_any (kind : Int) (attr : ByteArray) (ints : List Int) (words : List ByteArray) (lo hi : Int) (g1 k1 g2 k2 : Nat) (qi' : Option Addr) (ci' : Nat) (qw' : Option Addr) (cw' : Nat) (w : World) (s1 : LsOf encI 1 w (some ⟨g1, 0, none⟩) (ints ++ spI)) (r1 : ints.length + 2 ≤ k1) (z1 : k1 ≤ maxLen) (s2 : SlOf encI 1 w qi' ci' ints) (t1 : LsOf encS 1 w (some ⟨g2, 0, none⟩) (words ++ spS)) (r2 : words.length + 2 ≤ k2) (z2 : k2 ≤ maxLen) (t2 : SlOf encS 1 w qw' cw' words) (m1 : ints.length ≤ 100000000000000) (m2 : words.length ≤ 100000000000000) :
    Calls Tryz.prog 15 #[.agg #[.int .i64 kind, .string attr, .slice (some ⟨g1, 0, none⟩) ints.length k1, .slice (some ⟨g2, 0, none⟩) words.length k2, .int .i64 lo, .int .i64 hi], .agg #[.int .i64 kind, .string attr, .slice qi' ints.length ci', .slice qw' words.length cw', .int .i64 lo, .int .i64 hi]] w fun e w' => e = .returned (.bool true) ∧ Below w.heap.size w w' := by
  obtain ⟨X, HX⟩ : ∃ X, (w.alloc (.cells #[.int .i64 kind, .string attr, .slice (some ⟨g1, 0, none⟩) ints.length k1, .slice (some ⟨g2, 0, none⟩) words.length k2, .int .i64 lo, .int .i64 hi] 25)).alloc (.cells #[.int .i64 kind, .string attr, .slice qi' ints.length ci', .slice qw' words.length cw', .int .i64 lo, .int .i64 hi] 25) = X := ⟨_, rfl⟩
  have hXs : X.heap.size = w.heap.size + 2 := by rw [← HX]; simp
  have hwX : Below w.heap.size w X := by rw [← HX]; exact ((Below.refl _ _).alloc (Nat.le_refl _) _).alloc (by simp) _
  have hX0 : X.heap[w.heap.size]? = some (.cells #[.int .i64 kind, .string attr, .slice (some ⟨g1, 0, none⟩) ints.length k1, .slice (some ⟨g2, 0, none⟩) words.length k2, .int .i64 lo, .int .i64 hi] 25 (0, 0)) := by rw [← HX, Below.heap_alloc _ _ _ (by simp)]; exact box_nw _ _
  have hX1 : X.heap[w.heap.size + 1]? = some (.cells #[.int .i64 kind, .string attr, .slice qi' ints.length ci', .slice qw' words.length cw', .int .i64 lo, .int .i64 hi] 25 (0, 0)) := by rw [← HX, show w.heap.size + 1 = (w.alloc (.cells #[.int .i64 kind, .string attr, .slice (some ⟨g1, 0, none⟩) ints.length k1, .slice (some ⟨g2, 0, none⟩) words.length k2, .int .i64 lo, .int .i64 hi] 25)).heap.size by simp]; exact box_nw _ _
  obtain ⟨x0, x1, x2, x3, x4, x5⟩ := of6' hX0
  obtain ⟨y0, y1, y2, y3, y4, y5⟩ := of6' hX1
  have HX0 := hide hX0
  have HX1 := hide hX1
  have HWX := hide hwX
  have a1 : SlOf encI 1 w (some ⟨g1, 0, none⟩) k1 ints := ⟨(fun h => by cases h), by omega, z1, s1.take (by decide)⟩
  have a2 : SlOf encS 1 w (some ⟨g2, 0, none⟩) k2 words := ⟨(fun h => by cases h), by omega, z2, t1.take (by decide)⟩
  have c0 := samePred_eq kind attr ints words lo hi (some ⟨g1, 0, none⟩) k1 (some ⟨g2, 0, none⟩) k2 qi' ci' qw' cw' X (a1.below hwX) (s2.below hwX) (a2.below hwX) (t2.below hwX) m1 m2
  have c1 := fun w' (hb : Below w.heap.size w w') => keptI g1 k1 qi' ci' ints w' m1 (s1.below hb) r1 z1 (s2.below hb)
  have c2 := fun w' (hb : Below w.heap.size w w') => keptS g2 k2 qw' cw' words w' m2 (t1.below hb) r2 z2 (t2.below hb)
  clear s1 s2 t1 t2 hwX hX0 hX1 a1 a2
  go_enter Tryz.func15, Tryz.ntmps15
  go_wp2_with (first
    | (go_at_call 40; refine c0.mono ?_; rintro e u1 ⟨rfl, b1⟩; obtain ⟨d0, d1, d2, d3, d4, d5⟩ := of6' ((b1.block _ (by omega)).trans (unhide HX0)); obtain ⟨e0, e1, e2, e3, e4, e5⟩ := of6' ((b1.block _ (by omega)).trans (unhide HX1)); have B1 := hide b1; clear b1)
    | (go_at_call 41; refine (c1 _ (by exact below_sub (unhide HWX) (unhide B1))).mono ?_; rintro e u2 ⟨rfl, b2⟩; have B2 := hide (below_sub (unhide B1) b2); obtain ⟨f0, f1, f2, f3, f4, f5⟩ := of6' (((unhide B2).block _ (by omega)).trans (unhide HX0)); obtain ⟨h0, h1, h2, h3, h4, h5⟩ := of6' (((unhide B2).block _ (by omega)).trans (unhide HX1)); clear b2)
    | (go_at_call 42; refine (c2 _ (by exact below_sub (unhide HWX) (unhide B2))).mono ?_; rintro e u3 ⟨rfl, b3⟩; have B3 := hide (below_sub (unhide B2) b3); clear b3))
  go_ret
  exact ⟨rfl, below_sub (unhide HWX) (unhide B3)⟩
set_option maxHeartbeats 4000000 in
set_option maxRecDepth 100000 in
theorem memPred_any (kind : Int) (attr : ByteArray) (ints : List Int) (words : List ByteArray) (lo hi : Int) (qi : Option Addr) (ci : Nat) (qw : Option Addr) (cw : Nat) (w : World) (s1 : SlOf encI 1 w qi ci ints) (t1 : SlOf encS 1 w qw cw words) (m1 : ints.length * 8 + 64 ≤ 140737488355328) (m2 : words.length * 16 + 64 ≤ 140737488355328) :
    Calls Tryz.prog 7 #[.agg #[.int .i64 kind, .string attr, .slice qi ints.length ci, .slice qw words.length cw, .int .i64 lo, .int .i64 hi]] w fun e w' => (∃ g1 k1 g2 k2, e = .returned (.agg #[.int .i64 kind, .string attr, .slice (some ⟨g1, 0, none⟩) ints.length k1, .slice (some ⟨g2, 0, none⟩) words.length k2, .int .i64 lo, .int .i64 hi]) ∧ LsOf encI 1 w' (some ⟨g1, 0, none⟩) (ints ++ spI) ∧ ints.length + 2 ≤ k1 ∧ k1 ≤ maxLen ∧ LsOf encS 1 w' (some ⟨g2, 0, none⟩) (words ++ spS) ∧ words.length + 2 ≤ k2 ∧ k2 ≤ maxLen) ∧ Below w.heap.size w w' := by
  obtain ⟨X, HX⟩ : ∃ X, (w.alloc (.cells #[.int .i64 kind, .string attr, .slice qi ints.length ci, .slice qw words.length cw, .int .i64 lo, .int .i64 hi] 25)).alloc (.cells #[.int .i64 0, .string ⟨#[]⟩, .slice none 0 0, .slice none 0 0, .int .i64 0, .int .i64 0] 25) = X := ⟨_, rfl⟩
  have hXs : X.heap.size = w.heap.size + 2 := by rw [← HX]; simp
  have hwX : Below w.heap.size w X := by rw [← HX]; exact ((Below.refl _ _).alloc (Nat.le_refl _) _).alloc (by simp) _
  have hX0 : X.heap[w.heap.size]? = some (.cells #[.int .i64 kind, .string attr, .slice qi ints.length ci, .slice qw words.length cw, .int .i64 lo, .int .i64 hi] 25 (0, 0)) := by rw [← HX, Below.heap_alloc _ _ _ (by simp)]; exact box_nw _ _
  have hX1 : X.heap[w.heap.size + 1]? = some (.cells #[.int .i64 0, .string ⟨#[]⟩, .slice none 0 0, .slice none 0 0, .int .i64 0, .int .i64 0] 25 (0, 0)) := by rw [← HX, show w.heap.size + 1 = (w.alloc (.cells #[.int .i64 kind, .string attr, .slice qi ints.length ci, .slice qw words.length cw, .int .i64 lo, .int .i64 hi] 25)).heap.size by simp]; exact box_nw _ _
  obtain ⟨x0, x1, x2, x3, x4, x5⟩ := of6' hX0
  obtain ⟨y0, y1, y2, y3, y4, y5⟩ := of6' hX1
  have xf : ∀ o, X.frozen? ⟨w.heap.size, o, none⟩ = false := fun o => frozen_free hX0
  have yf : ∀ o, X.frozen? ⟨w.heap.size + 1, o, none⟩ = false := fun o => frozen_free hX1
  have c1 := memI qi ci ints X (s1.below hwX) m1
  have c2 := fun w' (hb : Below w.heap.size w w') => memS qw cw words w' (t1.below hb) m2
  have HWX := hide hwX
  clear s1 t1 hwX hX0 hX1
  go_enter Tryz.func7, Tryz.ntmps7
  go_wp2_with (first
    | (go_at_call 21; refine c1.mono ?_; rintro e w1 ⟨⟨g1, k1, rfl, o1, r1⟩, b1⟩; obtain ⟨hc1, hf1⟩ := bcell b1; have hz1 : w.heap.size + 1 < w1.heap.size := (by have := b1.size; omega); have hz1' : w.heap.size < w1.heap.size := (by omega); rw [hXs] at hc1 hf1; have O1 := hide o1; have B1 := hide b1; have R1 := hide r1; clear o1 b1 r1)
    | (go_at_call 22; refine (c2 _ (by exact (below_sub (unhide HWX) (unhide B1)).setCell (Nat.le_refl _) _)).mono ?_; rintro e w2 ⟨⟨g2, k2, rfl, o2, r2⟩, b2⟩; obtain ⟨hc2, hf2⟩ := bcell b2; simp only [World.size_setCell] at hc2 hf2; have hz2 : w.heap.size + 1 < w2.heap.size := (by have := b2.size; simp at this; omega); have hz2' : w.heap.size < w2.heap.size := (by omega); have O2 := hide o2; have B2 := hide b2; have R2 := hide r2; clear o2 b2 r2))
  refine bodyPost_ret (v := .agg #[.int .i64 kind, .string attr, .slice (some ⟨g1, 0, none⟩) ints.length k1, .slice (some ⟨g2, 0, none⟩) words.length k2, .int .i64 lo, .int .i64 hi]) (by simp [results, Tryz.results7, go_sem, *]) rfl ?_
  have s1 := (unhide B1).size
  have s2 := (unhide B2).size
  simp only [World.size_setCell] at s2
  have u0 : ∀ (W : World), SameUp (w.heap.size + 2) W W := fun W => SameUp.of (Below.refl _ _)
  have u2 := (((((((u0 w2).set (p := ⟨w.heap.size, 3, none⟩) (by simp) (.slice (some ⟨g2, 0, none⟩) words.length k2)).set (p := ⟨w.heap.size + 1, 0, none⟩) (by simp) (.int .i64 kind)).set (p := ⟨w.heap.size + 1, 1, none⟩) (by simp) (.string attr)).set (p := ⟨w.heap.size + 1, 2, none⟩) (by simp) (.slice (some ⟨g1, 0, none⟩) ints.length k1)).set (p := ⟨w.heap.size + 1, 3, none⟩) (by simp) (.slice (some ⟨g2, 0, none⟩) words.length k2)).set (p := ⟨w.heap.size + 1, 4, none⟩) (by simp) (.int .i64 lo)).set (p := ⟨w.heap.size + 1, 5, none⟩) (by simp) (.int .i64 hi)
  have u1 := (((u0 w1).set (p := ⟨w.heap.size, 2, none⟩) (by simp) (.slice (some ⟨g1, 0, none⟩) ints.length k1)).trans (SameUp.of (unhide B2))).trans u2
  have f1 : ∀ a, some (⟨g1, 0, none⟩ : Addr) = some a → w.heap.size + 2 ≤ a.block := fun a e => by have := (unhide O1).from a e; omega
  have f2 : ∀ a, some (⟨g2, 0, none⟩ : Addr) = some a → w.heap.size + 2 ≤ a.block := fun a e => by have := (unhide O2).from a e; simp only [World.size_setCell] at this; omega
  refine ⟨⟨g1, k1, g2, k2, rfl, ((unhide O1).ls.up f1 u1).2.2.2, unhide R1, (unhide O1).ls.2.2.1, ((unhide O2).ls.up f2 u2).2.2.2, unhide R2, (unhide O2).ls.2.2.1⟩, ?_⟩
  exact (((((((below_sub ((below_sub (unhide HWX) (unhide B1)).setCell (Nat.le_refl _) _) (unhide B2)).setCell (Nat.le_refl _) _).setCell (Nat.le_succ _) _).setCell (Nat.le_succ _) _).setCell (Nat.le_succ _) _).setCell (Nat.le_succ _) _).setCell (Nat.le_succ _) _).setCell (Nat.le_succ _) _
theorem rowR : RowOf encR 26 42 4 48 where
  und := Tryz.underlying26
  info := by
    obtain ⟨i0, hi, hz0, hz1, hz2⟩ := info_parts Tryz.info42
    exact ⟨i0, _, hi, hz0, hz1, hz2, rfl⟩
  pos := by decide
  one := one_flat (fun x c hc => by
    have hm : c = 0 ∨ c = 1 ∨ c = 2 ∨ c = 3 := by omega
    rcases hm with e | e | e | e <;> rw [e] <;> rfl) (by decide)
set_option maxRecDepth 100000 in
theorem eqlR_same (x : Pr) (w : World) : (binOp .eql 42 (.agg #[.string x.name, .int .i64 x.kind, .int .i64 x.num, .string x.word]) (.agg #[.string x.name, .int .i64 x.kind, .int .i64 x.num, .string x.word])).run Tryz.prog w = .ok (.bool true) w := by
  have u3 := Tryz.underlying3
  have a3 := Tryz.isAgg3
  have z3 := Tryz.sizeOf3
  have u9 := Tryz.underlying9
  have a9 := Tryz.isAgg9
  have z9 := Tryz.sizeOf9
  have a45 := Tryz.isAgg40
  have z45 := Tryz.sizeOf40
  have hS : Tryz.prog.underlying 42 = some (.struct (Tryz.prog.fieldsOf 42)) := by kernel_rfl
  have hp : Tryz.prog.stoodInHeld 42 = false := by kernel_rfl
  have h45 : (Op.equalIn 9999 40 (.agg #[.int .i64 x.kind, .int .i64 x.num, .string x.word]) (.agg #[.int .i64 x.kind, .int .i64 x.num, .string x.word])).run Tryz.prog w = .ok true w := by
    clear hS hp
    have hS45 : Tryz.prog.underlying 40 = some (.struct (Tryz.prog.fieldsOf 40)) := by kernel_rfl
    have hp45 : Tryz.prog.stoodInHeld 40 = false := by kernel_rfl
    rw [show (9999 : Nat) = 9998 + 1 from rfl, run_equalIn_agg w 9998 40 _ _ hS45 hp45]
    simp only [Program.fieldsOf, Tryz.underlying40]
    go_simp
  rw [run_eql_struct, show (10000 : Nat) = 9999 + 1 from rfl, run_equalIn_agg w 9999 42 _ _ hS hp]
  simp only [Program.fieldsOf, Tryz.underlying42]
  go_simp
set_option maxRecDepth 100000 in
theorem neqR_same (x : Pr) (w : World) : (binOp .neq 42 (.agg #[.string x.name, .int .i64 x.kind, .int .i64 x.num, .string x.word]) (.agg #[.string x.name, .int .i64 x.kind, .int .i64 x.num, .string x.word])).run Tryz.prog w = .ok (.bool false) w := by
  have u3 := Tryz.underlying3
  have a3 := Tryz.isAgg3
  have z3 := Tryz.sizeOf3
  have u9 := Tryz.underlying9
  have a9 := Tryz.isAgg9
  have z9 := Tryz.sizeOf9
  have a45 := Tryz.isAgg40
  have z45 := Tryz.sizeOf40
  have hS : Tryz.prog.underlying 42 = some (.struct (Tryz.prog.fieldsOf 42)) := by kernel_rfl
  have hp : Tryz.prog.stoodInHeld 42 = false := by kernel_rfl
  have h45 : (Op.equalIn 9999 40 (.agg #[.int .i64 x.kind, .int .i64 x.num, .string x.word]) (.agg #[.int .i64 x.kind, .int .i64 x.num, .string x.word])).run Tryz.prog w = .ok true w := by
    clear hS hp
    have hS45 : Tryz.prog.underlying 40 = some (.struct (Tryz.prog.fieldsOf 40)) := by kernel_rfl
    have hp45 : Tryz.prog.stoodInHeld 40 = false := by kernel_rfl
    rw [show (9999 : Nat) = 9998 + 1 from rfl, run_equalIn_agg w 9998 40 _ _ hS45 hp45]
    simp only [Program.fieldsOf, Tryz.underlying40]
    go_simp
  rw [run_neq_struct, show (10000 : Nat) = 9999 + 1 from rfl, run_equalIn_agg w 9999 42 _ _ hS hp]
  simp only [Program.fieldsOf, Tryz.underlying42]
  go_simp
/-- The pair that marks the spare room. -/
def spP : Pr := ⟨⟨#[115, 112, 97, 114, 101]⟩, 0, 0, ⟨#[]⟩⟩
theorem makePr (n : Nat) (h : n * 48 ≤ 140737488355328) : ∃ cur : Array Value, cur.size = n * 4 ∧ ∀ W : World, (Instr.makeSlice 26 (.int .i64 0) (.int .i64 (n : Int))).run Tryz.prog W = .ok (.slice (some ⟨W.heap.size, 0, none⟩) 0 n) (W.alloc (.cells cur 42)) := by
  obtain ⟨i0, hi, hz0, hz1, hz2⟩ := info_parts Tryz.info42
  refine ⟨madeCells (Value.agg #[.string ⟨#[]⟩, .int .i64 0, .int .i64 0, .string ⟨#[]⟩]).cells (n * i0.size), by rw [size_madeCells, hz1], fun W => ?_⟩
  have := run_make (P := Tryz.prog) W 26 42 i0 _ Tryz.underlying26 hi hz0 .i64 .i64 0 (n : Int) (Int.le_refl _) (by omega) (by rw [hz2]; omega) (by omega)
  simpa only [Int.toNat_zero, Int.toNat_natCast] using this
theorem ownP {B : Nat} {w : World} {n : Nat} {cur : Array Value} (hB : B ≤ w.heap.size) (hn : n ≤ maxLen) (hs : cur.size = n * 4) : OwnK encR 42 4 B (w.alloc (.cells cur 42)) (some ⟨w.heap.size, 0, none⟩) n [] := by
  have : (flatK encR 4 ([] : List Pr).toArray).toList = [] := by simp [flatK]
  unfold OwnK; rw [this]; exact World.ownsRow_made w cur n hB hn hs
theorem OwnP {B : Nat} {w : World} {q : Option Addr} {cap : Nat} {l : List Pr} (h : OwnK encR 42 4 B w q cap (l ++ [spP])) : ∃ g, q = some ⟨g, 0, none⟩ := by
  rcases h.2 with ⟨h0, _⟩ | ⟨g, cp, cur, hv, _⟩
  · injection h0 with _ h1; simp at h1
  · injection hv with h1; exact ⟨g, h1⟩
theorem pr_src {w : World} {M : Nat} {u : Pr} (h : w.heap[M]? = some (.cells #[.string u.name, .int .i64 u.kind, .int .i64 u.num, .string u.word] 42 (0, 0))) : SrcK encR 4 w (some ⟨M, 0, none⟩) 1 [u] :=
  ⟨(fun h => by cases h), fun ad hq j z hj => by
    cases hq
    rw [add_plain, Nat.zero_add]
    have hs := (List.getElem?_eq_some_iff.1 hj).1
    simp [flatK] at hs
    have hc : w.cell? ⟨M, j, none⟩ = (#[.string u.name, .int .i64 u.kind, .int .i64 u.num, .string u.word] : Array Value)[j]? := (by unfold World.cell?; simp [h])
    rw [hc]
    have e := flat_at (enc := encR) (k := 4) (l := [u]) (j := 0) (x := u) rfl j hs
    rw [Nat.zero_mul, Nat.zero_add] at e
    rw [e] at hj
    obtain rfl | rfl | rfl | rfl : j = 0 ∨ j = 1 ∨ j = 2 ∨ j = 3 := by omega
    all_goals exact hj⟩
set_option maxHeartbeats 1000000 in
set_option maxRecDepth 100000 in
theorem memP (q : Option Addr) (c : Nat) (l : List Pr) (w : World) (h : SlOf encR 4 w q c l) (hl : l.length * 48 + 64 ≤ 140737488355328) :
    Calls Tryz.prog 8 #[.slice q l.length c] w fun e w' => (∃ g cp, e = .returned (.slice (some ⟨g, 0, none⟩) l.length cp) ∧ OwnK encR 42 4 w.heap.size w' (some ⟨g, 0, none⟩) cp (l ++ [spP]) ∧ l.length + 1 ≤ cp) ∧ Below w.heap.size w w' := by
  have HS := hide h
  have l0 : (0 : Int) ≤ (l.length : Int) := by omega
  obtain ⟨cur, hcs, hmk⟩ := makePr (l.length + 1) (by omega)
  have hmk' : ∀ W : World, (Instr.makeSlice 26 (.int .i64 0) (.int .i64 ((l.length : Int) + 1))).run Tryz.prog W = .ok (.slice (some ⟨W.heap.size, 0, none⟩) 0 (l.length + 1)) (W.alloc (.cells cur 42)) := fun W => by have := hmk W; rwa [Int.natCast_add] at this
  have Hcs := hide hcs
  clear h hmk hcs
  go_enter Tryz.func8, Tryz.ntmps8
  go_wp2_with (first
    | (at_builtin; refine wpList_app rowR rfl _ _ rfl w.heap.size q8 cp8 l (some ⟨w8.heap.size, 0, none⟩) 1 [spP] l.length 1 (l.length + 1) rfl rfl rfl rfl rfl ((unhide Hown8).below ((Below.refl _ _).alloc (Nat.le_refl _) _)) (pr_src (box_nw _ _)) (by unfold maxLen; omega) (by omega) (by have := (unhide B8).size; simp; omega) ?_; intro q9 cp9 w9 hown9 hb9 hnn9 _; obtain ⟨g9, hg9⟩ := OwnP hown9; subst hg9; have hc9 := hown9.ls.2.1; have c9 : (l.length : Int) ≤ (cp9 : Int) := (by simp at hc9; omega); have Hown9 := hide hown9; have B9 := hide (((unhide B8).alloc (unhide B8).size _).trans hb9); clear hown9 hb9 hnn9)
    | (at_builtin; refine wpList_app rowR rfl _ _ rfl w.heap.size (some ⟨w.heap.size, 0, none⟩) (l.length + 1) [] q c l 0 l.length l.length rfl rfl (by simp) rfl rfl (ownP (Nat.le_refl _) (by unfold maxLen; omega) (unhide Hcs)) ((unhide HS).below ((Below.refl _ _).alloc (Nat.le_refl _) _)).src (by unfold maxLen; omega) (by omega) (by simp) ?_; intro q8 cp8 w8 hown8 hb8 _ _; have Hown8 := hide hown8; have B8 := hide (((Below.refl w.heap.size w).alloc (Nat.le_refl _) (.cells cur 42)).trans hb8); clear hown8 hb8))
  go_ret
  exact ⟨⟨g9, cp9, rfl, unhide Hown9, by simp at hc9; exact hc9⟩, unhide B9⟩
set_option maxHeartbeats 1000000 in
theorem sameP_eq (p p' : Option Addr) (cap cap' : Nat) (l : List Pr) (w : World) (hm : l.length ≤ 100000000000000) (hA : SlOf encR 4 w p cap l) (hA' : SlOf encR 4 w p' cap' l) :
    Calls Tryz.prog 43 #[.slice p l.length cap, .slice p' l.length cap'] w fun e w' => e = .returned (.bool true) ∧ Below w.heap.size w w' := by
  have HA := hide hA
  have HA' := hide hA'
  have hne := fun (x : Pr) (W : World) => neqR_same x W
  have hnn : ((l.length : Int) != (l.length : Int)) = false := by simp
  have a0 : (l.length : Int) ≤ 100000000000000 := by omega
  clear hA hA'
  go_enter Tryz.func43, Tryz.ntmps43
  go_wp2
  go_loopw [13] (fun i wr => ∃ k : Nat, k ≤ l.length ∧ i = .int .i64 k ∧ Below w.heap.size w wr) (fun i _ => l.length - (intOf i).toNat)
  case atStart => exact ⟨0, by omega, rfl, Below.refl _ _⟩
  case round =>
    obtain ⟨k, hk, rfl, hbel⟩ := hrel
    by_cases hlt : k < l.length
    · obtain ⟨x, hx, _⟩ := get_at hlt
      obtain ⟨bb, off, rfl, hbb, g0, g1, g2, g3⟩ := pairAt ((unhide HA).below hbel) hx
      obtain ⟨cc, off', rfl, hcc, c0, c1, c2, c3⟩ := pairAt ((unhide HA').below hbel) hx
      have ki0 : (0 : Int) ≤ (k : Int) := by omega
      have ki1 : (k : Int) < (l.length : Int) := by omega
      have hnx := hne x
      clear hx hne
      go_wp2
      go_quiet (fail)
      go_wp2
      go_roundw
      case rel => exact ⟨k + 1, by omega, by go_num, below_drewN hbel _⟩
      case measure => simp [intOf]; omega
    · obtain rfl : k = l.length := by omega
      go_wp2
      go_ret
      exact ⟨rfl, hbel⟩
set_option maxHeartbeats 1000000 in
set_option maxRecDepth 100000 in
theorem keptP (g cp : Nat) (p' : Option Addr) (cp' : Nat) (l : List Pr) (w : World) (hl : l.length ≤ 100000000000000) (hN : LsOf encR 4 w (some ⟨g, 0, none⟩) (l ++ [spP])) (hc : l.length + 1 ≤ cp) (hcm : cp ≤ maxLen) (hA' : SlOf encR 4 w p' cp' l) :
    Calls Tryz.prog 16 #[.slice (some ⟨g, 0, none⟩) l.length cp, .slice p' l.length cp'] w fun e w' => e = .returned (.bool true) ∧ Below w.heap.size w w' := by
  have mixed : Tryz.prog.follows .mixedOrders = true := by kernel_rfl
  have l0 : (0 : Int) ≤ (l.length : Int) := by omega
  have l1 : (0 : Int) ≤ (l.length : Int) + 1 := by omega
  have l2 : (l.length : Int) + 1 ≤ (cp : Int) := by omega
  have hAl : SlOf encR 4 w (some ⟨g, 0, none⟩) cp l := ⟨fun h => (by cases h), by omega, hcm, hN.take (by decide)⟩
  obtain ⟨b, off, hq, hlt, hcs⟩ := hN.at (j := l.length) (x := spP) (by simp)
  cases hq
  have c0 := hcs 0 (by omega)
  have c1 := hcs 1 (by omega)
  have c2 := hcs 2 (by omega)
  have c3 := hcs 3 (by omega)
  have heq := fun (W : World) => eqlR_same spP W
  simp only [Nat.zero_add, Nat.add_zero, spP] at c0 c1 c2 c3 heq
  simp only [encR, List.getElem!_cons_zero, List.getElem!_cons_succ] at c0 c1 c2 c3
  have hsame := sameP_eq (some ⟨g, 0, none⟩) p' cp cp' l w hl hAl hA'
  clear hN hA' hAl hcs
  go_enter Tryz.func16, Tryz.ntmps16
  go_wp2_with (first | (go_at_call 43; refine hsame.mono ?_; rintro e w1 ⟨rfl, b1⟩))
  go_ret
  exact ⟨rfl, b1⟩
end Go.Proofs.YtedakipjfpdajaaGreatDoor
