/- conj.eachOnce over numbers and over words. -/
import Derived.Test.YtimklglliffpcaaGreatQSh
import Derived.Test.YtimklglliffpcaaGreatQZab
import Derived.Lib.OwnBridge
namespace Go.Proofs.YtimklglliffpcaaGreat
open Go.RowKit Go.Sort Go.Shelf

theorem own_geG {α : Type} [Inhabited α] {enc : α → List Value} {e : TypeId} {k B c : Nat} {w : World} {q : Option Addr} {l : List α} (h : OwnK enc e k B w q c l) {a : Addr} (he : q = some a) : B ≤ a.block := by
  rcases h.2 with ⟨h1, _⟩ | ⟨g, cap', cur, hv, hB, hblk, _⟩
  · injection h1 with h1; rw [he] at h1; cases h1
  · injection hv with h1
    rw [he] at h1; cases h1
    exact hB
theorem SlOf.set {α : Type} [Inhabited α] {enc : α → List Value} {k c : Nat} {w : World} {q : Option Addr} {l : List α} (h : SlOf enc k w q c l) {b : Nat} (hne : ∀ a, q = some a → a.block ≠ b) (o : Nat) (v : Value) : SlOf enc k (w.setCell ⟨b, o, Option.none⟩ v) q c l := by
  refine ⟨h.1, h.2.1, h.2.2.1, fun h0 => ?_⟩
  obtain ⟨b', off, hq, hb, hc⟩ := h.2.2.2 h0
  refine ⟨b', off, hq, by simpa using hb, fun j u hj => ?_⟩
  rw [World.cell?_setCell_other w ⟨b, o, Option.none⟩ ⟨b', off + j, Option.none⟩ v (by intro g; injection g with g1; exact hne _ hq g1.symm)]
  exact hc j u hj
theorem flatI (l : List Int) : (flatK encI 1 l.toArray).toList = l.map (Value.int .i64) := by
  induction l with
  | nil => simp [flatK]
  | cons x l ih =>
    rw [show x :: l = [x] ++ l from rfl, flat_app encI 1 (by decide), flat_oneI, ih]; rfl
theorem slI_of_holds {w : World} {g cap : Nat} {l : List Int} {m : List Int} (hg : g < w.heap.size) (hc : l.length ≤ cap) (hm : cap ≤ maxLen) (h : Holds (Value.int .i64) w g 0 (l ++ m).toArray) : SlOf encI 1 w (some ⟨g, 0, none⟩) cap l := by
  refine ⟨(fun h => by cases h), hc, hm, fun _ => ⟨g, 0, rfl, hg, fun j u hj => ?_⟩⟩
  rw [flatI, List.getElem?_map] at hj
  obtain ⟨x, hx, rfl⟩ := Option.map_eq_some_iff.1 hj
  have hl := (List.getElem?_eq_some_iff.1 hx).1
  have hx2 : (l ++ m)[j]? = some x := by rw [List.getElem?_append_left hl]; exact hx
  rw [(h j (by simp; omega)).1, get_bang hx2]
theorem below_put {α : Type} [Inhabited α] {enc : α → Value} (w : World) (g n : Nat) (d : Array α) (os : Array Obj) (hg : g < w.heap.size) : Below g w (grow (putRow enc (Sort.ahead w n) g 0 d) os) := by
  refine ⟨rfl, rfl, rfl, by simp [grow, putRow, mapBlock, Sort.ahead], fun j hj => ?_⟩
  simp only [grow, putRow, mapBlock, Sort.ahead]
  rw [Array.getElem?_append_left (by simp; omega)]
  simp [Array.getElem?_modify, show g ≠ j by omega]
theorem below_put0 {α : Type} [Inhabited α] {enc : α → Value} (w : World) (g n : Nat) (d : Array α) : Below g w (putRow enc (Sort.ahead w n) g 0 d) := by
  refine ⟨rfl, rfl, rfl, by simp [putRow, mapBlock, Sort.ahead], fun j hj => ?_⟩
  simp only [putRow, mapBlock, Sort.ahead]
  simp [Array.getElem?_modify, show g ≠ j by omega]
theorem flatS (l : List ByteArray) : (flatK encS 1 l.toArray).toList = (l.map (·.data.toList)).map encStr := by
  induction l with
  | nil => simp [flatK]
  | cons x l ih =>
    rw [show x :: l = [x] ++ l from rfl, flat_app encS 1 (by decide), flat_oneS, ih]; rfl
theorem map_once (l : List ByteArray) : (onceS l).map (·.data.toList) = Lib.compact ((l.map (·.data.toList)).mergeSort fun x y => decide (x ≤ y)) := by
  unfold onceS
  rw [List.map_map]
  exact List.map_id _
theorem slS_of_holds {w : World} {g cap : Nat} {l : List ByteArray} {m : List ByteArray} (hg : g < w.heap.size) (hc : l.length ≤ cap) (hm : cap ≤ maxLen) (h : Holds encStr w g 0 ((l ++ m).map (·.data.toList)).toArray) : SlOf encS 1 w (some ⟨g, 0, none⟩) cap l := by
  refine ⟨(fun h => by cases h), hc, hm, fun _ => ⟨g, 0, rfl, hg, fun j u hj => ?_⟩⟩
  rw [flatS, List.getElem?_map] at hj
  obtain ⟨x, hx, rfl⟩ := Option.map_eq_some_iff.1 hj
  have hl : j < l.length := by have := (List.getElem?_eq_some_iff.1 hx).1; simpa using this
  have hx2 : ((l ++ m).map (·.data.toList))[j]? = some x := by rw [List.map_append, List.getElem?_append_left (by simpa using hl)]; exact hx
  rw [(h j (by simp; omega)).1, get_bang hx2]
theorem sortI_h (B : Nat) (q : Option Addr) (cap : Nat) (l : List Int) (w : World) (hl : l.length < 4611686018427387904) (h : OwnK encI 3 1 B w q cap l) :
    Calls Tryz.prog 159 #[.slice q l.length cap] w fun e w' => e = .returned (.tuple #[]) ∧ Below B w w' ∧ ((l = [] ∧ SlOf encI 1 w' q cap l ∧ ∀ a, q = some a → B ≤ a.block) ∨ ∃ g, q = some ⟨g, 0, none⟩ ∧ B ≤ g ∧ g < w'.heap.size ∧ l.length ≤ cap ∧ cap ≤ maxLen ∧ Holds (Value.int .i64) w' g 0 (l.mergeSort fun x y => decide (x ≤ y)).toArray) := by
  by_cases h0 : l.length = 0
  · obtain rfl : l = [] := List.length_eq_zero_iff.1 h0
    have hcon := Any.slices_Sort_int_none Tryz.sortI q cap w
    change Calls Tryz.prog 159 _ _ _ at hcon
    exact hcon.mono fun e w' ⟨he, hw⟩ => ⟨he, by rw [hw]; exact Below.refl _ _, Or.inl ⟨rfl, by rw [hw]; exact h.ls, fun a e => own_geG h e⟩⟩
  · have hrow : w.ownsRow B 3 1 (.slice q l.length cap) l.length (l.map (Value.int .i64)) := by have := h; unfold OwnK at this; rw [flatI] at this; exact this
    have hne : (Value.slice q l.length cap) ≠ .slice none 0 0 := fun e => by injection e with _ e2; omega
    obtain ⟨g, cap', hv, hB, hg, hnc, hm, _, hH⟩ := Lib.holds_of_ownsRow hrow hne
    injection hv with h1 h2 h3
    subst h1 h3
    have hcon := Any.slices_Sort_int Tryz.sortI g 0 cap l w hH hg hl
    change Calls Tryz.prog 159 _ _ _ at hcon
    have hp : (l.mergeSort fun x y => decide (x ≤ y)).Perm l := List.mergeSort_perm _ _
    skip
    refine hcon.mono fun e w' ⟨he, n, os, hw⟩ => ⟨he, ?_, Or.inr ⟨g, rfl, hB, ?_, hnc, hm, ?_⟩⟩
    · rw [hw]; exact (below_put w g n _ os hg).mono hB
    · rw [hw]; simp [grow]; omega
    · rw [hw]
      exact holds_grow _ _ _ _ _ _ (by simpa using hg) (holds_putRow _ _ _ _ l.toArray _ (holds_ahead _ _ _ _ _ _ hH) (by simp))
set_option maxRecDepth 100000 in
theorem sortedI_h (Bs : Nat) (p : Option Addr) (c : Nat) (l : List Int) (hz : l.length * 8 ≤ 140737488355328) (w : World) (hBs : Bs < w.heap.size) (hcell : w.cell? ⟨Bs, 0, none⟩ = some (.slice p l.length c)) (hc : SlOf encI 1 w p c l) :
    Calls Tryz.prog 117 #[.func (.func 160) #[] #[.pointer (some ⟨Bs, 0, none⟩)]] w fun e w' => (∃ q cap, e = .returned (.slice q l.length cap) ∧ ((l = [] ∧ SlOf encI 1 w' q cap l ∧ ∀ a, q = some a → w.heap.size ≤ a.block) ∨ ∃ g, q = some ⟨g, 0, none⟩ ∧ w.heap.size ≤ g ∧ g < w'.heap.size ∧ l.length ≤ cap ∧ cap ≤ maxLen ∧ Holds (Value.int .i64) w' g 0 (l.mergeSort fun x y => decide (x ≤ y)).toArray)) ∧ Below w.heap.size w w' := by
  have h := collectI Bs p c l hz w hBs hcell hc
  clear hcell hc
  go_enter Tryz.func117, Tryz.ntmps117
  go_wp2_with (first
    | (go_at_call 158; refine h.mono ?_; rintro e w1 ⟨⟨q, cap, rfl, ho⟩, hb⟩; have HO := hide ho; have HB := hide hb; clear ho hb)
    | (go_at_call 159; refine (sortI_h w.heap.size q cap l _ (by omega) (unhide HO)).mono ?_; rintro e w2 ⟨rfl, hb2, hh2⟩; have HB2 := hide hb2; have HH2 := hide hh2; clear hb2 hh2))
  go_ret
  exact ⟨⟨q, cap, rfl, unhide HH2⟩, (unhide HB).trans (unhide HB2)⟩
theorem sortS_h (B : Nat) (q : Option Addr) (cap : Nat) (l : List ByteArray) (w : World) (hl : l.length < 4611686018427387904) (h : OwnK encS 9 1 B w q cap l) :
    Calls Tryz.prog 162 #[.slice q l.length cap] w fun e w' => e = .returned (.tuple #[]) ∧ Below B w w' ∧ ((l = [] ∧ SlOf encS 1 w' q cap l ∧ ∀ a, q = some a → B ≤ a.block) ∨ ∃ g, q = some ⟨g, 0, none⟩ ∧ B ≤ g ∧ g < w'.heap.size ∧ l.length ≤ cap ∧ cap ≤ maxLen ∧ Holds encStr w' g 0 ((l.map (·.data.toList)).mergeSort fun x y => decide (x ≤ y)).toArray) := by
  by_cases h0 : l.length = 0
  · obtain rfl : l = [] := List.length_eq_zero_iff.1 h0
    have hcon := Any.slices_Sort_string_none Tryz.sortS q cap w
    change Calls Tryz.prog 162 _ _ _ at hcon
    exact hcon.mono fun e w' ⟨he, hw⟩ => ⟨he, by rw [hw]; exact Below.refl _ _, Or.inl ⟨rfl, by rw [hw]; exact h.ls, fun a e => own_geG h e⟩⟩
  · have hrow : w.ownsRow B 9 1 (.slice q l.length cap) (l.map (·.data.toList)).length ((l.map (·.data.toList)).map encStr) := by have := h; unfold OwnK at this; rw [flatS] at this; rw [List.length_map]; exact this
    have hlen : (l.map (·.data.toList)).length = l.length := by simp
    rw [← hlen] at hl
    have hne : (Value.slice q l.length cap) ≠ .slice none 0 0 := fun e => by injection e with _ e2; omega
    obtain ⟨g, cap', hv, hB, hg, hnc, hm, _, hH⟩ := Lib.holds_of_ownsRow hrow hne
    injection hv with h1 h2 h3
    subst h1 h3
    have hcon := Any.slices_Sort_string Tryz.sortS g 0 cap (l.map (·.data.toList)) w hH hg hl
    change Calls Tryz.prog 162 _ _ _ at hcon
    have hp : ((l.map (·.data.toList)).mergeSort fun x y => decide (x ≤ y)).Perm (l.map (·.data.toList)) := List.mergeSort_perm _ _
    rw [hlen] at hcon hnc
    refine hcon.mono fun e w' ⟨he, n, os, hw⟩ => ⟨he, ?_, Or.inr ⟨g, rfl, hB, ?_, hnc, hm, ?_⟩⟩
    · rw [hw]; exact (below_put w g n _ os hg).mono hB
    · rw [hw]; simp [grow]; omega
    · rw [hw]
      exact holds_grow _ _ _ _ _ _ (by simpa using hg) (holds_putRow _ _ _ _ (l.map (·.data.toList)).toArray _ (holds_ahead _ _ _ _ _ _ hH) (by simp))
set_option maxRecDepth 100000 in
theorem sortedS_h (Bs : Nat) (p : Option Addr) (c : Nat) (l : List ByteArray) (hz : l.length * 16 ≤ 140737488355328) (w : World) (hBs : Bs < w.heap.size) (hcell : w.cell? ⟨Bs, 0, none⟩ = some (.slice p l.length c)) (hc : SlOf encS 1 w p c l) :
    Calls Tryz.prog 120 #[.func (.func 163) #[] #[.pointer (some ⟨Bs, 0, none⟩)]] w fun e w' => (∃ q cap, e = .returned (.slice q l.length cap) ∧ ((l = [] ∧ SlOf encS 1 w' q cap l ∧ ∀ a, q = some a → w.heap.size ≤ a.block) ∨ ∃ g, q = some ⟨g, 0, none⟩ ∧ w.heap.size ≤ g ∧ g < w'.heap.size ∧ l.length ≤ cap ∧ cap ≤ maxLen ∧ Holds encStr w' g 0 ((l.map (·.data.toList)).mergeSort fun x y => decide (x ≤ y)).toArray)) ∧ Below w.heap.size w w' := by
  have h := collectS Bs p c l hz w hBs hcell hc
  clear hcell hc
  go_enter Tryz.func120, Tryz.ntmps120
  go_wp2_with (first
    | (go_at_call 161; refine h.mono ?_; rintro e w1 ⟨⟨q, cap, rfl, ho⟩, hb⟩; have HO := hide ho; have HB := hide hb; clear ho hb)
    | (go_at_call 162; refine (sortS_h w.heap.size q cap l _ (by omega) (unhide HO)).mono ?_; rintro e w2 ⟨rfl, hb2, hh2⟩; have HB2 := hide hb2; have HH2 := hide hh2; clear hb2 hh2))
  go_ret
  exact ⟨⟨q, cap, rfl, unhide HH2⟩, (unhide HB).trans (unhide HB2)⟩
end Go.Proofs.YtimklglliffpcaaGreat
