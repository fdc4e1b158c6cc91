/- conj.eachOnce over numbers and over words. -/
import Derived.Test.YtedakipjfpdajaaGreatDoorZad
import Derived.Test.YtedakipjfpdajaaGreatDoorIterI
import Derived.Test.YtedakipjfpdajaaGreatDoorIterS
import Derived.Lib.OwnBridge
namespace Go.Proofs.YtedakipjfpdajaaGreatDoor
open Go.RowKit Go.Sort Go.Shelf

theorem own_geG {α : Type} [Inhabited α] {enc : α → List Value} {e : TypeId} {k B c : Nat} {w : World} {q : Option Addr} {l : List α} (h : OwnK enc e k B w q c l) {a : Addr} (he : q = some a) : B ≤ a.block := by
  rcases h.2 with ⟨h1, _⟩ | ⟨g, cap', cur, hv, hB, hblk, _⟩
  · injection h1 with h1; rw [he] at h1; cases h1
  · injection hv with h1
    rw [he] at h1; cases h1
    exact hB
theorem SlOf.set {α : Type} [Inhabited α] {enc : α → List Value} {k c : Nat} {w : World} {q : Option Addr} {l : List α} (h : SlOf enc k w q c l) {b : Nat} (hne : ∀ a, q = some a → a.block ≠ b) (o : Nat) (v : Value) : SlOf enc k (w.setCell ⟨b, o, Option.none⟩ v) q c l := by
  refine ⟨h.1, h.2.1, h.2.2.1, fun h0 => ?_⟩
  obtain ⟨b', off, hq, hb, hc⟩ := h.2.2.2 h0
  refine ⟨b', off, hq, by simpa using hb, fun j u hj => ?_⟩
  rw [World.cell?_setCell_other w ⟨b, o, Option.none⟩ ⟨b', off + j, Option.none⟩ v (by intro g; injection g with g1; exact hne _ hq g1.symm)]
  exact hc j u hj
theorem flatI (l : List Int) : (flatK encI 1 l.toArray).toList = l.map (Value.int .i64) := by
  induction l with
  | nil => simp [flatK]
  | cons x l ih =>
    rw [show x :: l = [x] ++ l from rfl, flat_app encI 1 (by decide), flat_oneI, ih]; rfl
theorem slI_of_holds {w : World} {g cap : Nat} {l : List Int} {m : List Int} (hg : g < w.heap.size) (hc : l.length ≤ cap) (hm : cap ≤ maxLen) (h : Holds (Value.int .i64) w g 0 (l ++ m).toArray) : SlOf encI 1 w (some ⟨g, 0, none⟩) cap l := by
  refine ⟨(fun h => by cases h), hc, hm, fun _ => ⟨g, 0, rfl, hg, fun j u hj => ?_⟩⟩
  rw [flatI, List.getElem?_map] at hj
  obtain ⟨x, hx, rfl⟩ := Option.map_eq_some_iff.1 hj
  have hl := (List.getElem?_eq_some_iff.1 hx).1
  have hx2 : (l ++ m)[j]? = some x := by rw [List.getElem?_append_left hl]; exact hx
  rw [(h j (by simp; omega)).1, get_bang hx2]
theorem below_put {α : Type} [Inhabited α] {enc : α → Value} (w : World) (g n : Nat) (d : Array α) (os : Array Obj) (hg : g < w.heap.size) : Below g w (grow (putRow enc (Sort.ahead w n) g 0 d) os) := by
  refine ⟨rfl, rfl, rfl, by simp [grow, putRow, mapBlock, Sort.ahead], fun j hj => ?_⟩
  simp only [grow, putRow, mapBlock, Sort.ahead]
  rw [Array.getElem?_append_left (by simp; omega)]
  simp [Array.getElem?_modify, show g ≠ j by omega]
theorem below_put0 {α : Type} [Inhabited α] {enc : α → Value} (w : World) (g n : Nat) (d : Array α) : Below g w (putRow enc (Sort.ahead w n) g 0 d) := by
  refine ⟨rfl, rfl, rfl, by simp [putRow, mapBlock, Sort.ahead], fun j hj => ?_⟩
  simp only [putRow, mapBlock, Sort.ahead]
  simp [Array.getElem?_modify, show g ≠ j by omega]
theorem flatS (l : List ByteArray) : (flatK encS 1 l.toArray).toList = (l.map (·.data.toList)).map encStr := by
  induction l with
  | nil => simp [flatK]
  | cons x l ih =>
    rw [show x :: l = [x] ++ l from rfl, flat_app encS 1 (by decide), flat_oneS, ih]; rfl
theorem map_once (l : List ByteArray) : (onceS l).map (·.data.toList) = Lib.compact ((l.map (·.data.toList)).mergeSort fun x y => decide (x ≤ y)) := by
  unfold onceS
  rw [List.map_map]
  exact List.map_id _
theorem slS_of_holds {w : World} {g cap : Nat} {l : List ByteArray} {m : List ByteArray} (hg : g < w.heap.size) (hc : l.length ≤ cap) (hm : cap ≤ maxLen) (h : Holds encStr w g 0 ((l ++ m).map (·.data.toList)).toArray) : SlOf encS 1 w (some ⟨g, 0, none⟩) cap l := by
  refine ⟨(fun h => by cases h), hc, hm, fun _ => ⟨g, 0, rfl, hg, fun j u hj => ?_⟩⟩
  rw [flatS, List.getElem?_map] at hj
  obtain ⟨x, hx, rfl⟩ := Option.map_eq_some_iff.1 hj
  have hl : j < l.length := by have := (List.getElem?_eq_some_iff.1 hx).1; simpa using this
  have hx2 : ((l ++ m).map (·.data.toList))[j]? = some x := by rw [List.map_append, List.getElem?_append_left (by simpa using hl)]; exact hx
  rw [(h j (by simp; omega)).1, get_bang hx2]
theorem cptI_h (g cap : Nat) (l : List Int) (w : World) (hH : Holds (Value.int .i64) w g 0 (l.mergeSort fun x y => decide (x ≤ y)).toArray) (hg : g < w.heap.size) (hc : l.length ≤ cap) (hm : cap ≤ maxLen) :
    Calls Tryz.prog 96 #[.slice (some ⟨g, 0, none⟩) l.length cap] w fun e w' => e = .returned (.slice (some ⟨g, 0, none⟩) (onceI l).length cap) ∧ SlOf encI 1 w' (some ⟨g, 0, none⟩) cap (onceI l) ∧ Below g w w' := by
  have hp : (l.mergeSort fun x y => decide (x ≤ y)).Perm l := List.mergeSort_perm _ _
  have hlen : (l.mergeSort fun x y => decide (x ≤ y)).length = l.length := by rw [hp.length_eq]
  have hcon := Any.slices_Compact_int Tryz.cptI g 0 cap (l.mergeSort fun x y => decide (x ≤ y)) w hH (by unfold maxLen at hm; omega) (by omega)
  change Calls Tryz.prog 96 _ _ _ at hcon
  rw [hlen] at hcon
  have hle := once_len (l.mergeSort fun x y => decide (x ≤ y))
  refine hcon.mono fun e w' ⟨he, q, hw⟩ => ⟨he, ?_, ?_⟩
  · rw [hw]
    refine slI_of_holds (by simpa [putRow, mapBlock, Sort.ahead] using hg) (by unfold onceI; omega) hm (m := List.replicate (l.length - (Lib.compact (l.mergeSort fun x y => decide (x ≤ y))).length) (0 : Int)) ?_
    
    exact holds_putRow (Value.int .i64) _ _ _ (l.mergeSort fun x y => decide (x ≤ y)).toArray _ (holds_ahead _ _ _ _ _ _ hH) (by simp; omega)
  · rw [hw]; exact below_put0 w g q _
theorem sortI_h (B : Nat) (q : Option Addr) (cap : Nat) (l : List Int) (w : World) (hl : l.length < 4611686018427387904) (h : OwnK encI 3 1 B w q cap l) :
    Calls Tryz.prog 132 #[.slice q l.length cap] w fun e w' => e = .returned (.tuple #[]) ∧ Below B w w' ∧ ((l = [] ∧ SlOf encI 1 w' q cap l ∧ ∀ a, q = some a → B ≤ a.block) ∨ ∃ g, q = some ⟨g, 0, none⟩ ∧ B ≤ g ∧ g < w'.heap.size ∧ l.length ≤ cap ∧ cap ≤ maxLen ∧ Holds (Value.int .i64) w' g 0 (l.mergeSort fun x y => decide (x ≤ y)).toArray) := by
  by_cases h0 : l.length = 0
  · obtain rfl : l = [] := List.length_eq_zero_iff.1 h0
    have hcon := Any.slices_Sort_int_none Tryz.sortI q cap w
    change Calls Tryz.prog 132 _ _ _ at hcon
    exact hcon.mono fun e w' ⟨he, hw⟩ => ⟨he, by rw [hw]; exact Below.refl _ _, Or.inl ⟨rfl, by rw [hw]; exact h.ls, fun a e => own_geG h e⟩⟩
  · have hrow : w.ownsRow B 3 1 (.slice q l.length cap) l.length (l.map (Value.int .i64)) := by have := h; unfold OwnK at this; rw [flatI] at this; exact this
    have hne : (Value.slice q l.length cap) ≠ .slice none 0 0 := fun e => by injection e with _ e2; omega
    obtain ⟨g, cap', hv, hB, hg, hnc, hm, _, hH⟩ := Lib.holds_of_ownsRow hrow hne
    injection hv with h1 h2 h3
    subst h1 h3
    have hcon := Any.slices_Sort_int Tryz.sortI g 0 cap l w hH hg hl
    change Calls Tryz.prog 132 _ _ _ at hcon
    have hp : (l.mergeSort fun x y => decide (x ≤ y)).Perm l := List.mergeSort_perm _ _
    skip
    refine hcon.mono fun e w' ⟨he, n, os, hw⟩ => ⟨he, ?_, Or.inr ⟨g, rfl, hB, ?_, hnc, hm, ?_⟩⟩
    · rw [hw]; exact (below_put w g n _ os hg).mono hB
    · rw [hw]; simp [grow]; omega
    · rw [hw]
      exact holds_grow _ _ _ _ _ _ (by simpa using hg) (holds_putRow _ _ _ _ l.toArray _ (holds_ahead _ _ _ _ _ _ hH) (by simp))
set_option maxRecDepth 100000 in
theorem sortedI_h (Bs : Nat) (p : Option Addr) (c : Nat) (l : List Int) (hz : l.length * 8 ≤ 140737488355328) (w : World) (hBs : Bs < w.heap.size) (hcell : w.cell? ⟨Bs, 0, none⟩ = some (.slice p l.length c)) (hc : SlOf encI 1 w p c l) :
    Calls Tryz.prog 97 #[.func (.func 133) #[] #[.pointer (some ⟨Bs, 0, none⟩)]] w fun e w' => (∃ q cap, e = .returned (.slice q l.length cap) ∧ ((l = [] ∧ SlOf encI 1 w' q cap l ∧ ∀ a, q = some a → w.heap.size ≤ a.block) ∨ ∃ g, q = some ⟨g, 0, none⟩ ∧ w.heap.size ≤ g ∧ g < w'.heap.size ∧ l.length ≤ cap ∧ cap ≤ maxLen ∧ Holds (Value.int .i64) w' g 0 (l.mergeSort fun x y => decide (x ≤ y)).toArray)) ∧ Below w.heap.size w w' := by
  have h := collectI Bs p c l hz w hBs hcell hc
  clear hcell hc
  go_enter Tryz.func97, Tryz.ntmps97
  go_wp2_with (first
    | (go_at_call 131; refine h.mono ?_; rintro e w1 ⟨⟨q, cap, rfl, ho⟩, hb⟩; have HO := hide ho; have HB := hide hb; clear ho hb)
    | (go_at_call 132; refine (sortI_h w.heap.size q cap l _ (by omega) (unhide HO)).mono ?_; rintro e w2 ⟨rfl, hb2, hh2⟩; have HB2 := hide hb2; have HH2 := hide hh2; clear hb2 hh2))
  go_ret
  exact ⟨⟨q, cap, rfl, unhide HH2⟩, (unhide HB).trans (unhide HB2)⟩
set_option maxRecDepth 100000 in
/-- conj.eachOnce. -/
theorem onceI_any (q : Option Addr) (c : Nat) (l : List Int) (w : World) (hs : SlOf encI 1 w q c l) (hz : l.length * 8 ≤ 140737488355328) :
    Calls Tryz.prog 57 #[.slice q l.length c] w fun e w' => (∃ q' c', e = .returned (.slice q' (onceI l).length c') ∧ SlOf encI 1 w' q' c' (onceI l) ∧ ∀ a, q' = some a → w.heap.size ≤ a.block) ∧ Below w.heap.size w w' := by
  have hA := (Below.refl w.heap.size w).alloc (Nat.le_refl _) (.cells #[.slice q l.length c] 22)
  have hS := sortedI_h w.heap.size q c l hz (w.alloc (.cells #[.slice q l.length c] 22)) (by simp) (Boxed.new w 22 _).cell (hs.below hA)
  have hp : (l.mergeSort fun x y => decide (x ≤ y)).Perm l := List.mergeSort_perm _ _
  by_cases h0 : l = []
  · subst h0
    have hcon := fun q c w => Any.slices_Compact_int_empty Tryz.cptI q c w
    change ∀ q c w, Calls Tryz.prog 96 #[.slice q 0 c] w _ at hcon
    have e0 : onceI [] = [] := by simp [onceI, Lib.compact, Lib.compactUpTo]
    clear hs hp
    go_enter Tryz.func57, Tryz.ntmps57
    go_wp2_with (first
      | (go_at_call 98; refine (valuesI q 0 c w).mono ?_; rintro e w1 ⟨rfl, rfl⟩)
      | (go_at_call 97; refine hS.mono ?_; rintro e w2 ⟨⟨q2, c2, rfl, h2⟩, b2⟩; have B2 := hide b2; have H2 := hide h2; clear b2 h2)
      | (go_at_call 96; refine (hcon q2 c2 w2).mono ?_; rintro e w3 ⟨rfl, hw3⟩; obtain rfl := hw3.symm; clear hw3))
    go_ret
    refine ⟨⟨q2, c2, by rw [e0]; rfl, ?_⟩, below_sub hA (unhide B2)⟩
    rw [e0]
    rcases unhide H2 with h2 | ⟨g, rfl, hg1, hg2, hg3, hg4, _⟩
    · exact ⟨h2.2.1, fun a e => Nat.le_trans hA.size (h2.2.2 a e)⟩
    · exact ⟨⟨(fun h => by cases h), Nat.zero_le _, hg4, LsOf.nil _ _⟩, fun a e => by cases e; exact Nat.le_trans hA.size hg1⟩
  · clear hs
    go_enter Tryz.func57, Tryz.ntmps57
    go_wp2_with (first
      | (go_at_call 98; refine (valuesI q l.length c w).mono ?_; rintro e w1 ⟨rfl, rfl⟩)
      | (go_at_call 97; refine hS.mono ?_; rintro e w2 ⟨⟨q2, c2, rfl, h2⟩, b2⟩; have B2 := hide b2; rcases h2 with h2 | ⟨g, rfl, hg1, hg2, hg3, hg4, hg5⟩; exact absurd h2.1 h0; have HH := hide hg5; clear b2 hg5)
      | (go_at_call 96; refine (cptI_h g c2 l _ (unhide HH) hg2 hg3 hg4).mono ?_; rintro e w3 ⟨rfl, s3, b3⟩; have S3 := hide s3; have B3 := hide (b3.mono hg1); clear s3 b3))
    go_ret
    exact ⟨⟨_, _, rfl, unhide S3, fun a e => by cases e; exact Nat.le_trans hA.size hg1⟩, hA.trans (((unhide B2).trans (unhide B3)).mono hA.size)⟩
theorem cptS_h (g cap : Nat) (l : List ByteArray) (w : World) (hH : Holds encStr w g 0 ((l.map (·.data.toList)).mergeSort fun x y => decide (x ≤ y)).toArray) (hg : g < w.heap.size) (hc : l.length ≤ cap) (hm : cap ≤ maxLen) :
    Calls Tryz.prog 99 #[.slice (some ⟨g, 0, none⟩) l.length cap] w fun e w' => e = .returned (.slice (some ⟨g, 0, none⟩) (onceS l).length cap) ∧ SlOf encS 1 w' (some ⟨g, 0, none⟩) cap (onceS l) ∧ Below g w w' := by
  have hp : ((l.map (·.data.toList)).mergeSort fun x y => decide (x ≤ y)).Perm (l.map (·.data.toList)) := List.mergeSort_perm _ _
  have hlen : ((l.map (·.data.toList)).mergeSort fun x y => decide (x ≤ y)).length = l.length := by rw [hp.length_eq]; simp
  have hcon := Any.slices_Compact_string Tryz.cptS g 0 cap ((l.map (·.data.toList)).mergeSort fun x y => decide (x ≤ y)) w hH (by unfold maxLen at hm; omega) (by omega)
  change Calls Tryz.prog 99 _ _ _ at hcon
  rw [hlen] at hcon
  have hle := once_len ((l.map (·.data.toList)).mergeSort fun x y => decide (x ≤ y))
  refine hcon.mono fun e w' ⟨he, q, hw⟩ => ⟨by rw [he]; unfold onceS; rw [List.length_map], ?_, ?_⟩
  · rw [hw]
    refine slS_of_holds (by simpa [putRow, mapBlock, Sort.ahead] using hg) (by unfold onceS; rw [List.length_map]; omega) hm (m := List.replicate (l.length - (Lib.compact ((l.map (·.data.toList)).mergeSort fun x y => decide (x ≤ y))).length) ⟨#[]⟩) ?_
    rw [List.map_append, map_once, List.map_replicate]
    exact holds_putRow encStr _ _ _ ((l.map (·.data.toList)).mergeSort fun x y => decide (x ≤ y)).toArray _ (holds_ahead _ _ _ _ _ _ hH) (by simp; omega)
  · rw [hw]; exact below_put0 w g q _
theorem sortS_h (B : Nat) (q : Option Addr) (cap : Nat) (l : List ByteArray) (w : World) (hl : l.length < 4611686018427387904) (h : OwnK encS 9 1 B w q cap l) :
    Calls Tryz.prog 135 #[.slice q l.length cap] w fun e w' => e = .returned (.tuple #[]) ∧ Below B w w' ∧ ((l = [] ∧ SlOf encS 1 w' q cap l ∧ ∀ a, q = some a → B ≤ a.block) ∨ ∃ g, q = some ⟨g, 0, none⟩ ∧ B ≤ g ∧ g < w'.heap.size ∧ l.length ≤ cap ∧ cap ≤ maxLen ∧ Holds encStr w' g 0 ((l.map (·.data.toList)).mergeSort fun x y => decide (x ≤ y)).toArray) := by
  by_cases h0 : l.length = 0
  · obtain rfl : l = [] := List.length_eq_zero_iff.1 h0
    have hcon := Any.slices_Sort_string_none Tryz.sortS q cap w
    change Calls Tryz.prog 135 _ _ _ at hcon
    exact hcon.mono fun e w' ⟨he, hw⟩ => ⟨he, by rw [hw]; exact Below.refl _ _, Or.inl ⟨rfl, by rw [hw]; exact h.ls, fun a e => own_geG h e⟩⟩
  · have hrow : w.ownsRow B 9 1 (.slice q l.length cap) (l.map (·.data.toList)).length ((l.map (·.data.toList)).map encStr) := by have := h; unfold OwnK at this; rw [flatS] at this; rw [List.length_map]; exact this
    have hlen : (l.map (·.data.toList)).length = l.length := by simp
    rw [← hlen] at hl
    have hne : (Value.slice q l.length cap) ≠ .slice none 0 0 := fun e => by injection e with _ e2; omega
    obtain ⟨g, cap', hv, hB, hg, hnc, hm, _, hH⟩ := Lib.holds_of_ownsRow hrow hne
    injection hv with h1 h2 h3
    subst h1 h3
    have hcon := Any.slices_Sort_string Tryz.sortS g 0 cap (l.map (·.data.toList)) w hH hg hl
    change Calls Tryz.prog 135 _ _ _ at hcon
    have hp : ((l.map (·.data.toList)).mergeSort fun x y => decide (x ≤ y)).Perm (l.map (·.data.toList)) := List.mergeSort_perm _ _
    rw [hlen] at hcon hnc
    refine hcon.mono fun e w' ⟨he, n, os, hw⟩ => ⟨he, ?_, Or.inr ⟨g, rfl, hB, ?_, hnc, hm, ?_⟩⟩
    · rw [hw]; exact (below_put w g n _ os hg).mono hB
    · rw [hw]; simp [grow]; omega
    · rw [hw]
      exact holds_grow _ _ _ _ _ _ (by simpa using hg) (holds_putRow _ _ _ _ (l.map (·.data.toList)).toArray _ (holds_ahead _ _ _ _ _ _ hH) (by simp))
set_option maxRecDepth 100000 in
theorem sortedS_h (Bs : Nat) (p : Option Addr) (c : Nat) (l : List ByteArray) (hz : l.length * 16 ≤ 140737488355328) (w : World) (hBs : Bs < w.heap.size) (hcell : w.cell? ⟨Bs, 0, none⟩ = some (.slice p l.length c)) (hc : SlOf encS 1 w p c l) :
    Calls Tryz.prog 100 #[.func (.func 136) #[] #[.pointer (some ⟨Bs, 0, none⟩)]] w fun e w' => (∃ q cap, e = .returned (.slice q l.length cap) ∧ ((l = [] ∧ SlOf encS 1 w' q cap l ∧ ∀ a, q = some a → w.heap.size ≤ a.block) ∨ ∃ g, q = some ⟨g, 0, none⟩ ∧ w.heap.size ≤ g ∧ g < w'.heap.size ∧ l.length ≤ cap ∧ cap ≤ maxLen ∧ Holds encStr w' g 0 ((l.map (·.data.toList)).mergeSort fun x y => decide (x ≤ y)).toArray)) ∧ Below w.heap.size w w' := by
  have h := collectS Bs p c l hz w hBs hcell hc
  clear hcell hc
  go_enter Tryz.func100, Tryz.ntmps100
  go_wp2_with (first
    | (go_at_call 134; refine h.mono ?_; rintro e w1 ⟨⟨q, cap, rfl, ho⟩, hb⟩; have HO := hide ho; have HB := hide hb; clear ho hb)
    | (go_at_call 135; refine (sortS_h w.heap.size q cap l _ (by omega) (unhide HO)).mono ?_; rintro e w2 ⟨rfl, hb2, hh2⟩; have HB2 := hide hb2; have HH2 := hide hh2; clear hb2 hh2))
  go_ret
  exact ⟨⟨q, cap, rfl, unhide HH2⟩, (unhide HB).trans (unhide HB2)⟩
set_option maxRecDepth 100000 in
/-- conj.eachOnce. -/
theorem onceS_any (q : Option Addr) (c : Nat) (l : List ByteArray) (w : World) (hs : SlOf encS 1 w q c l) (hz : l.length * 16 ≤ 140737488355328) :
    Calls Tryz.prog 59 #[.slice q l.length c] w fun e w' => (∃ q' c', e = .returned (.slice q' (onceS l).length c') ∧ SlOf encS 1 w' q' c' (onceS l) ∧ ∀ a, q' = some a → w.heap.size ≤ a.block) ∧ Below w.heap.size w w' := by
  have hA := (Below.refl w.heap.size w).alloc (Nat.le_refl _) (.cells #[.slice q l.length c] 23)
  have hS := sortedS_h w.heap.size q c l hz (w.alloc (.cells #[.slice q l.length c] 23)) (by simp) (Boxed.new w 23 _).cell (hs.below hA)
  have hp : ((l.map (·.data.toList)).mergeSort fun x y => decide (x ≤ y)).Perm (l.map (·.data.toList)) := List.mergeSort_perm _ _
  by_cases h0 : l = []
  · subst h0
    have hcon := fun q c w => Any.slices_Compact_string_empty Tryz.cptS q c w
    change ∀ q c w, Calls Tryz.prog 99 #[.slice q 0 c] w _ at hcon
    have e0 : onceS [] = [] := by simp [onceS, Lib.compact, Lib.compactUpTo]
    clear hs hp
    go_enter Tryz.func59, Tryz.ntmps59
    go_wp2_with (first
      | (go_at_call 101; refine (valuesS q 0 c w).mono ?_; rintro e w1 ⟨rfl, rfl⟩)
      | (go_at_call 100; refine hS.mono ?_; rintro e w2 ⟨⟨q2, c2, rfl, h2⟩, b2⟩; have B2 := hide b2; have H2 := hide h2; clear b2 h2)
      | (go_at_call 99; refine (hcon q2 c2 w2).mono ?_; rintro e w3 ⟨rfl, hw3⟩; obtain rfl := hw3.symm; clear hw3))
    go_ret
    refine ⟨⟨q2, c2, by rw [e0]; rfl, ?_⟩, below_sub hA (unhide B2)⟩
    rw [e0]
    rcases unhide H2 with h2 | ⟨g, rfl, hg1, hg2, hg3, hg4, _⟩
    · exact ⟨h2.2.1, fun a e => Nat.le_trans hA.size (h2.2.2 a e)⟩
    · exact ⟨⟨(fun h => by cases h), Nat.zero_le _, hg4, LsOf.nil _ _⟩, fun a e => by cases e; exact Nat.le_trans hA.size hg1⟩
  · clear hs
    go_enter Tryz.func59, Tryz.ntmps59
    go_wp2_with (first
      | (go_at_call 101; refine (valuesS q l.length c w).mono ?_; rintro e w1 ⟨rfl, rfl⟩)
      | (go_at_call 100; refine hS.mono ?_; rintro e w2 ⟨⟨q2, c2, rfl, h2⟩, b2⟩; have B2 := hide b2; rcases h2 with h2 | ⟨g, rfl, hg1, hg2, hg3, hg4, hg5⟩; exact absurd h2.1 h0; have HH := hide hg5; clear b2 hg5)
      | (go_at_call 99; refine (cptS_h g c2 l _ (unhide HH) hg2 hg3 hg4).mono ?_; rintro e w3 ⟨rfl, s3, b3⟩; have S3 := hide s3; have B3 := hide (b3.mono hg1); clear s3 b3))
    go_ret
    exact ⟨⟨_, _, rfl, unhide S3, fun a e => by cases e; exact Nat.le_trans hA.size hg1⟩, hA.trans (((unhide B2).trans (unhide B3)).mono hA.size)⟩
end Go.Proofs.YtedakipjfpdajaaGreatDoor
