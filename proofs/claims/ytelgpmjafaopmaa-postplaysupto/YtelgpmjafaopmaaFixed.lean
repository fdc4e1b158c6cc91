/- The calls whose answers the document fixes. -/
import Derived.Test.YtelgpmjafaopmaaMerge
namespace Go.Proofs.Ytelgpmjafaopmaa
open Go.RowKit Go.Sort Go.Shelf

/-- A block of posts, as a list. -/
theorem slBlock {w : World} {b : Nat} {l : List Pt} {cur : Array Value} (h : w.heap[b]? = some (.cells cur 43 (0, 0))) (hc : cur.toList = (flatK encP 2 l.toArray).toList) (hm : l.length ≤ maxLen) : SlOf encP 2 w (some ⟨b, 0, none⟩) l.length l := by
  refine ⟨(fun h => by cases h), Nat.le_refl _, hm, fun _ => ⟨b, 0, rfl, (Array.getElem?_eq_some_iff.1 h).1, fun j u hj => ?_⟩⟩
  have hcell : w.cell? ⟨b, j, none⟩ = cur[j]? := (by unfold World.cell?; simp [h])
  rw [Nat.zero_add, hcell, ← Array.getElem?_toList, hc]
  exact hj
theorem slBlockI {w : World} {b : Nat} {l : List Int} {cur : Array Value} (h : w.heap[b]? = some (.cells cur 3 (0, 0))) (hc : cur.toList = l.map (Value.int .i64)) (hm : l.length ≤ maxLen) : SlOf encI 1 w (some ⟨b, 0, none⟩) l.length l := by
  refine ⟨(fun h => by cases h), Nat.le_refl _, hm, fun _ => ⟨b, 0, rfl, (Array.getElem?_eq_some_iff.1 h).1, fun j u hj => ?_⟩⟩
  have hcell : w.cell? ⟨b, j, none⟩ = cur[j]? := (by unfold World.cell?; simp [h])
  rw [Nat.zero_add, hcell, ← Array.getElem?_toList, hc, ← flatI]
  exact hj
theorem flat_cons (x : Pt) (l : List Pt) : (flatK encP 2 (x :: l).toArray).toList = [.int .i64 x.1, .bool x.2] ++ (flatK encP 2 l.toArray).toList := by
  rw [show x :: l = [x] ++ l from rfl, flat_app encP 2 (by decide), flat_oneP]
theorem flat_nil : (flatK encP 2 ([] : List Pt).toArray).toList = [] := by simp [flatK]
/-- A cursor that is moved leaves the list. -/
theorem Lst.cur {w w' : World} {B L C : Nat} {q q' : Option Addr} {cap n cap' k : Nat} {l : List Pt} (h : Lst w B L q cap l) (hc : Cur w C q' n cap' k) (hg : w.grownBy w' (some C)) : Lst w' B L q cap l := by
  have hne : C ≠ L := fun e => by subst e; have := h.1; unfold Cur at hc; rw [hc] at this; simp at this
  refine ⟨(hg.block L h.lt (by simp [Ne.symm hne])).trans h.1, World.ownsRow.kept h.2 hg ?_⟩
  rcases h.2.2 with ⟨h2, _⟩ | ⟨g, _, cur, hv, _, hblk, _⟩
  · rw [h2]; exact Or.inl rfl
  · refine Or.inr ?_
    rw [hv]
    intro e
    simp [Value.ownBlock] at e
    subst e
    unfold Cur at hc
    rw [hc] at hblk
    simp at hblk
theorem below_of_grown {B : Nat} {w w' : World} {C : Nat} (h : w.grownBy w' (some C)) (hC : B ≤ C) (hw : B ≤ w.heap.size) : Below B w w' := (Below.refl B w).grown h hw fun j hj => by cases hj; exact hC
def L3 : List Pt := [(1, false), (2, true), (2, false)]
def L4 : List Pt := [(1, false), (2, true), (2, false), (9, false)]
def L2 : List Pt := [(1, false), (9, false)]
theorem ris3 : ris [(2, false), (1, false), (2, true), (2, false)] = L3 := by decide
theorem ris4 : ris (L3 ++ [(9, false)]) = L4 := by decide
theorem wo2 : wo L4 [2, 2, 7] = L2 := by decide
theorem cnt3 : cnt (ltD 3) (L4.drop 0) = 3 := by decide
theorem str3 : Str L3 := by rw [← ris3]; exact str_ris _
theorem str4 : Str L4 := by rw [← ris4]; exact str_ris _
theorem str2 : Str L2 := by rw [← wo2]; exact str_wo str4 _

set_option maxHeartbeats 4000000 in
set_option maxRecDepth 100000 in
theorem fixed_any (w : World) : Calls Try.prog 7 #[] w fun e w' => e = .returned (.bool true) ∧ Below w.heap.size w w' := by
  have hnew : Calls Try.prog 8 #[.slice (some ⟨w.heap.size, 0, none⟩) 4 4] (w.alloc (.cells #[.int .i64 2, .bool false, .int .i64 1, .bool false, .int .i64 2, .bool true, .int .i64 2, .bool false] 43)) fun e w' => (∃ L q cap, e = .returned (.pointer (some ⟨L, 0, none⟩)) ∧ w.heap.size + 1 ≤ L ∧ Lst w' w.heap.size L q cap L3) ∧ Below w.heap.size w w' :=
    (newL (some ⟨w.heap.size, 0, none⟩) 4 [(2, false), (1, false), (2, true), (2, false)] (by decide) _ (slBlock (World.alloc_heap_new w _) (by simp [flat_cons, flat_nil]) (by unfold maxLen; decide))).mono fun e w' ⟨⟨L, q, cap, he, hL, hl⟩, hb⟩ => by
      rw [ris3] at hl
      exact ⟨⟨L, q, cap, he, by simpa using hL, hl.1, hl.2.mono (by simp)⟩, below_sub ((Below.refl _ _).alloc (Nat.le_refl _) _) hb⟩
  have hlen : ∀ (W : World) (L : Nat) (q : Option Addr) (cap : Nat), Lst W w.heap.size L q cap L3 → Calls Try.prog 13 #[.pointer (some ⟨L, 0, none⟩)] W fun e w' => e = .returned (.int .i64 3) ∧ w' = W := fun W L q cap h => lenL w.heap.size L q cap L3 W h
  have hall : ∀ (W : World) (L : Nat) (q : Option Addr) (cap : Nat), Lst W w.heap.size L q cap L3 → Calls Try.prog 11 #[.pointer (some ⟨L, 0, none⟩)] W fun e w' => (∃ g cap', e = .returned (.slice (some ⟨g, 0, none⟩) 3 cap') ∧ w'.cell? ⟨g, 3, none⟩ = some (.bool true)) ∧ Below W.heap.size W w' := fun W L q cap h => (allL w.heap.size L q cap L3 W (by decide) h).mono fun e w' ⟨⟨q', cap', he, ho⟩, hb⟩ => by
    obtain ⟨g, rfl, _⟩ := ho.some_of (by decide)
    exact ⟨⟨g, cap', he, (ho.at2 (k := 1) (x := (2, true)) rfl).2⟩, hb⟩
  have hadd : ∀ (W : World) (L : Nat) (q : Option Addr) (cap : Nat), Lst W w.heap.size L q cap L3 → w.heap.size ≤ W.heap.size → w.heap.size ≤ L → Calls Try.prog 21 #[.pointer (some ⟨L, 0, none⟩), .slice (some ⟨W.heap.size, 0, none⟩) 1 1] (W.alloc (.cells #[.int .i64 9, .bool false] 43)) fun e w' => e = .returned (.int .i64 1) ∧ (∃ q' cap', Lst w' w.heap.size L q' cap' L4) ∧ Below w.heap.size W w' := fun W L q cap h hW hL => by
    have hb0 : Below W.heap.size W (W.alloc (.cells #[.int .i64 9, .bool false] 43)) := (Below.refl _ _).alloc (Nat.le_refl _) _
    have := addL w.heap.size L q cap L3 (some ⟨W.heap.size, 0, none⟩) 1 [(9, false)] _ (h.below hb0) str3 (slBlock (World.alloc_heap_new W _) (by simp [flat_cons, flat_nil]) (by unfold maxLen; decide)) (Nat.le_trans hW hb0.size) (by decide)
    rw [ris4] at this
    refine this.mono fun e w' ⟨he, q', cap', w1, hs, hb1, ho, hw⟩ => ⟨he, ⟨q', cap', ?_⟩, ?_⟩
    · rw [hw]; exact ((h.below hb0).put hs ho).2
    · rw [hw]; exact ((hb0.mono hW).trans hb1).setCell (p := ⟨L, 0, none⟩) hL _
  have hcur : ∀ (W : World) (L : Nat) (q : Option Addr) (cap : Nat), Lst W w.heap.size L q cap L4 → Calls Try.prog 9 #[.pointer (some ⟨L, 0, none⟩)] W fun e w' => (∃ C, e = .returned (.pointer (some ⟨C, 0, none⟩)) ∧ W.heap.size ≤ C ∧ Cur w' C q 4 cap 0) ∧ Below W.heap.size W w' := fun W L q cap h => (cursorL w.heap.size L q cap L4 W h).mono fun e w' ⟨⟨C, he, hC, hc⟩, hb⟩ => ⟨⟨C, he, by omega, hc⟩, hb⟩
  have hskip : ∀ (W : World) (L C : Nat) (q : Option Addr) (cap : Nat), Lst W w.heap.size L q cap L4 → Cur W C q 4 cap 0 → Calls Try.prog 16 #[.pointer (some ⟨C, 0, none⟩), .int .i64 3] W fun e w' => e = .returned (.bool true) ∧ Cur w' C q 4 cap 3 ∧ W.grownBy w' (some C) := fun W L C q cap h hc => by
    have := skipC C q cap 0 L4 3 W hc h.2.ls h.2.base str4 (by decide) (by decide)
    rw [cnt3] at this
    exact this
  have hat : ∀ (W : World) (C : Nat) (q : Option Addr) (cap : Nat), Cur W C q 4 cap 3 → Calls Try.prog 18 #[.pointer (some ⟨C, 0, none⟩)] W fun e w' => e = .returned (.int .i64 3) ∧ w' = W := fun W C q cap h => atC C q 4 cap 3 W h
  have hleft : ∀ (W : World) (C : Nat) (q : Option Addr) (cap : Nat), Cur W C q 4 cap 3 → Calls Try.prog 20 #[.pointer (some ⟨C, 0, none⟩)] W fun e w' => e = .returned (.int .i64 1) ∧ w' = W.drew := fun W C q cap h => leftC C q 4 cap 3 W h (by decide) (by decide)
  have hpost : ∀ (W : World) (L C : Nat) (q : Option Addr) (cap : Nat), Lst W w.heap.size L q cap L4 → Cur W C q 4 cap 3 → Calls Try.prog 17 #[.pointer (some ⟨C, 0, none⟩)] W fun e w' => e = .returned (.tuple #[.agg #[.int .i64 9, .bool false], .bool true]) ∧ Below W.heap.size W w' := fun W L C q cap h hc => postC C q cap 3 L4 W hc h.2.ls (by decide) (by decide)
  have hnext : ∀ (W : World) (C : Nat) (q : Option Addr) (cap : Nat), Cur W C q 4 cap 3 → Calls Try.prog 19 #[.pointer (some ⟨C, 0, none⟩)] W fun e w' => e = .returned (.bool false) ∧ W.grownBy w' (some C) := fun W C q cap hc => (nextC_in C q 4 cap 3 W hc (by decide) (by decide)).mono fun e w' ⟨he, _, hg⟩ => ⟨he, hg⟩
  have hdrop : ∀ (W : World) (L : Nat) (q : Option Addr) (cap : Nat), Lst W w.heap.size L q cap L4 → w.heap.size ≤ W.heap.size → w.heap.size ≤ L → Calls Try.prog 22 #[.pointer (some ⟨L, 0, none⟩), .slice (some ⟨W.heap.size, 0, none⟩) 3 3] (W.alloc (.cells #[.int .i64 2, .int .i64 2, .int .i64 7] 3)) fun e w' => e = .returned (.int .i64 2) ∧ (∃ q' cap', Lst w' w.heap.size L q' cap' L2) ∧ Below w.heap.size W w' := fun W L q cap h hW hL => by
    have hb0 : Below W.heap.size W (W.alloc (.cells #[.int .i64 2, .int .i64 2, .int .i64 7] 3)) := (Below.refl _ _).alloc (Nat.le_refl _) _
    have := dropL w.heap.size L q cap L4 (some ⟨W.heap.size, 0, none⟩) 3 [2, 2, 7] _ (h.below hb0) (slBlockI (World.alloc_heap_new W _) rfl (by unfold maxLen; decide)) (Nat.le_trans hW hb0.size) (by decide) (by decide)
    rw [wo2] at this
    refine this.mono fun e w' ⟨he, q', cap', w1, hs, hb1, ho, hw⟩ => ⟨he, ⟨q', cap', ?_⟩, ?_⟩
    · rw [hw]; exact ((h.below hb0).put hs ho).2
    · rw [hw]; exact ((hb0.mono hW).trans hb1).setCell (p := ⟨L, 0, none⟩) hL _
  have hmerge : ∀ (W : World) (L : Nat) (q : Option Addr) (cap : Nat), Lst W w.heap.size L q cap L2 → w.heap.size ≤ W.heap.size → Calls Try.prog 15 #[.slice (some ⟨W.heap.size, 0, none⟩) 2 2] (W.alloc (.cells #[.pointer (some ⟨L, 0, none⟩), .pointer (some ⟨L, 0, none⟩)] 25)) fun e w' => (∃ q' cap', e = .returned (.slice q' 2 cap')) ∧ Below w.heap.size W w' := fun W L q cap h hW => by
    have hb0 : Below W.heap.size W (W.alloc (.cells #[.pointer (some ⟨L, 0, none⟩), .pointer (some ⟨L, 0, none⟩)] 25)) := (Below.refl _ _).alloc (Nat.le_refl _) _
    have hl := h.below hb0
    have hblk := World.alloc_heap_new W (.cells #[.pointer (some ⟨L, 0, none⟩), .pointer (some ⟨L, 0, none⟩)] 25)
    have hcl : ∀ j, (W.alloc (.cells #[.pointer (some ⟨L, 0, none⟩), .pointer (some ⟨L, 0, none⟩)] 25)).cell? ⟨W.heap.size, j, none⟩ = (#[.pointer (some ⟨L, 0, none⟩), .pointer (some ⟨L, 0, none⟩)] : Array Value)[j]? := fun j => cell_of_row _ _ _ _ 25 (0, 0) hblk
    have := mergeL (some ⟨W.heap.size, 0, none⟩) 2 [(L, L2), (L, L2)] (W.alloc (.cells #[.pointer (some ⟨L, 0, none⟩), .pointer (some ⟨L, 0, none⟩)] 25)) (fun j x hj => ⟨W.heap.size, 0, rfl, (by rw [World.size_alloc]; omega), by
        rw [Nat.zero_add, hcl]
        match j, hj with
        | 0, hj => simp at hj; subst hj; rfl
        | 1, hj => simp at hj; subst hj; rfl
        | j + 2, hj => simp at hj, q, cap, (by
        match j, hj with
        | 0, hj => simp at hj; subst hj; exact hl.lt
        | 1, hj => simp at hj; subst hj; exact hl.lt
        | j + 2, hj => simp at hj), (by
        match j, hj with
        | 0, hj => simp at hj; subst hj; exact hl.cell
        | 1, hj => simp at hj; subst hj; exact hl.cell
        | j + 2, hj => simp at hj), (by
        match j, hj with
        | 0, hj => simp at hj; subst hj; exact hl.2.ls
        | 1, hj => simp at hj; subst hj; exact hl.2.ls
        | j + 2, hj => simp at hj)⟩) (by show 2 ≤ 100000000000000; decide) (by show 4 * 16 ≤ 140737488355328; decide)
    exact this.mono fun e w' ⟨⟨q', cap', he, _⟩, hb⟩ => ⟨⟨q', cap', he⟩, (hb0.mono hW).trans (hb.mono (by simp; omega))⟩
  go_enter Try.func7, Try.ntmps7
  go_wp2_with (first
    | (go_at_call 15; refine (hmerge _ L q9 cap9 (unhide Hl9) hsz9).mono ?_; rintro e w10 ⟨⟨qm, cm, rfl⟩, hb10⟩; have HB10 := hide ((unhide HB9).trans hb10); clear hb10)
    | (go_at_call 22; refine (hdrop _ L q6 cap6 (unhide Hl8) hsz8 (by omega)).mono ?_; rintro e w9 ⟨rfl, ⟨q9, cap9, hl9⟩, hb9⟩; have Hl9 := hide hl9; have HB9 := hide ((unhide HB8).trans hb9); have hsz9 := (unhide HB9).size; clear hl9 hb9)
    | (go_at_call 19; refine (hnext _ C q6 cap6 (unhide HC7b)).mono ?_; rintro e w8 ⟨rfl, hg8⟩; have Hl8 := hide ((unhide Hl7b).cur (unhide HC7b) hg8); have HB8 := hide ((unhide HB7b).trans (below_of_grown hg8 (by omega) (unhide HB7b).size)); have hsz8 := (unhide HB8).size; clear hg8)
    | (go_at_call 17; refine (hpost _ L C q6 cap6 (unhide Hl7) (unhide HC7)).mono ?_; rintro e w7b ⟨rfl, hb7b⟩; have Hl7b := hide (((unhide Hl7).below hb7b).below ((Below.refl _ _).alloc (Nat.le_refl _) (.cells #[.int .i64 9, .bool false] 43))); have HC7b := hide (((unhide HC7).below hb7b).below ((Below.refl _ _).alloc (Nat.le_refl _) (.cells #[.int .i64 9, .bool false] 43))); have HB7b := hide (((unhide HB7).trans (hb7b.mono hsz7)).trans ((Below.refl _ _).alloc (Nat.le_trans hsz7 hb7b.size) (.cells #[.int .i64 9, .bool false] 43))); clear hb7b)
    | (go_at_call 20; refine (hleft _ C q6 cap6 (unhide HC6b)).mono ?_; rintro e w7 ⟨rfl, hw7⟩; have HC7 := hide (show Cur w7 C q6 4 cap6 3 from hw7 ▸ unhide HC6b); have Hl7 := hide (show Lst w7 w.heap.size L q6 cap6 L4 from hw7 ▸ unhide Hl6b); have HB7 := hide (show Below w.heap.size w w7 from hw7 ▸ (unhide HB6b).drew); have hsz7 := (unhide HB7).size; clear hw7)
    | (go_at_call 18; refine (hat _ C q6 cap6 (unhide HC6b)).mono ?_; rintro e w6c ⟨rfl, rfl⟩)
    | (go_at_call 16; refine (hskip _ L C q6 cap6 (unhide Hl6) (unhide HC6)).mono ?_; rintro e w6b ⟨rfl, hc6b, hg6b⟩; have HC6b := hide hc6b; have Hl6b := hide ((unhide Hl6).cur (unhide HC6) hg6b); have HB6b := hide ((unhide HB6).trans (below_of_grown hg6b (by omega) (unhide HB6).size)); clear hc6b hg6b)
    | (go_at_call 9; refine (hcur _ L q6 cap6 (unhide Hl5b)).mono ?_; rintro e w6 ⟨⟨C, rfl, hC, hc6⟩, hb6⟩; have HC6 := hide hc6; have Hl6 := hide ((unhide Hl5b).below hb6); have HB6 := hide ((unhide HB5b).trans (hb6.mono hsz5b)); clear hc6 hb6)
    | (go_at_call 21; refine (hadd _ L q cap (unhide Hl5) hsz5 (by omega)).mono ?_; rintro e w5b ⟨rfl, ⟨q6, cap6, hl5b⟩, hb5b⟩; have Hl5b := hide hl5b; have HB5b := hide ((unhide HB5).trans hb5b); have hsz5b := (unhide HB5b).size; clear hl5b hb5b)
    | (go_at_call 11; refine (hall _ L q cap (unhide Hl4)).mono ?_; rintro e w5 ⟨⟨g5, c5, rfl, cell5⟩, hb5⟩; have Hl5 := hide ((unhide Hl4).below hb5); have HB5 := hide ((unhide HB4).trans (hb5.mono hsz4)); have hsz5 := (unhide HB5).size; clear hb5)
    | (go_at_call 11; refine (hall _ L q cap (unhide Hl3)).mono ?_; rintro e w4 ⟨⟨g4, c4, rfl, cell4⟩, hb4⟩; have Hl4 := hide ((unhide Hl3).below hb4); have HB4 := hide ((unhide HB3).trans (hb4.mono hsz3)); have hsz4 := (unhide HB4).size; clear hb4 cell4)
    | (go_at_call 23; refine (hasL w.heap.size L q cap L3 (1, false) _ (by decide) str3 (unhide Hl)).mono ?_; rw [show decide ((1, false) ∈ L3) = true by decide]; rintro e w3 ⟨rfl, hb3⟩; have Hl3 := hide ((unhide Hl).below hb3); have HB3 := hide ((unhide HB).trans (hb3.mono hsz2)); have hsz3 := (unhide HB3).size; clear hb3)
    | (go_at_call 13; refine (hlen _ L q cap (unhide Hl)).mono ?_; rintro e w2' ⟨rfl, rfl⟩)
    | (go_at_call 8; refine hnew.mono ?_; rintro e w2 ⟨⟨L, q, cap, rfl, hL, hl⟩, hb⟩; have Hl := hide hl; have HB := hide hb; have hsz2 := hb.size; clear hl hb))
  go_ret
  exact ⟨rfl, unhide HB10⟩
end Go.Proofs.Ytelgpmjafaopmaa
