/- slices.Sort and slices.Sorted over numbers. -/
import Derived.Test.YtelgpmjafaopmaaShelfI
import Derived.Test.YtelgpmjafaopmaaSearchI
import Derived.Lib.OwnBridge
namespace Go.Proofs.Ytelgpmjafaopmaa
open Go.RowKit Go.Sort Go.Shelf

theorem flatI (l : List Int) : (flatK encI 1 l.toArray).toList = l.map (Value.int .i64) := by
  induction l with
  | nil => simp [flatK]
  | cons x l ih =>
    rw [show x :: l = [x] ++ l from rfl, flat_app encI 1 (by decide), flat_oneI, ih]; rfl
theorem sort_wk (l : List Int) : WkI (l.mergeSort fun x y => decide (x ≤ y)) := by
  have h := List.pairwise_mergeSort (le := fun x y : Int => decide (x ≤ y)) (fun a b c h1 h2 => by simp only [decide_eq_true_eq] at *; omega) (fun a b => by simp only [Bool.or_eq_true, decide_eq_true_eq]; omega) l
  exact h.imp fun {a b} hab => by simpa using hab
theorem slI_of_holds {w : World} {g cap : Nat} {l : List Int} (hg : g < w.heap.size) (hc : l.length ≤ cap) (hm : cap ≤ maxLen) (h : Holds (Value.int .i64) w g 0 l.toArray) : SlOf encI 1 w (some ⟨g, 0, none⟩) cap l := by
  refine ⟨(fun h => by cases h), hc, hm, fun _ => ⟨g, 0, rfl, hg, fun j u hj => ?_⟩⟩
  rw [flatI, List.getElem?_map] at hj
  obtain ⟨x, hx, rfl⟩ := Option.map_eq_some_iff.1 hj
  have hl := (List.getElem?_eq_some_iff.1 hx).1
  rw [(h j (by simpa using hl)).1, get_bang hx]
theorem sortI (B : Nat) (q : Option Addr) (cap : Nat) (l : List Int) (w : World) (hl : l.length < 4611686018427387904) (h : OwnK encI 3 1 B w q cap l) :
    Calls Try.prog 52 #[.slice q l.length cap] w fun e w' => e = .returned (.tuple #[]) ∧ ∃ l', l'.Perm l ∧ WkI l' ∧ SlOf encI 1 w' q cap l' ∧ Below B w w' := by
  by_cases h0 : l.length = 0
  · obtain rfl : l = [] := List.length_eq_zero_iff.1 h0
    have hcon := Any.slices_Sort_int_none Try.sortI q cap w
    change Calls Try.prog 52 _ _ _ at hcon
    exact hcon.mono fun e w' ⟨he, hw⟩ => ⟨he, [], List.Perm.refl _, List.Pairwise.nil, by rw [hw]; exact h.ls, by rw [hw]; exact Below.refl _ _⟩
  · have hrow : w.ownsRow B 3 1 (.slice q l.length cap) l.length (l.map (Value.int .i64)) := by have := h; unfold OwnK at this; rw [flatI] at this; exact this
    have hne : (Value.slice q l.length cap) ≠ .slice none 0 0 := fun e => by injection e with _ e2; omega
    obtain ⟨g, cap', hv, hB, hg, hnc, hm, _, hH⟩ := Lib.holds_of_ownsRow hrow hne
    injection hv with h1 h2 h3
    subst h1 h3
    have hcon := Any.slices_Sort_int Try.sortI g 0 cap l w hH hg hl
    change Calls Try.prog 52 _ _ _ at hcon
    have hp : (l.mergeSort fun x y => decide (x ≤ y)).Perm l := List.mergeSort_perm _ _
    refine hcon.mono fun e w' ⟨he, n, os, hw⟩ => ⟨he, l.mergeSort fun x y => decide (x ≤ y), hp, sort_wk l, ?_, ?_⟩
    · rw [hw]
      refine slI_of_holds (by simp [grow]; omega) (by rw [hp.length_eq]; exact hnc) hm ?_
      exact holds_grow _ _ _ _ _ _ (by simpa using hg) (holds_putRow _ _ _ _ l.toArray _ (holds_ahead _ _ _ _ _ _ hH) (by simp))
    · rw [hw]
      refine ⟨rfl, rfl, rfl, by simp [grow, putRow, mapBlock, Sort.ahead], fun j hj => ?_⟩
      simp only [grow, putRow, mapBlock, Sort.ahead]
      rw [Array.getElem?_append_left (by simp; omega)]
      simp [Array.getElem?_modify, show g ≠ j by omega]
/-- slices.Sorted over a list of numbers. -/
theorem sortedI (Bs : Nat) (p : Option Addr) (c : Nat) (zs : List Int) (hz : zs.length * 8 ≤ 140737488355328) (w : World) (hBs : Bs < w.heap.size) (hcell : w.cell? ⟨Bs, 0, none⟩ = some (.slice p zs.length c)) (hc : SlOf encI 1 w p c zs) :
    Calls Try.prog 40 #[.func (.func 53) #[] #[.pointer (some ⟨Bs, 0, none⟩)]] w fun e w' => (∃ q cap l', e = .returned (.slice q zs.length cap) ∧ l'.Perm zs ∧ WkI l' ∧ SlOf encI 1 w' q cap l') ∧ Below w.heap.size w w' := by
  have h := collectI Bs p c zs hz w hBs hcell hc
  clear hcell hc
  go_enter Try.func40, Try.ntmps40
  go_wp2_with (first
    | (go_at_call 51; refine h.mono ?_; rintro e w1 ⟨⟨q, cap, rfl, ho⟩, hb⟩; have HO := hide ho; have HB := hide hb; clear ho hb)
    | (go_at_call 52; refine (sortI w.heap.size q cap zs _ (by omega) (unhide HO)).mono ?_; rintro e w2 ⟨rfl, l', hp, hw, ho2, hb2⟩; have HP := hide hp; have HW := hide hw; have HO2 := hide ho2; have HB2 := hide hb2; clear hp hw ho2 hb2))
  go_ret
  exact ⟨⟨q, cap, l', rfl, unhide HP, unhide HW, unhide HO2⟩, (unhide HB).trans (unhide HB2)⟩
end Go.Proofs.Ytelgpmjafaopmaa
