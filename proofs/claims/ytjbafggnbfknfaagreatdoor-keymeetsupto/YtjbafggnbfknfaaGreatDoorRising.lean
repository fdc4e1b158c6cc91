/- What slices.SortFunc, slices.SortedFunc and key.rising do with a list of keys. -/
import Derived.Test.YtjbafggnbfknfaaGreatDoorRisA
import Derived.Test.YtjbafggnbfknfaaGreatDoorColl
import Derived.Test.YtjbafggnbfknfaaGreatDoorCmpK
import Derived.Test.YtjbafggnbfknfaaGreatDoorShelf
import Derived.Shelf.SlSortCmp.NoneTotal
namespace Go.Proofs.YtjbafggnbfknfaaGreatDoor
open Go.RowKit Go.Sort Go.Shelf

theorem perm_of {α : Type} [Inhabited α] {d d' : Array α} (h : PermIn 0 d.size d d') : d'.toList.Perm d.toList := by
  obtain ⟨hs, _, hp⟩ := h
  rw [← hs] at hp
  have e1 : d'.extract 0 d'.size = d' := Array.extract_size
  have e2 : d.extract 0 d'.size = d := by rw [hs]; exact Array.extract_size
  rw [e1, e2] at hp
  exact hp
/-- A whole row that holds l. -/
theorem OwnK.of_holds {B g cap : Nat} {w : World} {l : List Ky} {cur : Array Value} (hB : B ≤ g) (hblk : w.heap[g]? = some (.cells cur 46 (0, 0))) (hs : cur.size = cap * 5) (h1 : l.length ≤ cap) (h2 : cap ≤ maxLen) (hH : HoldsK encK 5 w g 0 l.toArray) : OwnK encK 46 5 B w (some ⟨g, 0, none⟩) cap l := by
  refine ⟨by rw [flat_len], Or.inr ⟨g, cap, cur, rfl, hB, hblk, h1, h2, hs, ?_⟩⟩
  apply List.ext_getElem?
  intro t
  by_cases ht : t < l.length * 5
  · have hc := (hH t (by simpa using ht)).1
    rw [Nat.zero_add, cell_of_row w g t cur 46 (0, 0) hblk] at hc
    rw [List.getElem?_take, if_pos ht, Array.getElem?_toList, hc]
    have hf : t < (flatK encK 5 l.toArray).size := by simpa using ht
    rw [Array.getElem?_toList, Array.getElem?_eq_getElem hf, getElem!_pos _ t hf]
    rfl
  · rw [List.getElem?_eq_none (by rw [List.length_take]; omega), List.getElem?_eq_none (by simp; omega)]
theorem ltOf_cmp (x y : Ky) : ltOf cmpK x y = decide (ltK x y) := rfl
theorem swoP : SWO (ltOf cmpK) where
  irrefl x := by rw [ltOf_cmp]; exact decide_eq_false (lt_irrefl x)
  trans x y z h1 h2 := by rw [ltOf_cmp] at *; exact decide_eq_true (lt_trans (of_decide_eq_true h1) (of_decide_eq_true h2))
  ntrans x y z h1 h2 := by
    rw [ltOf_cmp] at *
    have h1 := of_decide_eq_false h1
    have h2 := of_decide_eq_false h2
    refine decide_eq_false fun h => ?_
    by_cases hxy : ltK y x
    · exact h2 (lt_trans hxy h)
    · exact h2 ((lt_total h1 hxy) ▸ h)
theorem cmpLaysP (blk off size : Nat) (w : World) : CmpLays Tryz.prog 19 #[] encK 5 cmpK blk off size w :=
  fun _ _ _ _ x y => compareK x y _
theorem wk_of {d' : Array Ky} {n : Nat} (hs : d'.size = n) (h : SortedIn (ltOf cmpK) 0 n d') : Wk d'.toList := by
  unfold Wk
  rw [List.pairwise_iff_getElem]
  intro i j hi hj hij
  have := h i j (Nat.zero_le _) hij (by rw [← hs]; simpa using hj)
  rw [getElem!_pos _ j (by simpa using hj), getElem!_pos _ i (by simpa using hi), ltOf_cmp] at this
  simpa using of_decide_eq_false this
theorem sortP_some (B g cap : Nat) (l : List Ky) (w : World) (hl : l.length < 4611686018427387904) (h : OwnK encK 46 5 B w (some ⟨g, 0, none⟩) cap l) (h0 : 0 < l.length) :
    Calls Tryz.prog 28 #[.slice (some ⟨g, 0, none⟩) l.length cap, .func (.func 19) #[] #[]] w fun e w' => e = .returned (.tuple #[]) ∧ ∃ l', l'.Perm l ∧ Wk l' ∧ OwnK encK 46 5 B w' (some ⟨g, 0, none⟩) cap l' ∧ Below B w w' := by
  have eg : ∀ args w, (callFunc 19 args).run Tryz.prog w = .ok (.enter 19 args) w := enters_of Tryz.func19 (by kernel_rfl) rfl
  rcases h.2 with ⟨h1, h2⟩ | ⟨g', cap', cur, hv, hB, hblk, hc, hm, hs, ht⟩
  · omega
  injection hv with h1 h2 h3
  obtain rfl : g = g' := by injection h1 with h1; injection h1
  subst h3
  obtain ⟨_, _, hv', _, hg, hH, _, _⟩ := holds_own (d := l.toArray) (enc := encK) (v := .slice (some ⟨g, 0, none⟩) l.length cap) (by intro e; cases e) (by simpa [OwnK] using h)
  injection hv' with h4 h5 h6
  injection h4 with h4
  injection h4 with h4
  subst h4 h6
  have hcon := AnyQ.slices_SortFunc Tryz.sortK 5 Tryz.isAgg46 Tryz.sizeOf46 encK (fun _ => rfl) (fun x v hv => by simp [encK] at hv; rcases hv with rfl | rfl | rfl | rfl | rfl <;> rfl) cmpK swoP 19 #[] g 0 cap l.toArray w eg (cmpLaysP g 0 l.toArray.size w) hH hg (by simpa using hl)
  change Calls Tryz.prog 28 _ _ _ at hcon
  have es : l.toArray.size = l.length := by simp
  rw [es] at hcon
  refine hcon.mono fun e w' ⟨he, d', n, os, hp, hs', hw⟩ => ⟨he, d'.toList, ?_, ?_, ?_⟩
  · have := perm_of (d := l.toArray) (by rw [es]; exact hp)
    simpa using this
  · exact wk_of (hp.1.trans es) hs'
  · subst hw
    obtain ⟨a, _⟩ := holds_sortWorld (n := n) (os := os) hg hH hp.1
    obtain ⟨cur', hb', hsz'⟩ := shape_sortWorld (enc := encK) (k := 5) (n := n) (d := d') (os := os) hblk
    refine ⟨OwnK.of_holds hB hb' (by rw [hsz', hs]) ?_ hm (by simpa using a), (below_sortWorld w g n d' os hg).mono hB⟩
    have : d'.size = l.length := hp.1.trans es
    simp [this]; exact hc
theorem sortP_none (q : Option Addr) (cap : Nat) (fv : Value) (w : World) :
    Calls Tryz.prog 28 #[.slice q 0 cap, fv] w fun e w' => e = .returned (.tuple #[]) ∧ w' = w := by
  have hcon := AnyF.slices_SortFunc_none Tryz.sortK q cap fv w
  change Calls Tryz.prog 28 _ _ _ at hcon
  exact hcon
theorem sortP_any (B : Nat) (q : Option Addr) (cap : Nat) (l : List Ky) (w : World) (hl : l.length < 4611686018427387904) (h : OwnK encK 46 5 B w q cap l) :
    Calls Tryz.prog 28 #[.slice q l.length cap, .func (.func 19) #[] #[]] w fun e w' => e = .returned (.tuple #[]) ∧ ∃ l', l'.Perm l ∧ Wk l' ∧ OwnK encK 46 5 B w' q cap l' ∧ Below B w w' := by
  by_cases h0 : l.length = 0
  · obtain rfl : l = [] := List.length_eq_zero_iff.1 h0
    exact (sortP_none q cap _ w).mono fun e w' ⟨he, hw⟩ => ⟨he, [], List.Perm.refl _, List.Pairwise.nil, by rw [hw]; exact h, by rw [hw]; exact Below.refl _ _⟩
  · obtain ⟨g, rfl, _⟩ := h.some_of (by omega)
    exact sortP_some B g cap l w hl h (by omega)
/-- slices.SortedFunc over a list of keys. -/
theorem sortedP (Bs : Nat) (p : Option Addr) (c : Nat) (zs : List Ky) (hz : zs.length * 56 ≤ 140737488355328) (w : World) (hBs : Bs < w.heap.size) (hcell : w.cell? ⟨Bs, 0, none⟩ = some (.slice p zs.length c)) (hc : SlOf encK 5 w p c zs) :
    Calls Tryz.prog 82 #[.func (.func 125) #[] #[.pointer (some ⟨Bs, 0, none⟩)], .func (.func 19) #[] #[]] w fun e w' => (∃ q cap l', e = .returned (.slice q zs.length cap) ∧ l'.Perm zs ∧ Wk l' ∧ OwnK encK 46 5 w.heap.size w' q cap l') ∧ Below w.heap.size w w' := by
  have h := collectP Bs p c zs hz w hBs hcell hc
  clear hcell hc
  go_enter Tryz.func82, Tryz.ntmps82
  go_wp2_with (first
    | (go_at_call 124; refine h.mono ?_; rintro e w1 ⟨⟨q, cap, rfl, ho⟩, hb⟩; have HO := hide ho; have HB := hide hb; clear ho hb)
    | (go_at_call 28; refine (sortP_any w.heap.size q cap zs _ (by omega) (unhide HO)).mono ?_; rintro e w2 ⟨rfl, l', hp, hw, ho2, hb2⟩; have HP := hide hp; have HW := hide hw; have HO2 := hide ho2; have HB2 := hide hb2; clear hp hw ho2 hb2))
  go_ret
  exact ⟨⟨q, cap, l', rfl, unhide HP, unhide HW, unhide HO2⟩, (unhide HB).trans (unhide HB2)⟩
/-- key.rising. -/
theorem risingP (p : Option Addr) (c : Nat) (zs : List Ky) (hz : zs.length * 56 ≤ 140737488355328) (w : World) (hc : SlOf encK 5 w p c zs) :
    Calls Tryz.prog 44 #[.slice p zs.length c] w fun e w' => (∃ q cap, e = .returned (.slice q (ris zs).length cap) ∧ OwnK encK 46 5 w.heap.size w' q cap (ris zs)) ∧ Below w.heap.size w w' := by
  have hal : Below w.heap.size w (w.alloc (.cells #[.slice p zs.length c] 30)) := (Below.refl _ _).alloc (Nat.le_refl _) _
  have hs := sortedP w.heap.size p c zs hz (w.alloc (.cells #[.slice p zs.length c] 30)) (by simp) (Boxed.new w 30 _).cell (hc.below hal)
  have hv := valuesP p zs.length c w
  have HAL := hide hal
  clear hc hal
  go_enter Tryz.func44, Tryz.ntmps44
  go_wp2_with (first
    | (go_at_call 83; refine hv.mono ?_; rintro e w1 ⟨rfl, rfl⟩)
    | (go_at_call 82; refine hs.mono ?_; rintro e w2 ⟨⟨q, cap, l', rfl, hp, hw, ho⟩, hb⟩; have hle := hp.length_eq; have HP := hide hp; have HW := hide hw; have HO := hide ho; have HB := hide hb; clear hp hw ho hb)
    | (go_at_call 81; refine (show Calls Tryz.prog 81 #[.slice q zs.length cap] w2 _ from hle ▸ compactP (w.alloc (.cells #[.slice p zs.length c] 30)).heap.size q cap l' w2 (unhide HO) (unhide HB).size (by omega)).mono ?_; rintro e w3 ⟨rfl, ho3, hb3⟩; have HO3 := hide ho3; have HB3 := hide hb3; clear ho3 hb3))
  go_ret
  have e1 : cpt l' = ris zs := cpt_ris (unhide HW) fun x => (unhide HP).mem_iff
  refine ⟨⟨q, cap, by rw [← e1]; rfl, ?_⟩, ?_⟩
  · rw [← e1]; exact (unhide HO3).mono (by simp)
  · exact below_sub (unhide HAL) ((unhide HB).trans (unhide HB3))
end Go.Proofs.YtjbafggnbfknfaaGreatDoor
