/- slices.BinarySearch over numbers. -/
import Derived.Test.YtimklglliffpcaaGreatQCjNorm
import Derived.Laws.IdiomCopy
import Derived.Deep.Cut
import Derived.BigQuiet
import Derived.Lib.QuietBelow
import Derived.Test.YtimklglliffpcaaGreatQMemNode
import Derived.Test.YtimklglliffpcaaGreatQZab
import Derived.Test.YtimklglliffpcaaGreatQZac
import Derived.Test.YtimklglliffpcaaGreatQEvHolds
namespace Go.Proofs.YtimklglliffpcaaGreat
open Go.RowKit Go.Sort Go.Shelf

theorem lessI (a b : Int) (w : World) : Calls Tryz.prog 182 #[.int .i64 a, .int .i64 b] w fun e w' => e = .returned (.bool (decide (a < b))) ∧ w' = w := by
  go_enter Tryz.func182, Tryz.ntmps182
  go_wp2_with (go_at_call 123; refine (nan_any _ _).mono ?_; rintro e w1 ⟨rfl, rfl⟩)
  go_ret
  exact ⟨rfl, rfl⟩
theorem nan2_any (a : Int) (w : World) : Calls Tryz.prog 183 #[.int .i64 a] w fun e w' => e = .returned (.bool false) ∧ w' = w := by
  have h : (a != a) = false := by simp
  go_enter Tryz.func183, Tryz.ntmps183
  go_wp2
  go_ret
  exact ⟨rfl, rfl⟩
/-- Not falling. -/
def WkI (l : List Int) : Prop := l.Pairwise (· ≤ ·)
theorem WkI.at {l : List Int} (h : WkI l) {i j : Nat} {x y : Int} (hij : i ≤ j) (hx : l[i]? = some x) (hy : l[j]? = some y) : x ≤ y := by
  by_cases e : i = j
  · subst e; rw [hx] at hy; cases hy; exact Int.le_refl _
  · obtain ⟨hi, rfl⟩ := List.getElem?_eq_some_iff.1 hx
    obtain ⟨hj, rfl⟩ := List.getElem?_eq_some_iff.1 hy
    exact (List.pairwise_iff_getElem.1 h) i j hi hj (by omega)
theorem memI_at {l : List Int} (h : WkI l) {p : Int} {i : Nat} (h1 : ∀ x, 0 < i → l[i - 1]? = some x → x < p) (hi : i ≤ l.length) (h2 : ∀ x, l[i]? = some x → p ≤ x) : p ∈ l ↔ l[i]? = some p := by
  constructor
  · intro hm
    obtain ⟨j, hj, e⟩ := List.getElem_of_mem hm
    have hjp : l[j]? = some p := by rw [List.getElem?_eq_getElem hj, e]
    by_cases hji : j < i
    · obtain ⟨z, hz, _⟩ := get_at (l := l) (k := i - 1) (by omega)
      have h3 := h1 z (by omega) hz
      have h4 := h.at (by omega) hjp hz
      omega
    · obtain ⟨z, hz, _⟩ := get_at (l := l) (k := i) (by omega)
      have h3 := h2 z hz
      have h4 := h.at (by omega) hz hjp
      rw [hz]; congr 1; omega
  · intro e
    exact List.mem_of_getElem? e
set_option maxHeartbeats 2000000 in
set_option maxRecDepth 100000 in
theorem searchI (q : Option Addr) (c : Nat) (l : List Int) (p : Int) (w : World) (hs : SlOf encI 1 w q c l) (hl : l.length ≤ 100000000000000) (hst : WkI l) :
    Calls Tryz.prog 151 #[.slice q l.length c, .int .i64 p] w fun e w' => (∃ n : Nat, e = .returned (.tuple #[.int .i64 (n : Nat), .bool (decide (p ∈ l))])) ∧ w' = w := by
  have HS := hide hs
  have HST := hide hst
  have l1 : (l.length : Int) ≤ 100000000000000 := by omega
  clear hs hst
  go_enter Tryz.func151, Tryz.ntmps151
  go_wp2
  go_loopw [7, 8] (fun s9 s10 wr => ∃ lo hi : Nat, s9 = .int .i64 lo ∧ s10 = .int .i64 hi ∧ lo ≤ hi ∧ hi ≤ l.length ∧ (∀ x, 0 < lo → l[lo - 1]? = some x → x < p) ∧ (∀ x, l[hi]? = some x → p ≤ x) ∧ wr = w) (fun s9 s10 _ => (intOf s10).toNat - (intOf s9).toNat)
  case atStart => exact ⟨0, l.length, rfl, rfl, Nat.zero_le _, Nat.le_refl _, fun x h => by omega, fun x h => by simp at h, rfl⟩
  case round =>
    obtain ⟨lo, hi, rfl, rfl, hlh, hin, h1, h2, rfl⟩ := hrel
    have H1 := hide h1
    have H2 := hide h2
    by_cases hlt : lo < hi
    · obtain ⟨m, hm, hm1, hm2⟩ : ∃ m : Nat, ((lo : Int) + (hi : Int)) / 2 = (m : Int) ∧ lo ≤ m ∧ m < hi := ⟨(lo + hi) / 2, by omega, by omega, by omega⟩
      obtain ⟨y, hy, _⟩ := get_at (l := l) (k := m) (by omega)
      obtain ⟨b, off, hq, hbs, c0⟩ := intAt (unhide HS) hy
      have HY := hide hy
      have m0 : (0 : Int) ≤ (m : Int) := by omega
      have m1 : (m : Int) < (l.length : Int) := by omega
      subst hq
      clear h1 h2 hy
      by_cases hyx : y < p
      · have hd : decide (y < p) = true := decide_eq_true hyx
        go_wp2_with (go_at_call 182; refine (lessI _ _ _).mono ?_; rintro e w1 ⟨rfl, rfl⟩)
        go_roundw
        case rel => exact ⟨m + 1, hi, by go_num, rfl, by omega, hin, fun x _ hx => (by rw [Nat.add_sub_cancel, unhide HY] at hx; cases hx; exact hyx), unhide H2, trivial⟩
        case measure => simp [intOf]; omega
      · have hd : decide (y < p) = false := decide_eq_false hyx
        go_wp2_with (go_at_call 182; refine (lessI _ _ _).mono ?_; rintro e w1 ⟨rfl, rfl⟩)
        go_roundw
        case rel => exact ⟨lo, m, rfl, rfl, by omega, by omega, unhide H1, fun x hx => (by rw [unhide HY] at hx; cases hx; omega), trivial⟩
        case measure => simp [intOf]; omega
    · obtain rfl : hi = lo := by omega
      have HE := hide (memI_at (unhide HST) h1 hin h2)
      by_cases hn : hi < l.length
      · obtain ⟨y, hy, _⟩ := get_at (l := l) (k := hi) hn
        obtain ⟨b, off, hq, hbs, c0⟩ := intAt (unhide HS) hy
        have hpy : p ∈ l ↔ y = p := by rw [unhide HE, hy]; simp
        have HPY := hide hpy
        subst hq
        clear h1 h2 hy hpy
        by_cases e : y = p
        · have e1 : (y == p) = true := by simpa using e
          have HR := hide (decide_eq_true ((unhide HPY).2 e))
          clear e
          go_wp2_with (go_at_call 183; refine (nan2_any _ _).mono ?_; rintro e w1 ⟨rfl, rfl⟩)
          go_ret2
          exact ⟨⟨hi, by rw [unhide HR]; rfl⟩, rfl⟩
        · have e1 : (y == p) = false := by simpa using e
          have HR := hide (decide_eq_false (fun h => e ((unhide HPY).1 h)))
          clear e
          go_wp2_with (go_at_call 183; refine (nan2_any _ _).mono ?_; rintro e w1 ⟨rfl, rfl⟩)
          go_ret2
          exact ⟨⟨hi, by rw [unhide HR]; rfl⟩, rfl⟩
      · have HR := hide (show decide (p ∈ l) = false by
          refine decide_eq_false fun h => ?_
          have := (unhide HE).1 h
          rw [List.getElem?_eq_none (by omega)] at this; cases this)
        clear h1 h2
        go_wp2
        go_ret2
        exact ⟨⟨hi, by rw [unhide HR]; rfl⟩, rfl⟩
theorem less_B (a b : ByteArray) : Op.bytesLess a.toList b.toList = decide (cmpB a b < 0) := by
  rw [ByteArray.toList_eq, ByteArray.toList_eq]
  rcases hb : Op.bytesLess a.data.toList b.data.toList with _ | _
  · symm
    rw [decide_eq_false_iff_not]
    unfold cmpB cmpS
    rw [hb]
    rw [if_neg (by simp)]
    split <;> decide
  · symm
    rw [decide_eq_true_iff]
    unfold cmpB
    rw [cmpS_lt hb]
    decide
theorem hasS_mem {v : ByteArray} {l : List ByteArray} : hasS v l = true ↔ v ∈ l := by
  unfold hasS
  rw [List.any_eq_true]
  constructor
  · rintro ⟨x, hx, h⟩
    by_cases e : v = x
    · rw [e]; exact hx
    · rw [toList_ne e] at h; cases h
  · exact fun h => ⟨v, h, by simp⟩
theorem hasS_not {v : ByteArray} {l : List ByteArray} (h : ¬ v ∈ l) : hasS v l = false := by
  cases hs : hasS v l with
  | false => rfl
  | true => exact absurd (hasS_mem.1 hs) h
theorem lessS (a b : ByteArray) (w : World) : Calls Tryz.prog 184 #[.string a, .string b] w fun e w' => e = .returned (.bool (decide (cmpB a b < 0))) ∧ w' = w := by
  have h := less_B a b
  go_enter Tryz.func184, Tryz.ntmps184
  go_wp2_with (go_at_call 165; refine (nanS_any _ _).mono ?_; rintro e w1 ⟨rfl, rfl⟩)
  go_ret
  exact ⟨rfl, rfl⟩
theorem nan2S (a : ByteArray) (w : World) : Calls Tryz.prog 185 #[.string a] w fun e w' => e = .returned (.bool false) ∧ w' = w := by
  have h : (a.toList == a.toList) = true := by simp
  go_enter Tryz.func185, Tryz.ntmps185
  go_wp2
  go_ret
  exact ⟨by simp, rfl⟩
def WkS (l : List ByteArray) : Prop := l.Pairwise fun a b => cmpB a b ≤ 0
theorem WkS.at {l : List ByteArray} (h : WkS l) {i j : Nat} {x y : ByteArray} (hij : i ≤ j) (hx : l[i]? = some x) (hy : l[j]? = some y) : cmpB x y ≤ 0 := by
  by_cases e : i = j
  · subst e; rw [hx] at hy; cases hy; rw [(isCmp_B.eq x x).2 rfl]; exact Int.le_refl _
  · obtain ⟨hi, rfl⟩ := List.getElem?_eq_some_iff.1 hx
    obtain ⟨hj, rfl⟩ := List.getElem?_eq_some_iff.1 hy
    exact (List.pairwise_iff_getElem.1 h) i j hi hj (by omega)
theorem memS_at {l : List ByteArray} (h : WkS l) {p : ByteArray} {i : Nat} (h1 : ∀ x, 0 < i → l[i - 1]? = some x → cmpB x p < 0) (hi : i ≤ l.length) (h2 : ∀ x, l[i]? = some x → cmpB p x ≤ 0) : p ∈ l ↔ l[i]? = some p := by
  constructor
  · intro hm
    obtain ⟨j, hj, e⟩ := List.getElem_of_mem hm
    have hjp : l[j]? = some p := by rw [List.getElem?_eq_getElem hj, e]
    by_cases hji : j < i
    · obtain ⟨z, hz, _⟩ := get_at (l := l) (k := i - 1) (by omega)
      have h3 := h1 z (by omega) hz
      have h4 := h.at (by omega) hjp hz
      have h5 := isCmp_B.neg p z
      omega
    · obtain ⟨z, hz, _⟩ := get_at (l := l) (k := i) (by omega)
      have h3 := h2 z hz
      have h4 := h.at (by omega) hz hjp
      have h5 := isCmp_B.neg p z
      rw [hz, (isCmp_B.eq z p).1 (by omega)]
  · intro e
    exact List.mem_of_getElem? e
set_option maxHeartbeats 2000000 in
set_option maxRecDepth 100000 in
theorem searchS (q : Option Addr) (c : Nat) (l : List ByteArray) (p : ByteArray) (w : World) (hs : SlOf encS 1 w q c l) (hl : l.length ≤ 100000000000000) (hst : WkS l) :
    Calls Tryz.prog 153 #[.slice q l.length c, .string p] w fun e w' => (∃ n : Nat, e = .returned (.tuple #[.int .i64 (n : Nat), .bool (hasS p l)])) ∧ w' = w := by
  have HS := hide hs
  have HST := hide hst
  have l1 : (l.length : Int) ≤ 100000000000000 := by omega
  clear hs hst
  go_enter Tryz.func153, Tryz.ntmps153
  go_wp2
  go_loopw [7, 8] (fun s9 s10 wr => ∃ lo hi : Nat, s9 = .int .i64 lo ∧ s10 = .int .i64 hi ∧ lo ≤ hi ∧ hi ≤ l.length ∧ (∀ x, 0 < lo → l[lo - 1]? = some x → cmpB x p < 0) ∧ (∀ x, l[hi]? = some x → cmpB p x ≤ 0) ∧ wr = w) (fun s9 s10 _ => (intOf s10).toNat - (intOf s9).toNat)
  case atStart => exact ⟨0, l.length, rfl, rfl, Nat.zero_le _, Nat.le_refl _, fun x h => by omega, fun x h => by simp at h, rfl⟩
  case round =>
    obtain ⟨lo, hi, rfl, rfl, hlh, hin, h1, h2, rfl⟩ := hrel
    have H1 := hide h1
    have H2 := hide h2
    by_cases hlt : lo < hi
    · obtain ⟨m, hm, hm1, hm2⟩ : ∃ m : Nat, ((lo : Int) + (hi : Int)) / 2 = (m : Int) ∧ lo ≤ m ∧ m < hi := ⟨(lo + hi) / 2, by omega, by omega, by omega⟩
      obtain ⟨y, hy, _⟩ := get_at (l := l) (k := m) (by omega)
      obtain ⟨b, off, hq, hbs, c0⟩ := strAt (unhide HS) hy
      have HY := hide hy
      have m0 : (0 : Int) ≤ (m : Int) := by omega
      have m1 : (m : Int) < (l.length : Int) := by omega
      subst hq
      clear h1 h2 hy
      by_cases hyx : cmpB y p < 0
      · have hd : decide (cmpB y p < 0) = true := decide_eq_true hyx
        go_wp2_with (go_at_call 184; refine (lessS _ _ _).mono ?_; rintro e w1 ⟨rfl, rfl⟩)
        go_roundw
        case rel => exact ⟨m + 1, hi, by go_num, rfl, by omega, hin, fun x _ hx => (by rw [Nat.add_sub_cancel, unhide HY] at hx; cases hx; exact hyx), unhide H2, trivial⟩
        case measure => simp [intOf]; omega
      · have hd : decide (cmpB y p < 0) = false := decide_eq_false hyx
        go_wp2_with (go_at_call 184; refine (lessS _ _ _).mono ?_; rintro e w1 ⟨rfl, rfl⟩)
        go_roundw
        case rel => exact ⟨lo, m, rfl, rfl, by omega, by omega, unhide H1, fun x hx => (by rw [unhide HY] at hx; cases hx; have := isCmp_B.neg y p; omega), trivial⟩
        case measure => simp [intOf]; omega
    · obtain rfl : hi = lo := by omega
      have HE := hide (memS_at (unhide HST) h1 hin h2)
      by_cases hn : hi < l.length
      · obtain ⟨y, hy, _⟩ := get_at (l := l) (k := hi) hn
        obtain ⟨b, off, hq, hbs, c0⟩ := strAt (unhide HS) hy
        have hpy : p ∈ l ↔ y = p := by rw [unhide HE, hy]; simp
        have HPY := hide hpy
        subst hq
        clear h1 h2 hy hpy
        by_cases e : y = p
        · have e1 : (y.toList == p.toList) = true := by simp [e]
          have HR := hide (hasS_mem.2 ((unhide HPY).2 e))
          clear e
          go_wp2_with (go_at_call 185; refine (nan2S _ _).mono ?_; rintro e w1 ⟨rfl, rfl⟩)
          go_ret2
          exact ⟨⟨hi, by rw [unhide HR]; rfl⟩, rfl⟩
        · have e1 : (y.toList == p.toList) = false := toList_ne e
          have HR := hide (hasS_not (fun h => e ((unhide HPY).1 h)))
          clear e
          go_wp2_with (go_at_call 185; refine (nan2S _ _).mono ?_; rintro e w1 ⟨rfl, rfl⟩)
          go_ret2
          exact ⟨⟨hi, by rw [unhide HR]; rfl⟩, rfl⟩
      · have HR := hide (show hasS p l = false by
          refine hasS_not fun h => ?_
          have := (unhide HE).1 h
          rw [List.getElem?_eq_none (by omega)] at this; cases this)
        clear h1 h2
        go_wp2
        go_ret2
        exact ⟨⟨hi, by rw [unhide HR]; rfl⟩, rfl⟩
end Go.Proofs.YtimklglliffpcaaGreat
namespace Go.Proofs.YtimklglliffpcaaGreat
open Go.RowKit Go.Sort Go.Shelf

def vI (x : Int) : Value := .int .i64 x
def vS (x : ByteArray) : Value := .string x
/-- A row of one-cell things that may be written. -/
def Rw {α : Type} (enc : α → Value) (w : World) (g : Nat) (l : List α) : Prop := g < w.heap.size ∧ ∀ (j : Nat) (x : α), l[j]? = some x → w.cell? ⟨g, j, none⟩ = some (enc x) ∧ w.frozen? ⟨g, j, none⟩ = false
theorem Rw.kept {α : Type} {enc : α → Value} {w w' : World} {g : Nat} {l : List α} (h : Rw enc w g l) (hs : w.heap.size ≤ w'.heap.size) (hb : w'.heap[g]? = w.heap[g]?) : Rw enc w' g l :=
  ⟨Nat.lt_of_lt_of_le h.1 hs, fun j x hx => ⟨(World.cell?_of_block (a := ⟨g, j, none⟩) hb).trans (h.2 j x hx).1, (World.frozen?_of_block (a := ⟨g, j, none⟩) hb).trans (h.2 j x hx).2⟩⟩
theorem Rw.below {α : Type} {enc : α → Value} {w w' : World} {g : Nat} {l : List α} (h : Rw enc w g l) (hb : Below w.heap.size w w') : Rw enc w' g l := h.kept hb.size (hb.block g h.1)
theorem Rw.put {α : Type} {enc : α → Value} {w : World} {g : Nat} {l : List α} (h : Rw enc w g l) (k : Nat) (x : α) (hk : k < l.length) : Rw enc (w.setCell ⟨g, k, none⟩ (enc x)) g (l.set k x) := by
  refine ⟨by simpa using h.1, fun j y hy => ?_⟩
  have hfz : (w.setCell ⟨g, k, none⟩ (enc x)).frozen? ⟨g, j, none⟩ = w.frozen? ⟨g, j, none⟩ := by go_simp
  rw [hfz]
  by_cases e : j = k
  · subst e
    rw [List.getElem?_set_self hk] at hy
    cases hy
    obtain ⟨z, hz, _⟩ := get_at hk
    obtain ⟨h1, h2⟩ := h.2 j z hz
    refine ⟨?_, h2⟩
    have := World.cell?_setCells_in g [enc x] j w (fun t ht => by
      obtain rfl : t = 0 := by simpa using ht
      rw [Nat.add_zero, h1]; rfl) 0 (by simp)
    simpa [World.setCells] using this
  · rw [List.getElem?_set_ne (fun h => e h.symm)] at hy
    obtain ⟨h1, h2⟩ := h.2 j y hy
    refine ⟨?_, h2⟩
    rw [World.cell?_setCell_other w ⟨g, k, none⟩ ⟨g, j, none⟩ (enc x) (by intro q; injection q with _ q2; exact e q2.symm)]
    exact h1
theorem below_setCellsC (g : Nat) : ∀ (vs : List Value) (o : Nat) (w : World), True ∧ w.heap.size ≤ (w.setCells g o vs).heap.size
  | [], _, _ => ⟨trivial, Nat.le_refl _⟩
  | v :: vs, o, w => ⟨trivial, by
    have := (below_setCellsC g vs (o + 1) (w.setCell ⟨g, o, none⟩ v)).2
    simpa [World.setCells] using this⟩
theorem Rw.cut {α : Type} {enc : α → Value} {w : World} {g : Nat} {l : List α} (h : Rw enc w g l) (k : Nat) (vs : List Value) : Rw enc (w.setCells g k vs) g (l.take k) := by
  refine ⟨Nat.lt_of_lt_of_le h.1 (below_setCellsC g vs k w).2, fun j x hx => ?_⟩
  have hj : j < k := by
    by_cases hjk : j < k
    · exact hjk
    · rw [List.getElem?_eq_none (by rw [List.length_take]; omega)] at hx
      cases hx
  rw [List.getElem?_take_of_lt hj] at hx
  obtain ⟨h1, h2⟩ := h.2 j x hx
  rw [World.frozen?_setCells, World.cell?_setCells_out g vs k w ⟨g, j, none⟩ (fun _ _ => Or.inl hj)]
  exact ⟨h1, h2⟩
theorem grown_belowC {w w' : World} (h : Below w.heap.size w w') (r : Option Nat) : w.grownBy w' r := ⟨h.os, h.tape, h.output, h.size, fun k hk _ => h.block k hk⟩
theorem grown_twoC {w w1 w2 : World} {r : Option Nat} (h : w.grownBy w1 r) (h2 : w1.grownBy w2 r) : w.grownBy w2 r := ⟨h2.os.trans h.os, h2.tape.trans h.tape, h2.output.trans h.output, Nat.le_trans h.size h2.size, fun k hk hr => (h2.block k (Nat.lt_of_lt_of_le hk h.size) hr).trans (h.block k hk hr)⟩
theorem grown_setC {w w' : World} {g : Nat} (h : w.grownBy w' (some g)) (o : Nat) (v : Value) : w.grownBy (w'.setCell ⟨g, o, none⟩ v) (some g) := by
  refine grown_twoC h ⟨rfl, rfl, rfl, by simp, fun k _ hr => ?_⟩
  have hne : g ≠ k := fun e => hr (by rw [e])
  simp [World.setCell, Array.getElem?_modify, hne]
theorem grown_cellsC {w w' : World} {g : Nat} (h : w.grownBy w' (some g)) (vs : List Value) (o : Nat) : w.grownBy (w'.setCells g o vs) (some g) := by
  induction vs generalizing w' o with
  | nil => exact h
  | cons v vs ih => exact ih (grown_setC h o v) (o + 1)
def fstP {α : Type} (p : α → Bool) : List α → Nat
  | [] => 0
  | x :: l => if p x then 0 else fstP p l + 1
def idxP {α : Type} (p : α → Bool) (l : List α) : Int := if fstP p l < l.length then (fstP p l : Int) else -1
theorem fstP_at {α : Type} {p : α → Bool} : ∀ {l : List α} {k : Nat} {x : α}, (∀ (t : Nat) (y : α), t < k → l[t]? = some y → p y = false) → l[k]? = some x → p x = true → fstP p l = k
  | [], k, x, _, hx, _ => by simp at hx
  | y :: l, 0, x, _, hx, hp => by
    simp at hx
    subst hx
    simp [fstP, hp]
  | y :: l, k + 1, x, h, hx, hp => by
    have h0 := h 0 y (by omega) rfl
    have ih := fstP_at (l := l) (k := k) (x := x) (fun t z ht hz => h (t + 1) z (by omega) (by simpa using hz)) (by simpa using hx) hp
    simp [fstP, h0, ih]
theorem fstP_none {α : Type} {p : α → Bool} : ∀ {l : List α}, (∀ (t : Nat) (y : α), l[t]? = some y → p y = false) → fstP p l = l.length
  | [], _ => rfl
  | y :: l, h => by
    have h0 := h 0 y rfl
    have ih := fstP_none (l := l) (fun t z hz => h (t + 1) z (by simpa using hz))
    simp [fstP, h0, ih]
theorem idxP_at {α : Type} {p : α → Bool} {l : List α} {k : Nat} {x : α} (h : ∀ (t : Nat) (y : α), t < k → l[t]? = some y → p y = false) (hx : l[k]? = some x) (hp : p x = true) : idxP p l = (k : Int) := by
  have e := fstP_at h hx hp
  unfold idxP
  rw [e, if_pos (List.getElem?_eq_some_iff.1 hx).1]
theorem idxP_none {α : Type} {p : α → Bool} {l : List α} (h : ∀ (t : Nat) (y : α), l[t]? = some y → p y = false) : idxP p l = -1 := by
  unfold idxP
  rw [fstP_none h, if_neg (by omega)]
theorem fst_out {α : Type} {p : α → Bool} : ∀ {l : List α}, fstP p l < l.length → ∃ x, l[fstP p l]? = some x ∧ p x = true ∧ ((l.take (fstP p l + 1)).filter fun x => !p x) = l.take (fstP p l)
  | [], h => by simp at h
  | y :: l, h => by
    cases hp : p y with
    | true => exact ⟨y, by simp [fstP, hp], hp, by simp [fstP, hp]⟩
    | false =>
      have e : fstP p (y :: l) = fstP p l + 1 := by simp [fstP, hp]
      rw [e] at h ⊢
      obtain ⟨x, h1, h2, h3⟩ := fst_out (l := l) (by simpa using h)
      refine ⟨x, by simpa using h1, h2, ?_⟩
      rw [List.take_succ_cons, List.take_succ_cons, List.filter_cons, hp]
      simpa using h3
theorem fst_all {α : Type} {p : α → Bool} : ∀ {l : List α}, ¬ fstP p l < l.length → (l.filter fun x => !p x) = l
  | [], _ => rfl
  | y :: l, h => by
    cases hp : p y with
    | true => exact absurd (by simp [fstP, hp]) h
    | false =>
      have e : fstP p (y :: l) = fstP p l + 1 := by simp [fstP, hp]
      rw [e] at h
      rw [List.filter_cons, hp]
      simp only [Bool.not_false, if_true]
      rw [fst_all (l := l) (by simpa using h)]
theorem clearI (w : World) (ty : TypeId) (g o n c : Nat) (hn : 0 < n) (hc : ∀ j, j < n * 1 → (w.cell? ⟨g, o + j, none⟩).isSome = true) (hf : ∀ j, j < n * 1 → w.frozen? ⟨g, o + j, none⟩ = false) :
    (Builtin.clear_ #[23] ty #[.slice (some ⟨g, o, none⟩) n c]).run Tryz.prog w = .ok (.tuple #[]) (w.setCells g o (Builtin.zeroCells #[.int .i64 0] n).toList) := by
  have hl : (Builtin.zeroCells #[.int .i64 0] n).toList.length = n * 1 := by rw [Array.length_toList, size_zeroCells]; rfl
  have hst := run_storeCells_cells (P := Tryz.prog) g o (Builtin.zeroCells #[.int .i64 0] n).toList 0 w (by rw [hl]; exact hc) (by rw [hl]; exact hf) (by
    intro v hv'
    simp only [Builtin.zeroCells, Array.toList_map, List.mem_map] at hv'
    obtain ⟨i, _, rfl⟩ := hv'
    have hm : i % 1 = 0 := by omega
    simp only [List.size_toArray, List.length_cons, List.length_nil, Nat.zero_add]
    rw [hm]
    rfl)
  simp only [Nat.add_zero] at hst
  obtain ⟨m, rfl⟩ : ∃ m, n = m + 1 := ⟨n - 1, by omega⟩
  have hv := Tryz.zeroValue3
  simp [Builtin.clear_, run_underlying Tryz.underlying23, hv, Value.cells, hst]
set_option maxHeartbeats 1000000 in
set_option maxRecDepth 100000 in
theorem idxFI (g cap M : Nat) (l : List Int) (p : Int → Bool) (w : World) (hr : Rw vI w g l) (hl : l.length ≤ 100000000000000) (hP : ∀ (W : World) (x : Int), w.grownBy W (some g) → Calls Tryz.prog 101 #[.int .i64 x, .pointer (some ⟨M, 0, none⟩)] W fun e w' => e = .returned (.bool (p x)) ∧ Below W.heap.size W w') :
    Calls Tryz.prog 150 #[.slice (some ⟨g, 0, none⟩) l.length cap, .func (.func 101) #[] #[.pointer (some ⟨M, 0, none⟩)]] w fun e w' => e = .returned (.int .i64 (idxP p l)) ∧ Below w.heap.size w w' := by
  have l1 : (l.length : Int) ≤ 100000000000000 := by omega
  have HR := hide hr
  clear hr
  go_enter Tryz.func150, Tryz.ntmps150
  go_wp2
  go_loopw [8] (fun i wr => ∃ k : Nat, k ≤ l.length ∧ i = .int .i64 k ∧ Hid (∀ (t : Nat) (x : Int), t < k → l[t]? = some x → p x = false) ∧ Hid (Below w.heap.size w wr)) (fun i _ => l.length - (intOf i).toNat)
  case atStart => exact ⟨0, by omega, rfl, hide (fun t x h => absurd h (by omega)), hide (Below.refl _ _)⟩
  case round =>
    obtain ⟨k, hk, rfl, HA, HB⟩ := hrel
    by_cases hlt : k < l.length
    · obtain ⟨x, hx, _⟩ := get_at hlt
      have hc := (((unhide HR).below (unhide HB)).2 k x hx).1
      unfold vI at hc
      have ki0 : (0 : Int) ≤ (k : Int) := by omega
      have ki1 : (k : Int) < (l.length : Int) := by omega
      have hD := hP wr x (grown_belowC (unhide HB) _)
      have HX := hide hx
      clear hx
      cases hin : p x with
      | true =>
        rw [hin] at hD
        have HN := hide (show (k : Int) = idxP p l by rw [idxP_at (unhide HA) (unhide HX) hin])
        go_wp2_with (go_at_call 101; refine hD.mono ?_; rintro e w2 ⟨rfl, b2⟩; have B2 := hide b2; clear b2)
        go_ret
        exact ⟨ret_int (unhide HN), below_sub (unhide HB) (unhide B2)⟩
      | false =>
        rw [hin] at hD
        go_wp2_with (go_at_call 101; refine hD.mono ?_; rintro e w2 ⟨rfl, b2⟩; have B2 := hide b2; clear b2)
        go_roundw
        case rel =>
          exact ⟨k + 1, by omega, by go_num, hide (fun t y ht hy => by
            by_cases e : t = k
            · subst e
              rw [unhide HX] at hy
              cases hy
              exact hin
            · exact unhide HA t y (by omega) hy), hide (below_sub (unhide HB) (unhide B2))⟩
        case measure => simp [intOf]; omega
    · have ki1 : ¬ (k : Int) < (l.length : Int) := by omega
      have HN := hide (show -1 = idxP p l by rw [idxP_none (fun t x h => unhide HA t x (by have := (List.getElem?_eq_some_iff.1 h).1; omega) h)])
      go_wp2
      go_ret
      exact ⟨ret_int (unhide HN), unhide HB⟩
set_option maxHeartbeats 4000000 in
set_option maxRecDepth 100000 in
/-- slices.DeleteFunc of numbers. -/
theorem deleteI (g cap M : Nat) (l : List Int) (p : Int → Bool) (w : World) (hr : Rw vI w g l) (hl : l.length ≤ 100000000000000) (hcap : l.length ≤ cap) (hP : ∀ (W : World) (x : Int), w.grownBy W (some g) → Calls Tryz.prog 101 #[.int .i64 x, .pointer (some ⟨M, 0, none⟩)] W fun e w' => e = .returned (.bool (p x)) ∧ Below W.heap.size W w') :
    Calls Tryz.prog 100 #[.slice (some ⟨g, 0, none⟩) l.length cap, .func (.func 101) #[] #[.pointer (some ⟨M, 0, none⟩)]] w fun e w' => e = .returned (.slice (some ⟨g, 0, none⟩) (l.filter fun x => !p x).length cap) ∧ Rw vI w' g (l.filter fun x => !p x) ∧ w.grownBy w' (some g) := by
  have hI := idxFI g cap M l p w hr hl hP
  have i3 : (l.length : Int) ≤ 100000000000000 := by omega
  have HR := hide hr
  by_cases hf : fstP p l < l.length
  · obtain ⟨x0, hx0, hin0, hfil⟩ := fst_out hf
    obtain ⟨i0, hi0⟩ : ∃ i0, fstP p l = i0 := ⟨_, rfl⟩
    have hidx : idxP p l = (i0 : Int) := by unfold idxP; rw [if_pos hf, hi0]
    rw [hidx] at hI
    rw [hi0] at hfil hf
    have ne1 : ((i0 : Int) == -1) = false := by rw [beq_eq_false_iff_ne]; omega
    have HFIL := hide hfil
    have i0l : (i0 : Int) ≤ 100000000000000 := by omega
    clear hr hidx hfil hx0 hi0
    go_enter Tryz.func100, Tryz.ntmps100
    go_wp2_with (go_at_call 150; refine hI.mono ?_; rintro e w1 ⟨rfl, b1⟩; have G1 := hide (grown_belowC b1 (some g)); have HR1 := hide ((unhide HR).below b1); clear b1)
    go_loopw [5, 6] (fun a b wr => ∃ (k j : Nat) (d : List Int), j ≤ l.length ∧ k < j ∧ a = .int .i64 (k : Int) ∧ b = .int .i64 (j : Int) ∧ Hid (d.length = l.length) ∧ Hid (((l.take j).filter fun x => !p x).length = k) ∧ Hid (d.take k = (l.take j).filter fun x => !p x) ∧ Hid (∀ t, j ≤ t → d[t]? = l[t]?) ∧ Hid (Rw vI wr g d) ∧ Hid (w.grownBy wr (some g))) (fun _ b _ => l.length - (intOf b).toNat)
    case atStart => exact ⟨i0, i0 + 1, l, by omega, by omega, rfl, by go_num, hide rfl, hide (by rw [unhide HFIL, List.length_take]; omega), hide (unhide HFIL).symm, hide (fun _ _ => rfl), HR1, G1⟩
    case round =>
      obtain ⟨k, j, d, hj, hkj, rfl, rfl, HD, HK, HDK, HDI, HO, HG⟩ := hrel
      have k0 : (0 : Int) ≤ (k : Int) := by omega
      have k1 : (k : Int) < (l.length : Int) := by omega
      have k2 : (k : Int) ≤ (l.length : Int) := by omega
      have k3 : (k : Int) ≤ 100000000000000 := by omega
      have j0 : (0 : Int) ≤ (j : Int) := by omega
      by_cases hlt : j < l.length
      · obtain ⟨x, hx, _⟩ := get_at hlt
        have a0 := ((unhide HO).2 j x ((unhide HDI _ (Nat.le_refl _)).trans hx)).1
        unfold vI at a0
        have j1 : (j : Int) < (l.length : Int) := by omega
        have hD := hP wr x (unhide HG)
        have HXX := hide hx
        cases hin : p x with
        | false =>
          rw [hin] at hD
          have HN := hide (show ((l.take (j + 1)).filter fun x => !p x) = ((l.take j).filter fun x => !p x) ++ [x] by rw [take_snoc_of hx, List.filter_append]; simp [hin])
          clear hx
          go_wp2_with (go_at_call 101; refine hD.mono ?_; rintro e w2 ⟨rfl, b2⟩; have HOY := hide ((unhide HO).below b2); have HGY := hide (grown_twoC (unhide HG) (grown_belowC b2 (some g)) ); (obtain ⟨z, hz, _⟩ := get_at (l := d) (k := k) (by have := unhide HD; omega)); have z0 := ((unhide HOY).2 k z hz).1; have z1 := ((unhide HOY).2 k z hz).2; unfold vI at z0; clear b2 hz)
          go_roundw
          case rel => exact ⟨k + 1, j + 1, d.set k x, by omega, by omega, by go_num, by go_num, hide (by rw [List.length_set]; exact unhide HD), hide (by rw [unhide HN, List.length_append, unhide HK]; rfl), hide (by rw [unhide HN, ← unhide HDK, take_snoc_of (x := x) (by rw [List.getElem?_set_self (by have := unhide HD; omega)]), List.take_set_of_le (Nat.le_refl k)]), hide (fun t ht => by rw [List.getElem?_set_ne (by omega)]; exact unhide HDI t (by omega)), hide ((unhide HOY).put k x (by have := unhide HD; omega)), hide (grown_setC (unhide HGY) k _)⟩
          case measure => simp [intOf]; omega
        | true =>
          rw [hin] at hD
          have HN := hide (show ((l.take (j + 1)).filter fun x => !p x) = ((l.take j).filter fun x => !p x) by rw [take_snoc_of hx, List.filter_append]; simp [hin])
          clear hx
          go_wp2_with (go_at_call 101; refine hD.mono ?_; rintro e w2 ⟨rfl, b2⟩; have HOY := hide ((unhide HO).below b2); have HGY := hide (grown_twoC (unhide HG) (grown_belowC b2 (some g))); clear b2)
          go_roundw
          case rel => exact ⟨k, j + 1, d, by omega, by omega, rfl, by go_num, HD, hide (by rw [unhide HN]; exact unhide HK), hide (by rw [unhide HN]; exact unhide HDK), hide (fun t ht => unhide HDI t (by omega)), HOY, HGY⟩
          case measure => simp [intOf]; omega
      · have j1 : ¬ (j : Int) < (l.length : Int) := by omega
        have e1 : l.take j = l := List.take_of_length_le (by omega)
        have HE := hide e1
        obtain ⟨n3, hn3⟩ : ∃ n3, l.length - k = n3 := ⟨_, rfl⟩
        obtain ⟨c3, hc3⟩ : ∃ c3, cap - k = c3 := ⟨_, rfl⟩
        have nc4 : ¬ cap = k := by omega
        have nc5 : (k : Int) ≤ (cap : Int) := by omega
        have nc3 : (l.length : Int) ≤ (cap : Int) := by omega
        have hcl := fun ty => clearI wr ty g k n3 c3 (by omega) (fun t ht => by
          obtain ⟨u, hu, _⟩ := get_at (l := d) (k := k + t) (by have := unhide HD; omega)
          rw [((unhide HO).2 _ u hu).1]; rfl) (fun t ht => by
          obtain ⟨u, hu, _⟩ := get_at (l := d) (k := k + t) (by have := unhide HD; omega)
          exact ((unhide HO).2 _ u hu).2)
        generalize hvs : (Builtin.zeroCells #[.int .i64 0] n3).toList = vs at hcl
        clear e1 hvs
        go_wp2
        go_ret
        have hke : (l.filter fun x => !p x).length = k := by have := unhide HK; rw [unhide HE] at this; exact this
        have hde : d.take k = l.filter fun x => !p x := by have := unhide HDK; rw [unhide HE] at this; exact this
        refine ⟨by rw [hke]; rfl, ?_, grown_cellsC (unhide HG) vs k⟩
        have := (unhide HO).cut k vs
        rw [hde] at this
        exact this
  · have hidx : idxP p l = -1 := by unfold idxP; rw [if_neg hf]
    rw [hidx] at hI
    have HA := hide (fst_all hf)
    clear hr hidx
    go_enter Tryz.func100, Tryz.ntmps100
    go_wp2_with (go_at_call 150; refine hI.mono ?_; rintro e w1 ⟨rfl, b1⟩; have B1 := hide b1; clear b1)
    go_ret
    rw [unhide HA]
    exact ⟨rfl, (unhide HR).below (unhide B1), grown_belowC (unhide B1) _⟩
theorem clearS (w : World) (ty : TypeId) (g o n c : Nat) (hn : 0 < n) (hc : ∀ j, j < n * 1 → (w.cell? ⟨g, o + j, none⟩).isSome = true) (hf : ∀ j, j < n * 1 → w.frozen? ⟨g, o + j, none⟩ = false) :
    (Builtin.clear_ #[24] ty #[.slice (some ⟨g, o, none⟩) n c]).run Tryz.prog w = .ok (.tuple #[]) (w.setCells g o (Builtin.zeroCells #[.string ⟨#[]⟩] n).toList) := by
  have hl : (Builtin.zeroCells #[.string ⟨#[]⟩] n).toList.length = n * 1 := by rw [Array.length_toList, size_zeroCells]; rfl
  have hst := run_storeCells_cells (P := Tryz.prog) g o (Builtin.zeroCells #[.string ⟨#[]⟩] n).toList 0 w (by rw [hl]; exact hc) (by rw [hl]; exact hf) (by
    intro v hv'
    simp only [Builtin.zeroCells, Array.toList_map, List.mem_map] at hv'
    obtain ⟨i, _, rfl⟩ := hv'
    have hm : i % 1 = 0 := by omega
    simp only [List.size_toArray, List.length_cons, List.length_nil, Nat.zero_add]
    rw [hm]
    rfl)
  simp only [Nat.add_zero] at hst
  obtain ⟨m, rfl⟩ : ∃ m, n = m + 1 := ⟨n - 1, by omega⟩
  have hv := Tryz.zeroValue9
  simp [Builtin.clear_, run_underlying Tryz.underlying24, hv, Value.cells, hst]
set_option maxHeartbeats 1000000 in
set_option maxRecDepth 100000 in
theorem idxFS (g cap M : Nat) (l : List ByteArray) (p : ByteArray → Bool) (w : World) (hr : Rw vS w g l) (hl : l.length ≤ 100000000000000) (hP : ∀ (W : World) (x : ByteArray), w.grownBy W (some g) → Calls Tryz.prog 104 #[.string x, .pointer (some ⟨M, 0, none⟩)] W fun e w' => e = .returned (.bool (p x)) ∧ Below W.heap.size W w') :
    Calls Tryz.prog 152 #[.slice (some ⟨g, 0, none⟩) l.length cap, .func (.func 104) #[] #[.pointer (some ⟨M, 0, none⟩)]] w fun e w' => e = .returned (.int .i64 (idxP p l)) ∧ Below w.heap.size w w' := by
  have l1 : (l.length : Int) ≤ 100000000000000 := by omega
  have HR := hide hr
  clear hr
  go_enter Tryz.func152, Tryz.ntmps152
  go_wp2
  go_loopw [8] (fun i wr => ∃ k : Nat, k ≤ l.length ∧ i = .int .i64 k ∧ Hid (∀ (t : Nat) (x : ByteArray), t < k → l[t]? = some x → p x = false) ∧ Hid (Below w.heap.size w wr)) (fun i _ => l.length - (intOf i).toNat)
  case atStart => exact ⟨0, by omega, rfl, hide (fun t x h => absurd h (by omega)), hide (Below.refl _ _)⟩
  case round =>
    obtain ⟨k, hk, rfl, HA, HB⟩ := hrel
    by_cases hlt : k < l.length
    · obtain ⟨x, hx, _⟩ := get_at hlt
      have hc := (((unhide HR).below (unhide HB)).2 k x hx).1
      unfold vS at hc
      have ki0 : (0 : Int) ≤ (k : Int) := by omega
      have ki1 : (k : Int) < (l.length : Int) := by omega
      have hD := hP wr x (grown_belowC (unhide HB) _)
      have HX := hide hx
      clear hx
      cases hin : p x with
      | true =>
        rw [hin] at hD
        have HN := hide (show (k : Int) = idxP p l by rw [idxP_at (unhide HA) (unhide HX) hin])
        go_wp2_with (go_at_call 104; refine hD.mono ?_; rintro e w2 ⟨rfl, b2⟩; have B2 := hide b2; clear b2)
        go_ret
        exact ⟨ret_int (unhide HN), below_sub (unhide HB) (unhide B2)⟩
      | false =>
        rw [hin] at hD
        go_wp2_with (go_at_call 104; refine hD.mono ?_; rintro e w2 ⟨rfl, b2⟩; have B2 := hide b2; clear b2)
        go_roundw
        case rel =>
          exact ⟨k + 1, by omega, by go_num, hide (fun t y ht hy => by
            by_cases e : t = k
            · subst e
              rw [unhide HX] at hy
              cases hy
              exact hin
            · exact unhide HA t y (by omega) hy), hide (below_sub (unhide HB) (unhide B2))⟩
        case measure => simp [intOf]; omega
    · have ki1 : ¬ (k : Int) < (l.length : Int) := by omega
      have HN := hide (show -1 = idxP p l by rw [idxP_none (fun t x h => unhide HA t x (by have := (List.getElem?_eq_some_iff.1 h).1; omega) h)])
      go_wp2
      go_ret
      exact ⟨ret_int (unhide HN), unhide HB⟩
set_option maxHeartbeats 4000000 in
set_option maxRecDepth 100000 in
/-- slices.DeleteFunc of words. -/
theorem deleteS (g cap M : Nat) (l : List ByteArray) (p : ByteArray → Bool) (w : World) (hr : Rw vS w g l) (hl : l.length ≤ 100000000000000) (hcap : l.length ≤ cap) (hP : ∀ (W : World) (x : ByteArray), w.grownBy W (some g) → Calls Tryz.prog 104 #[.string x, .pointer (some ⟨M, 0, none⟩)] W fun e w' => e = .returned (.bool (p x)) ∧ Below W.heap.size W w') :
    Calls Tryz.prog 103 #[.slice (some ⟨g, 0, none⟩) l.length cap, .func (.func 104) #[] #[.pointer (some ⟨M, 0, none⟩)]] w fun e w' => e = .returned (.slice (some ⟨g, 0, none⟩) (l.filter fun x => !p x).length cap) ∧ Rw vS w' g (l.filter fun x => !p x) ∧ w.grownBy w' (some g) := by
  have hI := idxFS g cap M l p w hr hl hP
  have i3 : (l.length : Int) ≤ 100000000000000 := by omega
  have HR := hide hr
  by_cases hf : fstP p l < l.length
  · obtain ⟨x0, hx0, hin0, hfil⟩ := fst_out hf
    obtain ⟨i0, hi0⟩ : ∃ i0, fstP p l = i0 := ⟨_, rfl⟩
    have hidx : idxP p l = (i0 : Int) := by unfold idxP; rw [if_pos hf, hi0]
    rw [hidx] at hI
    rw [hi0] at hfil hf
    have ne1 : ((i0 : Int) == -1) = false := by rw [beq_eq_false_iff_ne]; omega
    have HFIL := hide hfil
    have i0l : (i0 : Int) ≤ 100000000000000 := by omega
    clear hr hidx hfil hx0 hi0
    go_enter Tryz.func103, Tryz.ntmps103
    go_wp2_with (go_at_call 152; refine hI.mono ?_; rintro e w1 ⟨rfl, b1⟩; have G1 := hide (grown_belowC b1 (some g)); have HR1 := hide ((unhide HR).below b1); clear b1)
    go_loopw [5, 6] (fun a b wr => ∃ (k j : Nat) (d : List ByteArray), j ≤ l.length ∧ k < j ∧ a = .int .i64 (k : Int) ∧ b = .int .i64 (j : Int) ∧ Hid (d.length = l.length) ∧ Hid (((l.take j).filter fun x => !p x).length = k) ∧ Hid (d.take k = (l.take j).filter fun x => !p x) ∧ Hid (∀ t, j ≤ t → d[t]? = l[t]?) ∧ Hid (Rw vS wr g d) ∧ Hid (w.grownBy wr (some g))) (fun _ b _ => l.length - (intOf b).toNat)
    case atStart => exact ⟨i0, i0 + 1, l, by omega, by omega, rfl, by go_num, hide rfl, hide (by rw [unhide HFIL, List.length_take]; omega), hide (unhide HFIL).symm, hide (fun _ _ => rfl), HR1, G1⟩
    case round =>
      obtain ⟨k, j, d, hj, hkj, rfl, rfl, HD, HK, HDK, HDI, HO, HG⟩ := hrel
      have k0 : (0 : Int) ≤ (k : Int) := by omega
      have k1 : (k : Int) < (l.length : Int) := by omega
      have k2 : (k : Int) ≤ (l.length : Int) := by omega
      have k3 : (k : Int) ≤ 100000000000000 := by omega
      have j0 : (0 : Int) ≤ (j : Int) := by omega
      by_cases hlt : j < l.length
      · obtain ⟨x, hx, _⟩ := get_at hlt
        have a0 := ((unhide HO).2 j x ((unhide HDI _ (Nat.le_refl _)).trans hx)).1
        unfold vS at a0
        have j1 : (j : Int) < (l.length : Int) := by omega
        have hD := hP wr x (unhide HG)
        have HXX := hide hx
        cases hin : p x with
        | false =>
          rw [hin] at hD
          have HN := hide (show ((l.take (j + 1)).filter fun x => !p x) = ((l.take j).filter fun x => !p x) ++ [x] by rw [take_snoc_of hx, List.filter_append]; simp [hin])
          clear hx
          go_wp2_with (go_at_call 104; refine hD.mono ?_; rintro e w2 ⟨rfl, b2⟩; have HOY := hide ((unhide HO).below b2); have HGY := hide (grown_twoC (unhide HG) (grown_belowC b2 (some g)) ); (obtain ⟨z, hz, _⟩ := get_at (l := d) (k := k) (by have := unhide HD; omega)); have z0 := ((unhide HOY).2 k z hz).1; have z1 := ((unhide HOY).2 k z hz).2; unfold vS at z0; clear b2 hz)
          go_roundw
          case rel => exact ⟨k + 1, j + 1, d.set k x, by omega, by omega, by go_num, by go_num, hide (by rw [List.length_set]; exact unhide HD), hide (by rw [unhide HN, List.length_append, unhide HK]; rfl), hide (by rw [unhide HN, ← unhide HDK, take_snoc_of (x := x) (by rw [List.getElem?_set_self (by have := unhide HD; omega)]), List.take_set_of_le (Nat.le_refl k)]), hide (fun t ht => by rw [List.getElem?_set_ne (by omega)]; exact unhide HDI t (by omega)), hide ((unhide HOY).put k x (by have := unhide HD; omega)), hide (grown_setC (unhide HGY) k _)⟩
          case measure => simp [intOf]; omega
        | true =>
          rw [hin] at hD
          have HN := hide (show ((l.take (j + 1)).filter fun x => !p x) = ((l.take j).filter fun x => !p x) by rw [take_snoc_of hx, List.filter_append]; simp [hin])
          clear hx
          go_wp2_with (go_at_call 104; refine hD.mono ?_; rintro e w2 ⟨rfl, b2⟩; have HOY := hide ((unhide HO).below b2); have HGY := hide (grown_twoC (unhide HG) (grown_belowC b2 (some g))); clear b2)
          go_roundw
          case rel => exact ⟨k, j + 1, d, by omega, by omega, rfl, by go_num, HD, hide (by rw [unhide HN]; exact unhide HK), hide (by rw [unhide HN]; exact unhide HDK), hide (fun t ht => unhide HDI t (by omega)), HOY, HGY⟩
          case measure => simp [intOf]; omega
      · have j1 : ¬ (j : Int) < (l.length : Int) := by omega
        have e1 : l.take j = l := List.take_of_length_le (by omega)
        have HE := hide e1
        obtain ⟨n3, hn3⟩ : ∃ n3, l.length - k = n3 := ⟨_, rfl⟩
        obtain ⟨c3, hc3⟩ : ∃ c3, cap - k = c3 := ⟨_, rfl⟩
        have nc4 : ¬ cap = k := by omega
        have nc5 : (k : Int) ≤ (cap : Int) := by omega
        have nc3 : (l.length : Int) ≤ (cap : Int) := by omega
        have hcl := fun ty => clearS wr ty g k n3 c3 (by omega) (fun t ht => by
          obtain ⟨u, hu, _⟩ := get_at (l := d) (k := k + t) (by have := unhide HD; omega)
          rw [((unhide HO).2 _ u hu).1]; rfl) (fun t ht => by
          obtain ⟨u, hu, _⟩ := get_at (l := d) (k := k + t) (by have := unhide HD; omega)
          exact ((unhide HO).2 _ u hu).2)
        generalize hvs : (Builtin.zeroCells #[.string ⟨#[]⟩] n3).toList = vs at hcl
        clear e1 hvs
        go_wp2
        go_ret
        have hke : (l.filter fun x => !p x).length = k := by have := unhide HK; rw [unhide HE] at this; exact this
        have hde : d.take k = l.filter fun x => !p x := by have := unhide HDK; rw [unhide HE] at this; exact this
        refine ⟨by rw [hke]; rfl, ?_, grown_cellsC (unhide HG) vs k⟩
        have := (unhide HO).cut k vs
        rw [hde] at this
        exact this
  · have hidx : idxP p l = -1 := by unfold idxP; rw [if_neg hf]
    rw [hidx] at hI
    have HA := hide (fst_all hf)
    clear hr hidx
    go_enter Tryz.func103, Tryz.ntmps103
    go_wp2_with (go_at_call 152; refine hI.mono ?_; rintro e w1 ⟨rfl, b1⟩; have B1 := hide b1; clear b1)
    go_ret
    rw [unhide HA]
    exact ⟨rfl, (unhide HR).below (unhide B1), grown_belowC (unhide B1) _⟩
end Go.Proofs.YtimklglliffpcaaGreat
namespace Go.Proofs.YtimklglliffpcaaGreat
open Go.RowKit Go.Sort Go.Shelf

theorem one_box (w : World) (u : Pv) : ∃ X, w.alloc (.cells #[.int .i64 u.kind, .string u.attr, .slice u.qi u.ni u.ci, .slice u.qw u.nw u.cw, .int .i64 u.lo, .int .i64 u.hi] 26) = X ∧ Below w.heap.size w X ∧ X.heap[w.heap.size]? = some (.cells #[.int .i64 u.kind, .string u.attr, .slice u.qi u.ni u.ci, .slice u.qw u.nw u.cw, .int .i64 u.lo, .int .i64 u.hi] 26 (0, 0)) :=
  ⟨_, rfl, (Below.refl _ _).alloc (Nat.le_refl _) _, World.alloc_heap_new _ _⟩
/-- What of a normal predicate its members' calls lean on. -/
def Nrm (p : Pd) : Prop := WkI p.ints ∧ WkS p.words ∧ p.ints.length ≤ 1000000000 ∧ p.words.length ≤ 1000000000 ∧ (p.kind = 4 → ∃ s, p.words = [s])
def hasID (b : Pd) (x : Int) : Bool := if b.kind = 3 then decide (b.lo ≤ x) && decide (x ≤ b.hi) else decide (x ∈ b.ints)
def fstW (b : Pd) : ByteArray := b.words.headD ⟨#[]⟩
def hasSD (b : Pd) (s : ByteArray) : Bool := if b.kind = 4 then prefB s (fstW b) else hasS s b.words
theorem isSet_any (u : Pv) (w : World) : Calls Tryz.prog 99 #[u.val] w fun e w' => e = .returned (.bool (decide (u.kind = 1) || decide (u.kind = 2))) ∧ Below w.heap.size w w' := by
  unfold Pv.val
  obtain ⟨X, HX, bX, x8⟩ := one_box w u
  obtain ⟨a0, a1, a2, a3, a4, a5⟩ := of6C x8
  have BX := hide bX
  clear bX x8
  by_cases h1 : u.kind = 1
  · have k1 : (u.kind == 1) = true := by simpa using h1
    have HR := hide (show (decide (u.kind = 1) || decide (u.kind = 2)) = true by simp [h1])
    clear h1
    go_enter Tryz.func99, Tryz.ntmps99
    go_wp2
    go_ret
    exact ⟨ret_bool (unhide HR).symm, unhide BX⟩
  · have k1 : (u.kind == 1) = false := by simpa using h1
    by_cases h2 : u.kind = 2
    · have k2 : (u.kind == 2) = true := by simpa using h2
      have HR := hide (show (decide (u.kind = 1) || decide (u.kind = 2)) = true by simp [h2])
      clear h1 h2
      go_enter Tryz.func99, Tryz.ntmps99
      go_wp2
      go_ret
      exact ⟨ret_bool (unhide HR).symm, unhide BX⟩
    · have k2 : (u.kind == 2) = false := by simpa using h2
      have HR := hide (show (decide (u.kind = 1) || decide (u.kind = 2)) = false by simp [h1, h2])
      clear h1 h2
      go_enter Tryz.func99, Tryz.ntmps99
      go_wp2
      go_ret
      exact ⟨ret_bool (unhide HR).symm, unhide BX⟩
set_option maxHeartbeats 1000000 in
theorem hasI_any (u : Pv) (b : Pd) (x : Int) (w : World) (hu : PdIn w u b) (hn : Nrm b) : Calls Tryz.prog 102 #[u.val, .int .i64 x] w fun e w' => e = .returned (.bool (hasID b x)) ∧ Below w.heap.size w w' := by
  unfold Pv.val
  obtain ⟨X, HX, bX, x8⟩ := one_box w u
  obtain ⟨a0, a1, a2, a3, a4, a5⟩ := of6C x8
  have BX := hide bX
  have hS := searchI u.qi u.ci b.ints x X (hu.2.2.2.2.2.2.1.below bX) (by have := hn.2.2.1; omega) hn.1
  rw [← hu.2.2.1] at hS
  have hk := hu.1
  have hlo := hu.2.2.2.2.1
  have hhi := hu.2.2.2.2.2.1
  clear bX x8 hu hn
  by_cases h3 : b.kind = 3
  · have k3 : (u.kind == 3) = true := by rw [hk]; simpa using h3
    by_cases c1 : u.lo ≤ x
    · by_cases c2 : x ≤ u.hi
      · have HR := hide (show hasID b x = true by unfold hasID; rw [if_pos h3]; simp; omega)
        clear h3 hk hlo hhi hS
        go_enter Tryz.func102, Tryz.ntmps102
        go_wp2
        go_ret
        exact ⟨ret_bool (unhide HR).symm, unhide BX⟩
      · have HR := hide (show hasID b x = false by unfold hasID; rw [if_pos h3]; simp; omega)
        clear h3 hk hlo hhi hS
        go_enter Tryz.func102, Tryz.ntmps102
        go_wp2
        go_ret
        exact ⟨ret_bool (unhide HR).symm, unhide BX⟩
    · have HR := hide (show hasID b x = false by unfold hasID; rw [if_pos h3]; simp; omega)
      clear h3 hk hlo hhi hS
      go_enter Tryz.func102, Tryz.ntmps102
      go_wp2
      go_ret
      exact ⟨ret_bool (unhide HR).symm, unhide BX⟩
  · have k3 : (u.kind == 3) = false := by rw [hk]; simpa using h3
    have HR := hide (show hasID b x = decide (x ∈ b.ints) by unfold hasID; rw [if_neg h3])
    obtain ⟨r, hr⟩ : ∃ r, decide (x ∈ b.ints) = r := ⟨_, rfl⟩
    rw [hr] at hS HR
    clear h3 hk hlo hhi hr
    go_enter Tryz.func102, Tryz.ntmps102
    go_wp2_with (go_at_call 151; refine hS.mono ?_; rintro e w1 ⟨⟨n, rfl⟩, rfl⟩)
    go_ret
    exact ⟨ret_bool (unhide HR).symm, unhide BX⟩
set_option maxHeartbeats 1000000 in
theorem hasS_any (u : Pv) (b : Pd) (x : ByteArray) (w : World) (hu : PdIn w u b) (hn : Nrm b) : Calls Tryz.prog 105 #[u.val, .string x] w fun e w' => e = .returned (.bool (hasSD b x)) ∧ Below w.heap.size w w' := by
  unfold Pv.val
  obtain ⟨X, HX, bX, x8⟩ := one_box w u
  obtain ⟨a0, a1, a2, a3, a4, a5⟩ := of6C x8
  have BX := hide bX
  have hS := searchS u.qw u.cw b.words x X (hu.2.2.2.2.2.2.2.below bX) (by have := hn.2.2.2.1; omega) hn.2.1
  rw [← hu.2.2.2.1] at hS
  have hk := hu.1
  by_cases h4 : b.kind = 4
  · obtain ⟨s, hs⟩ := hn.2.2.2.2 h4
    obtain ⟨bw, ow, hq, hbw, hcw⟩ := wordsAt (hu.2.2.2.2.2.2.2.below bX) (j := 0) (x := s) (by rw [hs]; rfl)
    have k4 : (u.kind == 4) = true := by rw [hk]; simpa using h4
    have hnw : u.nw = 1 := by rw [hu.2.2.2.1, hs]; rfl
    have HR := hide (show hasSD b x = prefB x s by unfold hasSD fstW; rw [if_pos h4, hs]; rfl)
    rw [hq, hnw] at a3
    rw [Nat.add_zero] at hcw
    clear bX x8 hu hn hk h4 hs hS hq hnw
    go_enter Tryz.func105, Tryz.ntmps105
    go_wp2_with (go_at_call 90; refine (hasPrefix_any x s _).mono ?_; rintro e w1 ⟨rfl, b1⟩; have B1 := hide b1; clear b1)
    go_ret
    exact ⟨ret_bool (unhide HR).symm, below_sub (unhide BX) (unhide B1)⟩
  · have k4 : (u.kind == 4) = false := by rw [hk]; simpa using h4
    have HR := hide (show hasSD b x = hasS x b.words by unfold hasSD; rw [if_neg h4])
    obtain ⟨r, hr⟩ : ∃ r, hasS x b.words = r := ⟨_, rfl⟩
    rw [hr] at hS HR
    clear bX x8 hu hn hk h4 hr
    go_enter Tryz.func105, Tryz.ntmps105
    go_wp2_with (go_at_call 153; refine hS.mono ?_; rintro e w1 ⟨⟨n, rfl⟩, rfl⟩)
    go_ret
    exact ⟨ret_bool (unhide HR).symm, unhide BX⟩
theorem cloI (v : Pv) (b : Pd) (x : Int) (M : Nat) (W : World) (hc : W.heap[M]? = some (.cells #[.int .i64 v.kind, .string v.attr, .slice v.qi v.ni v.ci, .slice v.qw v.nw v.cw, .int .i64 v.lo, .int .i64 v.hi] 26 (0, 0))) (hb : PdIn W v b) (hn : Nrm b) :
    Calls Tryz.prog 101 #[.int .i64 x, .pointer (some ⟨M, 0, none⟩)] W fun e w' => e = .returned (.bool (!hasID b x)) ∧ Below W.heap.size W w' := by
  obtain ⟨a0, a1, a2, a3, a4, a5⟩ := of6C hc
  have hH := hasI_any v b x W hb hn
  unfold Pv.val at hH
  clear hc hb hn
  go_enter Tryz.func101, Tryz.ntmps101
  go_wp2_with (go_at_call 102; refine hH.mono ?_; rintro e w1 ⟨rfl, b1⟩; have B1 := hide b1; clear b1)
  go_ret
  exact ⟨rfl, unhide B1⟩
theorem cloS (v : Pv) (b : Pd) (x : ByteArray) (M : Nat) (W : World) (hc : W.heap[M]? = some (.cells #[.int .i64 v.kind, .string v.attr, .slice v.qi v.ni v.ci, .slice v.qw v.nw v.cw, .int .i64 v.lo, .int .i64 v.hi] 26 (0, 0))) (hb : PdIn W v b) (hn : Nrm b) :
    Calls Tryz.prog 104 #[.string x, .pointer (some ⟨M, 0, none⟩)] W fun e w' => e = .returned (.bool (!hasSD b x)) ∧ Below W.heap.size W w' := by
  obtain ⟨a0, a1, a2, a3, a4, a5⟩ := of6C hc
  have hH := hasS_any v b x W hb hn
  unfold Pv.val at hH
  clear hc hb hn
  go_enter Tryz.func104, Tryz.ntmps104
  go_wp2_with (go_at_call 105; refine hH.mono ?_; rintro e w1 ⟨rfl, b1⟩; have B1 := hide b1; clear b1)
  go_ret
  exact ⟨rfl, unhide B1⟩
end Go.Proofs.YtimklglliffpcaaGreat
namespace Go.Proofs.YtimklglliffpcaaGreat
open Go.RowKit Go.Sort Go.Shelf

theorem flatI1 {l : List Int} {j : Nat} {u : Value} (h : (flatK encI 1 l.toArray).toList[j]? = some u) : ∃ x, l[j]? = some x ∧ u = vI x := by
  rw [flatI_map, List.getElem?_map] at h
  obtain ⟨x, hx, rfl⟩ := Option.map_eq_some_iff.1 h
  exact ⟨x, hx, rfl⟩
theorem flatS_map (l : List ByteArray) : (flatK encS 1 l.toArray).toList = l.map (fun x => Value.string x) := by
  apply List.ext_getElem?
  intro j
  by_cases hj : j < l.length
  · obtain ⟨x, hx, _⟩ := get_at hj
    have := flat_at (enc := encS) (k := 1) hx 0 (by omega)
    rw [Nat.mul_one, Nat.add_zero] at this
    rw [this, List.getElem?_map, hx]; rfl
  · rw [List.getElem?_eq_none (by simp [flatK]; omega), List.getElem?_eq_none (by simp; omega)]
theorem flatS1 {l : List ByteArray} {j : Nat} {u : Value} (h : (flatK encS 1 l.toArray).toList[j]? = some u) : ∃ x, l[j]? = some x ∧ u = vS x := by
  rw [flatS_map, List.getElem?_map] at h
  obtain ⟨x, hx, rfl⟩ := Option.map_eq_some_iff.1 h
  exact ⟨x, hx, rfl⟩
theorem Rw.slI {w : World} {g cap : Nat} {l : List Int} (h : Rw vI w g l) (hc : l.length ≤ cap) (hm : cap ≤ maxLen) : SlOf encI 1 w (some ⟨g, 0, none⟩) cap l :=
  ⟨(fun e => by cases e), hc, hm, fun _ => ⟨g, 0, rfl, h.1, fun j u hj => by
    obtain ⟨x, hx, rfl⟩ := flatI1 hj
    rw [Nat.zero_add]
    exact (h.2 j x hx).1⟩⟩
theorem Rw.slS {w : World} {g cap : Nat} {l : List ByteArray} (h : Rw vS w g l) (hc : l.length ≤ cap) (hm : cap ≤ maxLen) : SlOf encS 1 w (some ⟨g, 0, none⟩) cap l :=
  ⟨(fun e => by cases e), hc, hm, fun _ => ⟨g, 0, rfl, h.1, fun j u hj => by
    obtain ⟨x, hx, rfl⟩ := flatS1 hj
    rw [Nat.zero_add]
    exact (h.2 j x hx).1⟩⟩
theorem Rw.wr {α : Type} {enc : α → Value} {w : World} {g : Nat} {l : List α} (h : Rw enc w g l) : Wr w (some ⟨g, 0, none⟩) l.length := fun b off e j hj => by
  cases e
  obtain ⟨x, hx, _⟩ := get_at hj
  rw [Nat.zero_add]
  exact ⟨rfl, (h.2 j x hx).2⟩
/-- A row that doesn't lie in a box. -/
def Off (r : Pv) (M : Nat → Prop) : Prop := (∀ a, r.qi = some a → ¬ M a.block) ∧ ∀ a, r.qw = some a → ¬ M a.block
/-- A predicate, or none, is answered. -/
def OutP (B : Nat) (M : Nat → Prop) (o : Option Pd) (e : Ending) (w' : World) : Prop := ∃ r : Pv, e = .returned (.tuple #[.agg #[.int .i64 r.kind, .string r.attr, .slice r.qi r.ni r.ci, .slice r.qw r.nw r.cw, .int .i64 r.lo, .int .i64 r.hi], .bool o.isSome]) ∧ PdOwn B w' r (o.getD zeroD) ∧ Off r M
theorem zero_off (M : Nat → Prop) : Off zeroP M := ⟨fun a e => (by cases e), fun a e => (by cases e)⟩
theorem amongI0 (attr : ByteArray) (q : Option Addr) (c : Nat) (w : World) : Calls Tryz.prog 55 #[.string attr, .slice q 0 c] w fun e w' => e = .returned (.tuple #[.agg #[.int .i64 0, .string ⟨#[]⟩, .slice none 0 0, .slice none 0 0, .int .i64 0, .int .i64 0], .bool false]) ∧ Below w.heap.size w w' := by
  go_enter Tryz.func55, Tryz.ntmps55
  go_wp2
  exact bodyPost_ret (v := .tuple #[.agg #[.int .i64 0, .string ⟨#[]⟩, .slice none 0 0, .slice none 0 0, .int .i64 0, .int .i64 0], .bool false]) (by simp [results, Tryz.results55, go_sem]) rfl ⟨rfl, (Below.refl _ _).alloc (Nat.le_refl _) _⟩
def mkI (attr : ByteArray) (l : List Int) : Option Pd := if l.length = 0 then none else some ⟨1, attr, l, [], 0, 0⟩
theorem amongI_o (attr : ByteArray) (g cap B : Nat) (M : Nat → Prop) (l : List Int) (w : World) (hB : B ≤ g) (hM : ¬ M g) (hr : Rw vI w g l) (hc : l.length ≤ cap) (hm : cap ≤ maxLen) :
    Calls Tryz.prog 55 #[.string attr, .slice (some ⟨g, 0, none⟩) l.length cap] w fun e w' => OutP B M (mkI attr l) e w' ∧ Below w.heap.size w w' := by
  by_cases h0 : l.length = 0
  · rw [h0]
    exact (amongI0 attr _ _ w).mono fun e w' ⟨he, hb⟩ => ⟨⟨zeroP, by unfold mkI; rw [if_pos h0]; exact he, by unfold mkI; rw [if_pos h0]; exact zeroD_own _ _, zero_off _⟩, hb⟩
  · refine (amongI attr (some ⟨g, 0, none⟩) l.length cap (by omega) w).mono fun e w' ⟨he, hb⟩ => ⟨?_, hb⟩
    unfold mkI
    rw [if_neg h0]
    have hr := hr.below hb
    exact ⟨⟨1, attr, some ⟨g, 0, none⟩, l.length, cap, none, 0, 0, 0, 0⟩, he, ⟨⟨rfl, rfl, rfl, rfl, rfl, rfl, hr.slI hc hm, SlOf.none _⟩, ⟨fun a e => (by cases e; exact hB), fun a e => (by cases e)⟩, (fun _ => hr.wr), (fun e => by simp at e)⟩, ⟨fun a e => (by cases e; exact hM), fun a e => (by cases e)⟩⟩
theorem amongS0 (attr : ByteArray) (q : Option Addr) (c : Nat) (w : World) : Calls Tryz.prog 57 #[.string attr, .slice q 0 c] w fun e w' => e = .returned (.tuple #[.agg #[.int .i64 0, .string ⟨#[]⟩, .slice none 0 0, .slice none 0 0, .int .i64 0, .int .i64 0], .bool false]) ∧ Below w.heap.size w w' := by
  go_enter Tryz.func57, Tryz.ntmps57
  go_wp2
  exact bodyPost_ret (v := .tuple #[.agg #[.int .i64 0, .string ⟨#[]⟩, .slice none 0 0, .slice none 0 0, .int .i64 0, .int .i64 0], .bool false]) (by simp [results, Tryz.results57, go_sem]) rfl ⟨rfl, (Below.refl _ _).alloc (Nat.le_refl _) _⟩
def mkS (attr : ByteArray) (l : List ByteArray) : Option Pd := if l.length = 0 then none else some ⟨2, attr, [], l, 0, 0⟩
theorem amongS_o (attr : ByteArray) (g cap B : Nat) (M : Nat → Prop) (l : List ByteArray) (w : World) (hB : B ≤ g) (hM : ¬ M g) (hr : Rw vS w g l) (hc : l.length ≤ cap) (hm : cap ≤ maxLen) :
    Calls Tryz.prog 57 #[.string attr, .slice (some ⟨g, 0, none⟩) l.length cap] w fun e w' => OutP B M (mkS attr l) e w' ∧ Below w.heap.size w w' := by
  by_cases h0 : l.length = 0
  · rw [h0]
    exact (amongS0 attr _ _ w).mono fun e w' ⟨he, hb⟩ => ⟨⟨zeroP, by unfold mkS; rw [if_pos h0]; exact he, by unfold mkS; rw [if_pos h0]; exact zeroD_own _ _, zero_off _⟩, hb⟩
  · refine (amongS attr (some ⟨g, 0, none⟩) l.length cap (by omega) w).mono fun e w' ⟨he, hb⟩ => ⟨?_, hb⟩
    unfold mkS
    rw [if_neg h0]
    have hr := hr.below hb
    exact ⟨⟨2, attr, none, 0, 0, some ⟨g, 0, none⟩, l.length, cap, 0, 0⟩, he, ⟨⟨rfl, rfl, rfl, rfl, rfl, rfl, SlOf.none _, hr.slS hc hm⟩, ⟨fun a e => (by cases e), fun a e => (by cases e; exact hB)⟩, (fun e => by simp at e), (fun _ => hr.wr)⟩, ⟨fun a e => (by cases e), fun a e => (by cases e; exact hM)⟩⟩
def betwD (attr : ByteArray) (lo hi : Int) : Option Pd := if hi < lo then none else if lo = hi then some ⟨1, attr, [lo], [], 0, 0⟩ else some ⟨3, attr, [], [], lo, hi⟩
theorem between_o (attr : ByteArray) (lo hi : Int) (B : Nat) (M : Nat → Prop) (w : World) (hB : B ≤ w.heap.size) (hM : ∀ k, M k → k < w.heap.size) :
    Calls Tryz.prog 59 #[.string attr, .int .i64 lo, .int .i64 hi] w fun e w' => OutP B M (betwD attr lo hi) e w' ∧ Below w.heap.size w w' := by
  unfold betwD
  by_cases h1 : hi < lo
  · rw [if_pos h1]
    exact (betweenNo attr lo hi h1 w).mono fun e w' ⟨he, hb⟩ => ⟨⟨zeroP, he, zeroD_own _ _, zero_off _⟩, hb⟩
  · rw [if_neg h1]
    by_cases h2 : lo = hi
    · rw [if_pos h2]
      subst h2
      exact (betweenEo attr lo w).mono fun e w' ⟨⟨q, c, he, hs, hq, hw⟩, hb⟩ => ⟨⟨⟨1, attr, q, 1, c, none, 0, 0, 0, 0⟩, he, ⟨⟨rfl, rfl, rfl, rfl, rfl, rfl, hs, SlOf.none _⟩, ⟨fun a e => Nat.le_trans hB (hq a e), fun a e => (by cases e)⟩, fun _ => hw, (fun e => by simp at e)⟩, fun a e hS => (by have h1 := hq a e; have h2 := hM _ hS; omega), fun a e => (by cases e)⟩, hb⟩
    · rw [if_neg h2]
      exact (betweenR attr lo hi (by omega) w).mono fun e w' ⟨he, hb⟩ => ⟨⟨⟨3, attr, none, 0, 0, none, 0, 0, lo, hi⟩, he, ⟨⟨rfl, rfl, rfl, rfl, rfl, rfl, SlOf.none _, SlOf.none _⟩, Fr2.none2 rfl rfl, (fun e => by simp at e), (fun e => by simp at e)⟩, fun a e => (by cases e), fun a e => (by cases e)⟩, hb⟩
def longD (attr a b : ByteArray) : Option Pd := if a.size < b.size then (if prefB b a then some ⟨4, attr, [], [b], 0, 0⟩ else none) else (if prefB a b then some ⟨4, attr, [], [a], 0, 0⟩ else none)
set_option maxHeartbeats 2000000 in
set_option maxRecDepth 100000 in
theorem longer_o (attr a b : ByteArray) (B : Nat) (M : Nat → Prop) (w : World) (hB : B ≤ w.heap.size) (hM : ∀ k, M k → k < w.heap.size) :
    Calls Tryz.prog 106 #[.string attr, .string a, .string b] w fun e w' => OutP B M (longD attr a b) e w' ∧ Below w.heap.size w w' := by
  unfold longD
  obtain ⟨X, HX⟩ : ∃ X, w.alloc (.cells #[.int .i64 0, .string ⟨#[]⟩, .slice none 0 0, .slice none 0 0, .int .i64 0, .int .i64 0] 26) = X := ⟨_, rfl⟩
  have bX : Below w.heap.size w X := by rw [← HX]; exact (Below.refl _ _).alloc (Nat.le_refl _) _
  have x8 : X.heap[w.heap.size]? = some (.cells #[.int .i64 0, .string ⟨#[]⟩, .slice none 0 0, .slice none 0 0, .int .i64 0, .int .i64 0] 26 (0, 0)) := by rw [← HX]; exact World.alloc_heap_new _ _
  have hlX : w.heap.size < X.heap.size := (Array.getElem?_eq_some_iff.1 x8).1
  obtain ⟨x0, x1, x2, x3, x4, x5⟩ := of6C x8
  have xf := fun o => frozen_free (o := o) x8
  have BX := hide bX
  have X8 := hide x8
  clear bX x8
  by_cases hlt : a.size < b.size
  · rw [if_pos hlt]
    have c1 : (a.size : Int) < (b.size : Int) := by omega
    cases hp : prefB b a with
    | true =>
      simp only [if_true]
      have hH := fun W => hasPrefix_any b a W
      rw [hp] at hH
      clear hp hlt
      go_enter Tryz.func106, Tryz.ntmps106
      go_wp2_with (first
        | (go_at_call 90; refine (hH _).mono ?_; rintro e w1 ⟨rfl, b1⟩; have B1 := hide b1; have q9 := (b1.block _ hlX).trans (unhide X8); (obtain ⟨z0, z1, z2, z3, z4, z5⟩ := of6C q9); have zf := fun o => frozen_free (o := o) q9; have s1 := b1.size; clear b1 q9)
        | (go_at_call 60; refine (beginsS attr b _).mono ?_; rintro e w2 ⟨⟨q2, c2, rfl, s2, p2⟩, b2⟩; have S2 := hide s2; have P2 := hide p2; have B2 := hide b2; clear z0 z1 z2 z3 z4 z5 zf; have q9 := (b2.block _ (Nat.lt_of_lt_of_le hlX s1)).trans (((unhide B1).block _ hlX).trans (unhide X8)); (obtain ⟨z0, z1, z2, z3, z4, z5⟩ := of6C q9); have zf := fun o => frozen_free (o := o) q9; clear s2 p2 b2 q9))
      have L2 : ∀ a, q2 = some a → a.block ≠ w.heap.size := fun a e => by have := unhide P2 a e; omega
      exact bodyPost_ret (v := .tuple #[.agg #[.int .i64 4, .string attr, .slice none 0 0, .slice q2 1 c2, .int .i64 0, .int .i64 0], .bool true]) (by simp [results, Tryz.results106, go_sem, *]) rfl ⟨⟨⟨4, attr, none, 0, 0, q2, 1, c2, 0, 0⟩, rfl, ⟨⟨rfl, rfl, rfl, rfl, rfl, rfl, SlOf.none _, ((((((unhide S2).set L2 0 _).set L2 1 _).set L2 2 _).set L2 3 _).set L2 4 _).set L2 5 _⟩, ⟨fun a e => (by cases e), fun a e => (by have := unhide P2 a e; omega)⟩, (fun e => by simp at e), (fun e => by simp at e)⟩, fun a e => (by cases e), fun a e hS => (by have h1 := unhide P2 a e; have h2 := hM _ hS; omega)⟩, ((((((below_sub (unhide BX) (below_sub (unhide B1) (unhide B2))).setCell (p := ⟨w.heap.size, 0, none⟩) (Nat.le_refl _) _).setCell (p := ⟨w.heap.size, 1, none⟩) (Nat.le_refl _) _).setCell (p := ⟨w.heap.size, 2, none⟩) (Nat.le_refl _) _).setCell (p := ⟨w.heap.size, 3, none⟩) (Nat.le_refl _) _).setCell (p := ⟨w.heap.size, 4, none⟩) (Nat.le_refl _) _).setCell (p := ⟨w.heap.size, 5, none⟩) (Nat.le_refl _) _⟩
    | false =>
      simp only [Bool.false_eq_true, if_false]
      have hH := fun W => hasPrefix_any b a W
      rw [hp] at hH
      clear hp hlt
      go_enter Tryz.func106, Tryz.ntmps106
      go_wp2_with (go_at_call 90; refine (hH _).mono ?_; rintro e w1 ⟨rfl, b1⟩; have B1 := hide b1; have q9 := (b1.block _ hlX).trans (unhide X8); (obtain ⟨z0, z1, z2, z3, z4, z5⟩ := of6C q9); have zf := fun o => frozen_free (o := o) q9; clear b1 q9)
      exact bodyPost_ret (v := .tuple #[.agg #[.int .i64 0, .string ⟨#[]⟩, .slice none 0 0, .slice none 0 0, .int .i64 0, .int .i64 0], .bool false]) (by simp [results, Tryz.results106, go_sem, *]) rfl ⟨⟨zeroP, rfl, zeroD_own _ _, zero_off _⟩, ((((((below_sub (unhide BX) (unhide B1)).setCell (p := ⟨w.heap.size, 0, none⟩) (Nat.le_refl _) _).setCell (p := ⟨w.heap.size, 1, none⟩) (Nat.le_refl _) _).setCell (p := ⟨w.heap.size, 2, none⟩) (Nat.le_refl _) _).setCell (p := ⟨w.heap.size, 3, none⟩) (Nat.le_refl _) _).setCell (p := ⟨w.heap.size, 4, none⟩) (Nat.le_refl _) _).setCell (p := ⟨w.heap.size, 5, none⟩) (Nat.le_refl _) _⟩
  · rw [if_neg hlt]
    have c1 : ¬ (a.size : Int) < (b.size : Int) := by omega
    cases hp : prefB a b with
    | true =>
      simp only [if_true]
      have hH := fun W => hasPrefix_any a b W
      rw [hp] at hH
      clear hp hlt
      go_enter Tryz.func106, Tryz.ntmps106
      go_wp2_with (first
        | (go_at_call 90; refine (hH _).mono ?_; rintro e w1 ⟨rfl, b1⟩; have B1 := hide b1; have q9 := (b1.block _ hlX).trans (unhide X8); (obtain ⟨z0, z1, z2, z3, z4, z5⟩ := of6C q9); have zf := fun o => frozen_free (o := o) q9; have s1 := b1.size; clear b1 q9)
        | (go_at_call 60; refine (beginsS attr a _).mono ?_; rintro e w2 ⟨⟨q2, c2, rfl, s2, p2⟩, b2⟩; have S2 := hide s2; have P2 := hide p2; have B2 := hide b2; clear z0 z1 z2 z3 z4 z5 zf; have q9 := (b2.block _ (Nat.lt_of_lt_of_le hlX s1)).trans (((unhide B1).block _ hlX).trans (unhide X8)); (obtain ⟨z0, z1, z2, z3, z4, z5⟩ := of6C q9); have zf := fun o => frozen_free (o := o) q9; clear s2 p2 b2 q9))
      have L2 : ∀ a, q2 = some a → a.block ≠ w.heap.size := fun a e => by have := unhide P2 a e; omega
      exact bodyPost_ret (v := .tuple #[.agg #[.int .i64 4, .string attr, .slice none 0 0, .slice q2 1 c2, .int .i64 0, .int .i64 0], .bool true]) (by simp [results, Tryz.results106, go_sem, *]) rfl ⟨⟨⟨4, attr, none, 0, 0, q2, 1, c2, 0, 0⟩, rfl, ⟨⟨rfl, rfl, rfl, rfl, rfl, rfl, SlOf.none _, ((((((unhide S2).set L2 0 _).set L2 1 _).set L2 2 _).set L2 3 _).set L2 4 _).set L2 5 _⟩, ⟨fun a e => (by cases e), fun a e => (by have := unhide P2 a e; omega)⟩, (fun e => by simp at e), (fun e => by simp at e)⟩, fun a e => (by cases e), fun a e hS => (by have h1 := unhide P2 a e; have h2 := hM _ hS; omega)⟩, ((((((below_sub (unhide BX) (below_sub (unhide B1) (unhide B2))).setCell (p := ⟨w.heap.size, 0, none⟩) (Nat.le_refl _) _).setCell (p := ⟨w.heap.size, 1, none⟩) (Nat.le_refl _) _).setCell (p := ⟨w.heap.size, 2, none⟩) (Nat.le_refl _) _).setCell (p := ⟨w.heap.size, 3, none⟩) (Nat.le_refl _) _).setCell (p := ⟨w.heap.size, 4, none⟩) (Nat.le_refl _) _).setCell (p := ⟨w.heap.size, 5, none⟩) (Nat.le_refl _) _⟩
    | false =>
      simp only [Bool.false_eq_true, if_false]
      have hH := fun W => hasPrefix_any a b W
      rw [hp] at hH
      clear hp hlt
      go_enter Tryz.func106, Tryz.ntmps106
      go_wp2_with (go_at_call 90; refine (hH _).mono ?_; rintro e w1 ⟨rfl, b1⟩; have B1 := hide b1; have q9 := (b1.block _ hlX).trans (unhide X8); (obtain ⟨z0, z1, z2, z3, z4, z5⟩ := of6C q9); have zf := fun o => frozen_free (o := o) q9; clear b1 q9)
      exact bodyPost_ret (v := .tuple #[.agg #[.int .i64 0, .string ⟨#[]⟩, .slice none 0 0, .slice none 0 0, .int .i64 0, .int .i64 0], .bool false]) (by simp [results, Tryz.results106, go_sem, *]) rfl ⟨⟨zeroP, rfl, zeroD_own _ _, zero_off _⟩, ((((((below_sub (unhide BX) (unhide B1)).setCell (p := ⟨w.heap.size, 0, none⟩) (Nat.le_refl _) _).setCell (p := ⟨w.heap.size, 1, none⟩) (Nat.le_refl _) _).setCell (p := ⟨w.heap.size, 2, none⟩) (Nat.le_refl _) _).setCell (p := ⟨w.heap.size, 3, none⟩) (Nat.le_refl _) _).setCell (p := ⟨w.heap.size, 4, none⟩) (Nat.le_refl _) _).setCell (p := ⟨w.heap.size, 5, none⟩) (Nat.le_refl _) _⟩
end Go.Proofs.YtimklglliffpcaaGreat
namespace Go.Proofs.YtimklglliffpcaaGreat
open Go.RowKit Go.Sort Go.Shelf

theorem grown_undrew {w w' : World} {r : Option Nat} (h : w.drew.grownBy w' r) : w.grownBy w' r := ⟨h.os, h.tape, h.output, h.size, h.block⟩
theorem below_grownB {B g : Nat} {w w1 w2 : World} (h : Below w.heap.size w w1) (hg : w1.grownBy w2 (some g)) (hB : B ≤ w.heap.size) (hBg : B ≤ g) : Below B w w2 :=
  ⟨hg.os.trans h.os, hg.tape.trans h.tape, hg.output.trans h.output, Nat.le_trans h.size hg.size, fun k hk => (hg.block k (Nat.lt_of_lt_of_le (Nat.lt_of_lt_of_le hk hB) h.size) (fun e => by injection e with e; omega)).trans (h.block k (Nat.lt_of_lt_of_le hk hB))⟩
theorem sl_grownC {α : Type} [Inhabited α] {enc : α → List Value} {k c : Nat} {w w' : World} {g : Nat} {q : Option Addr} {l : List α} (h : SlOf enc k w q c l) (hg : w.grownBy w' (some g)) (hr : ∀ a, q = some a → l ≠ [] → a.block ≠ g) : SlOf enc k w' q c l := by
  refine ⟨h.1, h.2.1, h.2.2.1, fun h0 => ?_⟩
  obtain ⟨b, off, hq, hb, hc⟩ := h.2.2.2 h0
  refine ⟨b, off, hq, Nat.lt_of_lt_of_le hb hg.size, fun j u hj => ?_⟩
  rw [World.cell?_of_block (a := ⟨b, off + j, none⟩) (hg.block b hb (fun e => by injection e with e; exact hr _ hq (List.length_pos_iff.1 h0) e))]
  exact hc j u hj
theorem pdin_grown {w w' : World} {g : Nat} {u : Pv} {p : Pd} (h : PdIn w u p) (hg : w.grownBy w' (some g)) (h1 : ∀ a, u.qi = some a → p.ints ≠ [] → a.block ≠ g) (h2 : ∀ a, u.qw = some a → p.words ≠ [] → a.block ≠ g) : PdIn w' u p := by
  obtain ⟨c1, c2, c3, c4, c5, c6, c7, c8⟩ := h
  exact ⟨c1, c2, c3, c4, c5, c6, sl_grownC c7 hg h1, sl_grownC c8 hg h2⟩
theorem six_out {w : World} {M b o : Nat} {v0 v1 v2 v3 v4 v5 : Value} {x : Option Value} (hne : b ≠ M) (h : w.cell? ⟨b, o, none⟩ = x) : ((((((w.setCell ⟨M, 0, none⟩ v0).setCell ⟨M, 1, none⟩ v1).setCell ⟨M, 2, none⟩ v2).setCell ⟨M, 3, none⟩ v3).setCell ⟨M, 4, none⟩ v4).setCell ⟨M, 5, none⟩ v5).cell? ⟨b, o, none⟩ = x := by
  have hn : ∀ (W : World) (k : Nat) (v : Value), (W.setCell ⟨M, k, none⟩ v).cell? ⟨b, o, none⟩ = W.cell? ⟨b, o, none⟩ := fun W k v => World.cell?_setCell_other W ⟨M, k, none⟩ ⟨b, o, none⟩ v (by intro g; injection g with g1; exact hne g1.symm)
  rw [hn, hn, hn, hn, hn, hn]
  exact h
theorem Off.sub {r : Pv} {M : Nat} {T : Nat → Prop} (h : Off r (fun k => k = M ∨ T k)) : Off r T := ⟨fun a e ht => h.1 a e (Or.inr ht), fun a e ht => h.2 a e (Or.inr ht)⟩
theorem PdOwn.setC {B M : Nat} {S : Nat → Prop} {w : World} {u : Pv} {p : Pd} (h : PdOwn B w u p) (hf : Off u S) (hM : S M) (k : Nat) (v : Value) : PdOwn B (w.setCell ⟨M, k, none⟩ v) u p := by
  obtain ⟨⟨c1, c2, c3, c4, c5, c6, c7, c8⟩, d1, d2, d3⟩ := h
  exact ⟨⟨c1, c2, c3, c4, c5, c6, c7.set (fun a e h => hf.1 a e (h ▸ hM)) k v, c8.set (fun a e h => hf.2 a e (h ▸ hM)) k v⟩, d1, fun e => (d2 e).set _ _ _, fun e => (d3 e).set _ _ _⟩
theorem own_rowI {B : Nat} {w : World} {u : Pv} {p : Pd} (h : PdOwn B w u p) (hk : p.kind = 1) (hne : p.ints ≠ []) : ∃ g, u.qi = some ⟨g, 0, none⟩ ∧ B ≤ g ∧ Rw vI w g p.ints := by
  have hl : 0 < p.ints.length := List.length_pos_iff.2 hne
  obtain ⟨b, off, hq, hb, hc⟩ := h.1.2.2.2.2.2.2.1.2.2.2 hl
  have hw := h.2.2.1 hk b off hq
  obtain rfl := (hw 0 hl).1
  refine ⟨b, hq, h.2.1.1 _ hq, hb, fun j x hx => ?_⟩
  have hj : j < p.ints.length := (List.getElem?_eq_some_iff.1 hx).1
  have h1 := hc j (vI x) (by rw [flatI_map, List.getElem?_map, hx]; rfl)
  have h2 := (hw j hj).2
  rw [Nat.zero_add] at h1 h2
  exact ⟨h1, h2⟩
theorem own_rowS {B : Nat} {w : World} {u : Pv} {p : Pd} (h : PdOwn B w u p) (hk : p.kind = 2) (hne : p.words ≠ []) : ∃ g, u.qw = some ⟨g, 0, none⟩ ∧ B ≤ g ∧ Rw vS w g p.words := by
  have hl : 0 < p.words.length := List.length_pos_iff.2 hne
  obtain ⟨b, off, hq, hb, hc⟩ := h.1.2.2.2.2.2.2.2.2.2.2 hl
  have hw := h.2.2.2 hk b off hq
  obtain rfl := (hw 0 hl).1
  refine ⟨b, hq, h.2.1.2 _ hq, hb, fun j x hx => ?_⟩
  have hj : j < p.words.length := (List.getElem?_eq_some_iff.1 hx).1
  have h1 := hc j (vS x) (by rw [flatS_map, List.getElem?_map, hx]; rfl)
  have h2 := (hw j hj).2
  rw [Nat.zero_add] at h1 h2
  exact ⟨h1, h2⟩
/-- A normal predicate. -/
def Gd (p : Pd) : Prop := Nrm p ∧ (p.kind = 1 → p.ints ≠ []) ∧ (p.kind = 2 → p.words ≠ []) ∧ (p.kind = 1 ∨ p.kind = 2 ∨ p.kind = 3 ∨ p.kind = 4)
/-- The lists of two predicates lie apart. -/
def Apart (u : Pv) (p : Pd) (v : Pv) (r : Pd) : Prop := ∀ x y, (u.qi = some x ∧ p.ints ≠ [] ∨ u.qw = some x ∧ p.words ≠ []) → (v.qi = some y ∧ r.ints ≠ [] ∨ v.qw = some y ∧ r.words ≠ []) → x.block ≠ y.block
theorem Apart.symm {u v : Pv} {p r : Pd} (h : Apart u p v r) : Apart v r u p := fun x y hx hy => (h y x hy hx).symm
def coreD (a b : Pd) : Option Pd := if a.kind = 1 then mkI a.attr (a.ints.filter (hasID b)) else if a.kind = 2 then mkS a.attr (a.words.filter (hasSD b)) else if ¬ a.kind = b.kind then none else if a.kind = 3 then betwD a.attr (max a.lo b.lo) (min a.hi b.hi) else longD a.attr (fstW a) (fstW b)
def setK (p : Pd) : Bool := decide (p.kind = 1) || decide (p.kind = 2)
def bothD (a b : Pd) : Option Pd := if setK b then coreD b a else coreD a b
theorem three_boxes (w : World) (u v : Pv) : ∃ X, ((w.alloc (.cells #[.int .i64 u.kind, .string u.attr, .slice u.qi u.ni u.ci, .slice u.qw u.nw u.cw, .int .i64 u.lo, .int .i64 u.hi] 26)).alloc (.cells #[.int .i64 v.kind, .string v.attr, .slice v.qi v.ni v.ci, .slice v.qw v.nw v.cw, .int .i64 v.lo, .int .i64 v.hi] 26)).alloc (.cells #[.int .i64 0, .string ⟨#[]⟩, .slice none 0 0, .slice none 0 0, .int .i64 0, .int .i64 0] 26) = X ∧ Below w.heap.size w X ∧ X.heap.size = w.heap.size + 3 ∧ X.heap[w.heap.size]? = some (.cells #[.int .i64 u.kind, .string u.attr, .slice u.qi u.ni u.ci, .slice u.qw u.nw u.cw, .int .i64 u.lo, .int .i64 u.hi] 26 (0, 0)) ∧ X.heap[w.heap.size + 1]? = some (.cells #[.int .i64 v.kind, .string v.attr, .slice v.qi v.ni v.ci, .slice v.qw v.nw v.cw, .int .i64 v.lo, .int .i64 v.hi] 26 (0, 0)) ∧ X.heap[w.heap.size + 2]? = some (.cells #[.int .i64 0, .string ⟨#[]⟩, .slice none 0 0, .slice none 0 0, .int .i64 0, .int .i64 0] 26 (0, 0)) := by
  obtain ⟨Y, hY, bY, sY, y8, y9⟩ := two_boxes w u v
  rw [hY]
  have b := (Below.refl Y.heap.size Y).alloc (Nat.le_refl _) (.cells #[.int .i64 0, .string ⟨#[]⟩, .slice none 0 0, .slice none 0 0, .int .i64 0, .int .i64 0] 26)
  refine ⟨_, rfl, below_sub bY b, by simp; omega, (b.block _ (by omega)).trans y8, (b.block _ (by omega)).trans y9, ?_⟩
  rw [← sY]
  exact World.alloc_heap_new _ _
theorem box_set6 {V : World} {b : Nat} {c0 c1 c2 c3 c4 c5 : Value} (h : V.heap[b]? = some (.cells #[c0, c1, c2, c3, c4, c5] 26 (0, 0))) (v0 v1 v2 v3 v4 v5 : Value) :
    ((((((V.setCell ⟨b, 0, none⟩ v0).setCell ⟨b, 1, none⟩ v1).setCell ⟨b, 2, none⟩ v2).setCell ⟨b, 3, none⟩ v3).setCell ⟨b, 4, none⟩ v4).setCell ⟨b, 5, none⟩ v5).heap[b]? = some (.cells #[v0, v1, v2, v3, v4, v5] 26 (0, 0)) := by
  simp [World.setCell, Array.getElem?_modify, h]
theorem heap_six {w : World} {M b : Nat} (hne : b ≠ M) (v0 v1 v2 v3 v4 v5 : Value) : ((((((w.setCell ⟨M, 0, none⟩ v0).setCell ⟨M, 1, none⟩ v1).setCell ⟨M, 2, none⟩ v2).setCell ⟨M, 3, none⟩ v3).setCell ⟨M, 4, none⟩ v4).setCell ⟨M, 5, none⟩ v5).heap[b]? = w.heap[b]? := by
  simp [World.setCell, Array.getElem?_modify, Ne.symm hne]
theorem size_six {w : World} {M : Nat} (v0 v1 v2 v3 v4 v5 : Value) : ((((((w.setCell ⟨M, 0, none⟩ v0).setCell ⟨M, 1, none⟩ v1).setCell ⟨M, 2, none⟩ v2).setCell ⟨M, 3, none⟩ v3).setCell ⟨M, 4, none⟩ v4).setCell ⟨M, 5, none⟩ v5).heap.size = w.heap.size := by
  simp
theorem setC_os (w : World) (p : Addr) (v : Value) : (w.setCell p v).os = w.os := rfl
theorem setC_tape (w : World) (p : Addr) (v : Value) : (w.setCell p v).tape = w.tape := rfl
theorem setC_out (w : World) (p : Addr) (v : Value) : (w.setCell p v).output = w.output := rfl
theorem swap_facts (Z0 : World) (n : Nat) (A V : Pv) (q8 : Z0.heap[n]? = some (.cells #[.int .i64 V.kind, .string V.attr, .slice V.qi V.ni V.ci, .slice V.qw V.nw V.cw, .int .i64 V.lo, .int .i64 V.hi] 26 (0, 0))) (q9 : Z0.heap[n + 1]? = some (.cells #[.int .i64 A.kind, .string A.attr, .slice A.qi A.ni A.ci, .slice A.qw A.nw A.cw, .int .i64 A.lo, .int .i64 A.hi] 26 (0, 0))) (Z : World) (hZ : ((((((((((((Z0.setCell ⟨n, 0, none⟩ (.int .i64 A.kind)).setCell ⟨n, 1, none⟩ (.string A.attr)).setCell ⟨n, 2, none⟩ (.slice A.qi A.ni A.ci)).setCell ⟨n, 3, none⟩ (.slice A.qw A.nw A.cw)).setCell ⟨n, 4, none⟩ (.int .i64 A.lo)).setCell ⟨n, 5, none⟩ (.int .i64 A.hi)).setCell ⟨(n + 1), 0, none⟩ (.int .i64 V.kind)).setCell ⟨(n + 1), 1, none⟩ (.string V.attr)).setCell ⟨(n + 1), 2, none⟩ (.slice V.qi V.ni V.ci)).setCell ⟨(n + 1), 3, none⟩ (.slice V.qw V.nw V.cw)).setCell ⟨(n + 1), 4, none⟩ (.int .i64 V.lo)).setCell ⟨(n + 1), 5, none⟩ (.int .i64 V.hi)) = Z) :
    Z.heap[n]? = some (.cells #[.int .i64 A.kind, .string A.attr, .slice A.qi A.ni A.ci, .slice A.qw A.nw A.cw, .int .i64 A.lo, .int .i64 A.hi] 26 (0, 0)) ∧ Z.heap[n + 1]? = some (.cells #[.int .i64 V.kind, .string V.attr, .slice V.qi V.ni V.ci, .slice V.qw V.nw V.cw, .int .i64 V.lo, .int .i64 V.hi] 26 (0, 0)) ∧ (∀ k, k ≠ n → k ≠ n + 1 → Z.heap[k]? = Z0.heap[k]?) ∧ Z.heap.size = Z0.heap.size ∧ Z.os = Z0.os ∧ Z.tape = Z0.tape ∧ Z.output = Z0.output := by
  subst hZ
  refine ⟨?_, ?_, fun k h1 h2 => ?_, ?_, by simp only [setC_os], by simp only [setC_tape], by simp only [setC_out]⟩
  · exact (heap_six (M := n + 1) (b := n) (by omega) _ _ _ _ _ _).trans (box_set6 q8 _ _ _ _ _ _)
  · exact box_set6 ((heap_six (M := n) (b := n + 1) (by omega) _ _ _ _ _ _).trans q9) _ _ _ _ _ _
  · exact (heap_six (M := n + 1) h2 _ _ _ _ _ _).trans (heap_six (M := n) h1 _ _ _ _ _ _)
  · exact (size_six _ _ _ _ _ _).trans (size_six _ _ _ _ _ _)
end Go.Proofs.YtimklglliffpcaaGreat
namespace Go.Proofs.YtimklglliffpcaaGreat

theorem wkI_of {l : List Int} (h : l.Pairwise (· < ·)) : WkI l := h.imp fun h => Int.le_of_lt h
theorem wkS_of {l : List ByteArray} (h : l.Pairwise ltS) : WkS l := h.imp fun h => Int.le_of_lt h
theorem pd_some {p : Pd} (h : p.ok = true) : (p.kind = 1 → p.ints ≠ []) ∧ (p.kind = 2 → p.words ≠ []) := by
  unfold Pd.ok predB at h
  rw [Bool.and_eq_true] at h
  obtain ⟨_, h⟩ := h
  constructor
  · intro hk hn
    rw [hk, hn] at h
    simp [memB] at h
  · intro hk hn
    rw [hk, hn] at h
    simp [memB] at h
theorem once_ne {l : List Int} (h : l ≠ []) : onceI l ≠ [] := by
  obtain ⟨x, hx⟩ := List.exists_mem_of_ne_nil l h
  exact List.ne_nil_of_mem (((onceI_spec l).1 x).2 hx)
theorem onceS_ne {l : List ByteArray} (h : l ≠ []) : onceS l ≠ [] := by
  obtain ⟨x, hx⟩ := List.exists_mem_of_ne_nil l h
  exact List.ne_nil_of_mem (((onceS_spec l).1 x).2 hx)
theorem gd_one (attr : ByteArray) (l : List Int) (h1 : WkI l) (h2 : l.length ≤ 1000000000) (h3 : l ≠ []) : Gd ⟨1, attr, l, [], 0, 0⟩ := ⟨⟨h1, List.Pairwise.nil, h2, by simp, fun e => by simp at e⟩, fun _ => h3, fun e => by simp at e, Or.inl rfl⟩
theorem gd_two (attr : ByteArray) (l : List ByteArray) (h1 : WkS l) (h2 : l.length ≤ 1000000000) (h3 : l ≠ []) : Gd ⟨2, attr, [], l, 0, 0⟩ := ⟨⟨List.Pairwise.nil, h1, by simp, h2, fun e => by simp at e⟩, fun e => by simp at e, fun _ => h3, Or.inr (Or.inl rfl)⟩
theorem gd_three (attr : ByteArray) (lo hi : Int) : Gd ⟨3, attr, [], [], lo, hi⟩ := ⟨⟨List.Pairwise.nil, List.Pairwise.nil, by simp, by simp, fun e => by simp at e⟩, fun e => by simp at e, fun e => by simp at e, Or.inr (Or.inr (Or.inl rfl))⟩
theorem gd_four (attr s : ByteArray) : Gd ⟨4, attr, [], [s], 0, 0⟩ := ⟨⟨List.Pairwise.nil, List.pairwise_singleton _ _, by simp, by simp, fun _ => ⟨s, rfl⟩⟩, fun e => by simp at e, fun e => by simp at e, Or.inr (Or.inr (Or.inr rfl))⟩
theorem gd_norm {p m : Pd} (hs : p.small) (h : normD p = some m) : Gd m := by
  cases hp : p.ok with
  | false => rw [normD_none hp] at h; cases h
  | true =>
    rcases pd_kinds hp with hk | hk | hk | ⟨hk, s, hs1⟩
    · rw [normD_1 hp hk] at h
      cases h
      exact gd_one _ _ (wkI_of (onceI_spec p.ints).2.1) (Nat.le_trans (onceI_spec p.ints).2.2 hs.1) (once_ne ((pd_some hp).1 hk))
    · rw [normD_2 hp hk] at h
      cases h
      exact gd_two _ _ (wkS_of (onceS_spec p.words).2.1) (Nat.le_trans (onceS_spec p.words).2.2 hs.2) (onceS_ne ((pd_some hp).2 hk))
    · rw [normD_3 hp hk] at h
      split at h
      · cases h
      · split at h
        · cases h
          exact gd_one _ _ (List.pairwise_singleton _ _) (by simp) (by simp)
        · cases h
          exact gd_three _ _ _
    · rw [normD_4 hp hk, hs1] at h
      cases h
      exact gd_four _ _
theorem gd_core {a b m : Pd} (ha : Gd a) (h : coreD a b = some m) : Gd m := by
  unfold coreD at h
  split at h
  · unfold mkI at h
    split at h
    · cases h
    · next h0 =>
      cases h
      exact gd_one _ _ (ha.1.1.sublist List.filter_sublist) (Nat.le_trans (List.length_filter_le _ _) ha.1.2.2.1) (fun e => h0 (by rw [e]; rfl))
  · split at h
    · unfold mkS at h
      split at h
      · cases h
      · next h0 =>
        cases h
        exact gd_two _ _ (ha.1.2.1.sublist List.filter_sublist) (Nat.le_trans (List.length_filter_le _ _) ha.1.2.2.2.1) (fun e => h0 (by rw [e]; rfl))
    · split at h
      · cases h
      · split at h
        · unfold betwD at h
          split at h
          · cases h
          · split at h
            · cases h
              exact gd_one _ _ (List.pairwise_singleton _ _) (by simp) (by simp)
            · cases h
              exact gd_three _ _ _
        · unfold longD at h
          split at h <;> split at h <;> first | (cases h; exact gd_four _ _) | cases h
theorem gd_both {a b m : Pd} (ha : Gd a) (hb : Gd b) (h : bothD a b = some m) : Gd m := by
  unfold bothD at h
  split at h
  · exact gd_core hb h
  · exact gd_core ha h
/-- What is met so far, and the rest. -/
def meetGo : Option Pd → List Pd → Option Pd
  | o, [] => o
  | o, q :: qs => match o, normD q with
    | some m, some n => if n.attr = m.attr then meetGo (bothD m n) qs else none
    | _, _ => none
def meetD : List Pd → Option Pd
  | [] => none
  | p :: ps => meetGo (normD p) ps
end Go.Proofs.YtimklglliffpcaaGreat
namespace Go.Proofs.YtimklglliffpcaaGreat
open Go.RowKit Go.Sort Go.Shelf

/-- A list without members is nil. -/
def Tight (v : Pv) (p : Pd) : Prop := (p.ints = [] → v.qi = none) ∧ (p.words = [] → v.qw = none)
/-- conj.Normal. -/
theorem normal_tight (u : Pv) (p : Pd) (w : World) (hu : PdIn w u p) (hs : p.small) :
    Calls Tryz.prog 16 #[u.val] w fun e w' => (∃ v, e = .returned (.tuple #[Pv.val v, .bool (normD p).isSome]) ∧ PdOwn w.heap.size w' v ((normD p).getD zeroD) ∧ Tight v ((normD p).getD zeroD)) ∧ Below w.heap.size w w' := by
  obtain ⟨hk, ha, hi, hw, hl, hh, s1, s2⟩ := hu
  have l1 : p.ints.length ≤ 1000000000000000000 := by have := hs.1; omega
  have l2 : p.words.length ≤ 1000000000000000000 := by have := hs.2; omega
  unfold Pv.val
  rw [hk, ha, hi, hw, hl, hh]
  cases hp : p.ok with
  | false =>
    rw [normD_none hp]
    exact (normal_no p.kind p.attr u.qi u.ci p.ints u.qw u.cw p.words p.lo p.hi w s1 s2 l1 l2 hp).mono fun e w' ⟨he, hb⟩ => ⟨⟨zeroP, he, zeroD_own _ _, fun _ => rfl, fun _ => rfl⟩, hb⟩
  | true =>
    have hp' := hp
    unfold Pd.ok at hp'
    rcases pd_kinds hp with h | h | h | ⟨h, s, hs1⟩
    · rw [normD_1 hp h]
      rw [h] at hp' ⊢
      refine (normal_1o p.attr u.qi u.ci p.ints u.qw u.cw p.words p.lo p.hi w s1 s2 l1 l2 hp').mono fun e w' ⟨⟨q, c, he, hq, hB, hW⟩, hb⟩ => ⟨⟨⟨1, p.attr, q, (onceI p.ints).length, c, none, 0, 0, 0, 0⟩, he, ⟨⟨rfl, rfl, rfl, rfl, rfl, rfl, hq, SlOf.none _⟩, ⟨hB, fun a e => (by cases e)⟩, fun _ => hW, (fun e => by simp at e)⟩, (fun e => absurd e (once_ne ((pd_some hp).1 h))), fun _ => rfl⟩, hb⟩
    · rw [normD_2 hp h]
      rw [h] at hp' ⊢
      refine (normal_2o p.attr u.qi u.ci p.ints u.qw u.cw p.words p.lo p.hi w s1 s2 l1 l2 hp').mono fun e w' ⟨⟨q, c, he, hq, hB, hW⟩, hb⟩ => ⟨⟨⟨2, p.attr, none, 0, 0, q, (onceS p.words).length, c, 0, 0⟩, he, ⟨⟨rfl, rfl, rfl, rfl, rfl, rfl, SlOf.none _, hq⟩, ⟨fun a e => (by cases e), hB⟩, (fun e => by simp at e), fun _ => hW⟩, fun _ => rfl, (fun e => absurd e (onceS_ne ((pd_some hp).2 h)))⟩, hb⟩
    · rw [normD_3 hp h]
      rw [h] at hp' ⊢
      by_cases hc : p.hi < p.lo
      · rw [if_pos hc]
        exact (normal_3n p.attr u.qi u.ci p.ints u.qw u.cw p.words p.lo p.hi w s1 s2 l1 l2 hp' hc).mono fun e w' ⟨he, hb⟩ => ⟨⟨zeroP, he, zeroD_own _ _, fun _ => rfl, fun _ => rfl⟩, hb⟩
      · rw [if_neg hc]
        by_cases hq : p.lo = p.hi
        · rw [if_pos hq]
          refine (normal_3eo p.attr u.qi u.ci p.ints u.qw u.cw p.words p.lo p.hi w s1 s2 l1 l2 hp' hq).mono fun e w' ⟨⟨q, c, he, hq, hB, hW⟩, hb⟩ => ⟨⟨⟨1, p.attr, q, 1, c, none, 0, 0, 0, 0⟩, he, ⟨⟨rfl, rfl, rfl, rfl, rfl, rfl, hq, SlOf.none _⟩, ⟨hB, fun a e => (by cases e)⟩, fun _ => hW, (fun e => by simp at e)⟩, (fun e => absurd e (by simp)), fun _ => rfl⟩, hb⟩
        · rw [if_neg hq]
          exact (normal_3r p.attr u.qi u.ci p.ints u.qw u.cw p.words p.lo p.hi w s1 s2 l1 l2 hp' (by omega)).mono fun e w' ⟨he, hb⟩ => ⟨⟨⟨3, p.attr, none, 0, 0, none, 0, 0, p.lo, p.hi⟩, he, ⟨⟨rfl, rfl, rfl, rfl, rfl, rfl, SlOf.none _, SlOf.none _⟩, Fr2.none2 rfl rfl, (fun e => by simp at e), (fun e => by simp at e)⟩, fun _ => rfl, fun _ => rfl⟩, hb⟩
    · rw [normD_4 hp h]
      rw [h] at hp' ⊢
      exact (normal_4o p.attr u.qi u.ci p.ints u.qw u.cw p.words p.lo p.hi w s1 s2 l1 l2 hp' s (by rw [hs1]; rfl)).mono fun e w' ⟨⟨q, c, he, hq, hB⟩, hb⟩ => ⟨⟨⟨4, p.attr, none, 0, 0, q, 1, c, 0, 0⟩, he, ⟨⟨rfl, rfl, rfl, (by show 1 = p.words.length; rw [hs1]; rfl), rfl, rfl, SlOf.none _, (by show SlOf encS 1 w' q c p.words; rw [hs1]; exact hq)⟩, ⟨fun a e => (by cases e), hB⟩, (fun e => by simp at e), (fun e => by simp at e)⟩, fun _ => rfl, (fun e => by simp [hs1] at e)⟩, hb⟩
theorem off_new {B M : Nat} {w : World} {u : Pv} {p : Pd} (h : PdOwn B w u p) (ht : Tight u p) (hM : w.heap.size ≤ M) : Off u (fun j => j = M) := by
  refine ⟨fun a e hj => ?_, fun a e hj => ?_⟩
  · by_cases hn : p.ints = []
    · rw [ht.1 hn] at e; cases e
    · obtain ⟨b, off, hq2, hb, _⟩ := h.1.2.2.2.2.2.2.1.2.2.2 (List.length_pos_iff.2 hn)
      rw [e] at hq2
      cases hq2
      simp only at hj
      omega
  · by_cases hn : p.words = []
    · rw [ht.2 hn] at e; cases e
    · obtain ⟨b, off, hq2, hb, _⟩ := h.1.2.2.2.2.2.2.2.2.2.2 (List.length_pos_iff.2 hn)
      rw [e] at hq2
      cases hq2
      simp only at hj
      omega
end Go.Proofs.YtimklglliffpcaaGreat
namespace Go.Proofs.YtimklglliffpcaaGreat
open Go.RowKit Go.Sort Go.Shelf

/-- What conj.both does. -/
def BothAny : Prop := ∀ (u v : Pv) (a b : Pd) (B : Nat) (w : World), B ≤ w.heap.size → PdOwn B w u a → PdOwn B w v b → Gd a → Gd b → Apart u a v b → ∀ (T : Nat → Prop), (∀ k, T k → k < w.heap.size) → Off u T → Off v T →
    Calls Tryz.prog 50 #[u.val, v.val] w fun e w' => (∃ r : Pv, e = .returned (.tuple #[.agg #[.int .i64 r.kind, .string r.attr, .slice r.qi r.ni r.ci, .slice r.qw r.nw r.cw, .int .i64 r.lo, .int .i64 r.hi], .bool (bothD a b).isSome]) ∧ PdOwn B w' r ((bothD a b).getD zeroD) ∧ Off r T) ∧ Below B w w' ∧ ∀ k, T k → w'.heap[k]? = w.heap[k]?
/-- A list of predicates in memory. -/
def PdsOf (w : World) (q : Option Addr) (c : Nat) (l : List Pd) : Prop := ∃ us, SlOf encD 6 w q c us ∧ us.length = l.length ∧ ∀ (j : Nat) (u : Pv) (p : Pd), us[j]? = some u → l[j]? = some p → PdIn w u p
theorem PdsOf.below {w w' : World} {q : Option Addr} {c : Nat} {l : List Pd} (h : PdsOf w q c l) (hb : Below w.heap.size w w') : PdsOf w' q c l := by
  obtain ⟨us, h1, h2, h3⟩ := h
  exact ⟨us, h1.below hb, h2, fun j u p hj hp => (h3 j u p hj hp).keep hb⟩
theorem PdsOf.at {w : World} {q : Option Addr} {c : Nat} {l : List Pd} {j : Nat} {p : Pd} (h : PdsOf w q c l) (hj : l[j]? = some p) :
    ∃ b off u, q = some ⟨b, off, none⟩ ∧ b < w.heap.size ∧ PdIn w u p ∧ w.cell? ⟨b, off + j * 6, none⟩ = some (.int .i64 u.kind) ∧ w.cell? ⟨b, off + j * 6 + 1, none⟩ = some (.string u.attr) ∧ w.cell? ⟨b, off + j * 6 + 2, none⟩ = some (.slice u.qi u.ni u.ci) ∧ w.cell? ⟨b, off + j * 6 + 3, none⟩ = some (.slice u.qw u.nw u.cw) ∧ w.cell? ⟨b, off + j * 6 + 4, none⟩ = some (.int .i64 u.lo) ∧ w.cell? ⟨b, off + j * 6 + 5, none⟩ = some (.int .i64 u.hi) := by
  obtain ⟨us, h1, h2, h3⟩ := h
  have hl : j < l.length := (List.getElem?_eq_some_iff.1 hj).1
  obtain ⟨u, hu, _⟩ := get_at (l := us) (k := j) (by omega)
  obtain ⟨b, off, hq, hb, hc⟩ := h1.2.2.2.at hu
  exact ⟨b, off, u, hq, hb, h3 j u p hu hj, hc 0 (by omega), hc 1 (by omega), hc 2 (by omega), hc 3 (by omega), hc 4 (by omega), hc 5 (by omega)⟩
theorem PdsOf.cap {w : World} {q : Option Addr} {c : Nat} {l : List Pd} (h : PdsOf w q c l) : l.length ≤ c ∧ c ≤ maxLen := by
  obtain ⟨us, h1, h2, _⟩ := h
  exact ⟨by rw [← h2]; exact h1.2.1, h1.2.2.1⟩
def Small (l : List Pd) : Prop := ∀ p ∈ l, p.small
theorem meetGo_none (l : List Pd) : meetGo none l = none := by cases l <;> rfl
theorem own_lt {B : Nat} {w : World} {u : Pv} {p : Pd} (h : PdOwn B w u p) : ∀ x, (u.qi = some x ∧ p.ints ≠ [] ∨ u.qw = some x ∧ p.words ≠ []) → x.block < w.heap.size := fun x hx => by
  rcases hx with ⟨hq, hn⟩ | ⟨hq, hn⟩
  · obtain ⟨b, off, hq2, hb, _⟩ := h.1.2.2.2.2.2.2.1.2.2.2 (List.length_pos_iff.2 hn)
    rw [hq] at hq2
    cases hq2
    exact hb
  · obtain ⟨b, off, hq2, hb, _⟩ := h.1.2.2.2.2.2.2.2.2.2.2 (List.length_pos_iff.2 hn)
    rw [hq] at hq2
    cases hq2
    exact hb
theorem own_ge2 {B : Nat} {w : World} {u : Pv} {p : Pd} (h : PdOwn B w u p) : ∀ x, (u.qi = some x ∧ p.ints ≠ [] ∨ u.qw = some x ∧ p.words ≠ []) → B ≤ x.block := fun x hx => by
  rcases hx with ⟨hq, _⟩ | ⟨hq, _⟩
  · exact h.2.1.1 x hq
  · exact h.2.1.2 x hq
theorem off_lt {B : Nat} {w : World} {u : Pv} {p : Pd} {T : Nat → Prop} (h : PdOwn B w u p) (hT : ∀ k, T k → k < B) : Off u T := ⟨fun a e ht => by have h1 := h.2.1.1 a e; have h2 := hT _ ht; omega, fun a e ht => by have h1 := h.2.1.2 a e; have h2 := hT _ ht; omega⟩
set_option maxHeartbeats 1000000 in
set_option maxRecDepth 100000 in
theorem meet_nil (q : Option Addr) (c : Nat) (w : World) :
    Calls Tryz.prog 14 #[.slice q 0 c] w fun e w' => e = .returned (.tuple #[.agg #[.int .i64 0, .string ⟨#[]⟩, .slice none 0 0, .slice none 0 0, .int .i64 0, .int .i64 0], .bool false]) ∧ Below w.heap.size w w' := by
  obtain ⟨X, HX⟩ : ∃ X, w.alloc (.cells #[.int .i64 0, .string ⟨#[]⟩, .slice none 0 0, .slice none 0 0, .int .i64 0, .int .i64 0] 26) = X := ⟨_, rfl⟩
  have bX : Below w.heap.size w X := by rw [← HX]; exact (Below.refl _ _).alloc (Nat.le_refl _) _
  have x8 : X.heap[w.heap.size]? = some (.cells #[.int .i64 0, .string ⟨#[]⟩, .slice none 0 0, .slice none 0 0, .int .i64 0, .int .i64 0] 26 (0, 0)) := by rw [← HX]; exact World.alloc_heap_new _ _
  obtain ⟨x0, x1, x2, x3, x4, x5⟩ := of6C x8
  have xf := fun o => frozen_free (o := o) x8
  have BX := hide bX
  clear bX x8
  go_enter Tryz.func14, Tryz.ntmps14
  go_wp2
  exact bodyPost_ret (v := .tuple #[.agg #[.int .i64 0, .string ⟨#[]⟩, .slice none 0 0, .slice none 0 0, .int .i64 0, .int .i64 0], .bool false]) (by simp [results, Tryz.results14, go_sem, *]) rfl ⟨rfl, (((((((unhide BX).setCell (p := ⟨w.heap.size, 0, none⟩) (Nat.le_refl _) _).setCell (p := ⟨w.heap.size, 1, none⟩) (Nat.le_refl _) _).setCell (p := ⟨w.heap.size, 2, none⟩) (Nat.le_refl _) _).setCell (p := ⟨w.heap.size, 3, none⟩) (Nat.le_refl _) _).setCell (p := ⟨w.heap.size, 4, none⟩) (Nat.le_refl _) _).setCell (p := ⟨w.heap.size, 5, none⟩) (Nat.le_refl _) _)⟩
end Go.Proofs.YtimklglliffpcaaGreat
namespace Go.Proofs.YtimklglliffpcaaGreat
open Go.RowKit Go.Sort Go.Shelf

theorem cell_regrownC {w : World} {p : Addr} {v : Value} (h : w.cell? p = some v) : ∀ n os, (grow (redrawn w n) os).cell? p = some v := fun n os => by
  have hb : p.block < w.heap.size := by
    rcases Nat.lt_or_ge p.block w.heap.size with h' | h'
    · exact h'
    · exfalso
      unfold World.cell? at h
      rw [Array.getElem?_eq_none h'] at h
      simp at h
  exact ((below_regrown w n os).cell hb).trans h
/-- conj.same. -/
theorem sameD (u v : Pv) (p r : Pd) (w : World) (hu : PdIn w u p) (hv : PdIn w v r) (hs : p.small) : Calls Tryz.prog 128 #[u.val, v.val] w fun e w' => e = .returned (.bool (decide (p = r))) ∧ Below w.heap.size w w' := by
  obtain ⟨X, HX, bX, sX, x8, x9⟩ := two_boxes w u v
  obtain ⟨a0, a1, a2, a3, a4, a5⟩ := of6C x8
  obtain ⟨b0, b1, b2, b3, b4, b5⟩ := of6C x9
  have hC := compareD u v p r X (hu.keep bX) (hv.keep bX) hs
  unfold Pv.val at hC ⊢
  have BX := hide bX
  have hz := isCmp_D.eq p r
  clear bX x8 x9 hu hv hs
  by_cases hpr : p = r
  · rw [hz.2 hpr] at hC
    rw [decide_eq_true hpr]
    clear hz hpr
    go_enter Tryz.func128, Tryz.ntmps128
    go_wp2_with (go_at_call 20; refine hC.mono ?_; rintro e w1 ⟨rfl, b1⟩; have B1 := hide b1; clear b1)
    go_ret
    exact ⟨rfl, below_sub (unhide BX) (unhide B1)⟩
  · obtain ⟨z, hzz⟩ : ∃ z, cmpD p r = z := ⟨_, rfl⟩
    rw [hzz] at hC hz
    have h0 : (z == 0) = false := by rw [beq_eq_false_iff_ne]; exact fun e => hpr (hz.1 e)
    rw [decide_eq_false hpr]
    clear hz hpr hzz
    go_enter Tryz.func128, Tryz.ntmps128
    go_wp2_with (go_at_call 20; refine hC.mono ?_; rintro e w1 ⟨rfl, b1⟩; have B1 := hide b1; clear b1)
    go_ret
    exact ⟨rfl, below_sub (unhide BX) (unhide B1)⟩
def isNorm (p : Pd) : Bool := decide (normD p = some p)
/-- conj.normal. -/
theorem isNorm_any (u : Pv) (p : Pd) (w : World) (hu : PdIn w u p) (hs : p.small) : Calls Tryz.prog 129 #[u.val] w fun e w' => e = .returned (.bool (isNorm p)) ∧ Below w.heap.size w w' := by
  obtain ⟨X, HX, bX, x8⟩ := one_box w u
  obtain ⟨a0, a1, a2, a3, a4, a5⟩ := of6C x8
  have lX : w.heap.size < X.heap.size := (Array.getElem?_eq_some_iff.1 x8).1
  have hN := normal_any u p X (hu.keep bX) hs
  unfold Pv.val at hN ⊢
  have BX := hide bX
  have X8 := hide x8
  have HU := hide (hu.keep bX)
  have HS := hide hs
  clear bX x8 hu hs
  cases hn : normD p with
  | none =>
    rw [hn] at hN
    have HR := hide (show isNorm p = false by unfold isNorm; rw [hn]; simp)
    clear hn
    go_enter Tryz.func129, Tryz.ntmps129
    go_wp2_with (go_at_call 16; refine hN.mono ?_; rintro e w1 ⟨⟨r, rfl, ho⟩, b1⟩; have B1 := hide b1; clear b1 ho)
    go_ret
    exact ⟨ret_bool (unhide HR).symm, below_sub (unhide BX) (below_sub (unhide B1) ((Below.refl _ _).alloc (Nat.le_refl _) _))⟩
  | some m =>
    rw [hn] at hN
    have HR := hide (show isNorm p = decide (m = p) by unfold isNorm; rw [hn]; simp)
    have HM := hide (gd_norm (unhide HS) hn)
    clear hn
    go_enter Tryz.func129, Tryz.ntmps129
    go_upto_region 2 with (go_at_call 16; refine hN.mono ?_; rintro e w1 ⟨⟨r, rfl, ho⟩, b1⟩; have B1 := hide b1; have O1 := hide ho; clear b1 ho)
    obtain ⟨Y, HY⟩ : ∃ Y, w1.alloc (.cells #[.int .i64 r.kind, .string r.attr, .slice r.qi r.ni r.ci, .slice r.qw r.nw r.cw, .int .i64 r.lo, .int .i64 r.hi] 26) = Y := ⟨_, rfl⟩
    rw [HY]
    have y8 : Y.heap[w1.heap.size]? = some (.cells #[.int .i64 r.kind, .string r.attr, .slice r.qi r.ni r.ci, .slice r.qw r.nw r.cw, .int .i64 r.lo, .int .i64 r.hi] 26 (0, 0)) := by rw [← HY]; exact World.alloc_heap_new _ _
    have bY : Below w1.heap.size w1 Y := by rw [← HY]; exact (Below.refl _ _).alloc (Nat.le_refl _) _
    have hC := sameD r u m p Y ((unhide O1).below bY).1 ((unhide HU).keep (below_sub (unhide B1) bY)) ⟨(unhide HM).1.2.2.1, (unhide HM).1.2.2.2.1⟩
    unfold Pv.val at hC
    obtain ⟨f0, f1, f2, f3, f4, f5⟩ := of6C y8
    clear a0 a1 a2 a3 a4 a5
    obtain ⟨a0, a1, a2, a3, a4, a5⟩ := of6C (((below_sub (unhide B1) bY).block _ lX).trans (unhide X8))
    have BY := hide (below_sub (unhide BX) (below_sub (unhide B1) bY))
    obtain ⟨z, hz⟩ : ∃ z, decide (m = p) = z := ⟨_, rfl⟩
    rw [hz] at hC HR
    clear y8 bY HY hN hz
    go_wp2_with (go_at_call 128; refine hC.mono ?_; rintro e w2 ⟨rfl, b2⟩; have B2 := hide b2; clear b2)
    go_ret
    exact ⟨ret_bool (by rw [unhide HR]), below_sub (unhide BY) (unhide B2)⟩
def risAt (ord : Pd → Pd → Int) (l : List Pd) (k : Nat) : Bool := isNorm l[k]! && (decide (k = 0) || decide (ord l[k - 1]! l[k]! < 0))
def risB (ord : Pd → Pd → Int) (l : List Pd) : Bool := (List.range l.length).all (risAt ord l)
theorem getB {l : List Pd} {k : Nat} {p : Pd} (h : l[k]? = some p) : l[k]! = p := by
  rw [List.getElem!_eq_getElem?_getD, h]; rfl
theorem risB_no {ord : Pd → Pd → Int} {l : List Pd} {k : Nat} (hk : k < l.length) (h : risAt ord l k = false) : risB ord l = false := List.all_eq_false.2 ⟨k, List.mem_range.2 hk, by rw [h]; simp⟩
theorem risB_yes {ord : Pd → Pd → Int} {l : List Pd} (h : ∀ t, t < l.length → risAt ord l t = true) : risB ord l = true := List.all_eq_true.2 fun t ht => h t (List.mem_range.1 ht)
def cmpA (p r : Pd) : Int := cmpB p.attr r.attr
end Go.Proofs.YtimklglliffpcaaGreat
namespace Go.Proofs.YtimklglliffpcaaGreat
open Go.RowKit Go.Sort Go.Shelf

set_option maxHeartbeats 4000000 in
set_option maxRecDepth 100000 in
/-- conj.rising by attr. -/
theorem rising_attr (q : Option Addr) (c : Nat) (l : List Pd) (w : World) (h : PdsOf w q c l) (hs : Small l) (hl : l.length ≤ 100000000) :
    Calls Tryz.prog 79 #[.slice q l.length c, .func (.func 68) #[] #[]] w fun e w' => e = .returned (.bool (risB cmpA l)) ∧ Below w.heap.size w w' := by
  have mixed : Tryz.prog.follows .mixedOrders = true := by kernel_rfl
  have en129 : ∀ args w, (callFunc 129 args).run Tryz.prog w = .ok (.enter 129 args) w := enters_of Tryz.func129 (by kernel_rfl) rfl
  have en68 : ∀ args w, (callFunc 68 args).run Tryz.prog w = .ok (.enter 68 args) w := enters_of Tryz.func68 (by kernel_rfl) rfl
  have i9 : (l.length : Int) ≤ 100000000 := by omega
  have HH := hide h
  have HS := hide hs
  clear h hs
  go_enter Tryz.func79, Tryz.ntmps79
  go_wp2
  go_loopw [9] (fun iv wr => ∃ k : Nat, k ≤ l.length ∧ iv = .int .i64 k ∧ Hid (∀ t, t < k → risAt cmpA l t = true) ∧ Hid (Below w.heap.size w wr)) (fun iv _ => l.length - (intOf iv).toNat)
  case atStart => exact ⟨0, Nat.zero_le _, rfl, hide (fun t ht => absurd ht (by omega)), hide (Below.refl _ _)⟩
  case round =>
    obtain ⟨k, hk, rfl, HA, HB⟩ := hrel
    by_cases hlt : k < l.length
    · obtain ⟨p, hp, _⟩ := get_at hlt
      obtain ⟨b, off, u, hq, hb, hu, c0, c1, c2, c3, c4, c5⟩ := (unhide HH).at hp
      subst hq
      have g0 := ((unhide HB).cell (p := ⟨b, _, none⟩) hb).trans c0
      have g1 := ((unhide HB).cell (p := ⟨b, _, none⟩) hb).trans c1
      have g2 := ((unhide HB).cell (p := ⟨b, _, none⟩) hb).trans c2
      have g3 := ((unhide HB).cell (p := ⟨b, _, none⟩) hb).trans c3
      have g4 := ((unhide HB).cell (p := ⟨b, _, none⟩) hb).trans c4
      have g5 := ((unhide HB).cell (p := ⟨b, _, none⟩) hb).trans c5
      have k0 : (0 : Int) ≤ (k : Int) := by omega
      have k1 : (k : Int) < (l.length : Int) := by omega
      obtain ⟨W1, HW1⟩ : ∃ W1, wr.alloc (.cells #[.int .i64 u.kind, .string u.attr, .slice u.qi u.ni u.ci, .slice u.qw u.nw u.cw, .int .i64 u.lo, .int .i64 u.hi] 26) = W1 := ⟨_, rfl⟩
      have b1 : Below wr.heap.size wr W1 := by rw [← HW1]; exact (Below.refl _ _).alloc (Nat.le_refl _) _
      have w8 : W1.heap[wr.heap.size]? = some (.cells #[.int .i64 u.kind, .string u.attr, .slice u.qi u.ni u.ci, .slice u.qw u.nw u.cw, .int .i64 u.lo, .int .i64 u.hi] 26 (0, 0)) := by rw [← HW1]; exact World.alloc_heap_new _ _
      have lW : wr.heap.size < W1.heap.size := (Array.getElem?_eq_some_iff.1 w8).1
      obtain ⟨e0, e1, e2, e3, e4, e5⟩ := of6C w8
      have e0r := cell_regrownC e0
      have e1r := cell_regrownC e1
      have e2r := cell_regrownC e2
      have e3r := cell_regrownC e3
      have e4r := cell_regrownC e4
      have e5r := cell_regrownC e5
      have BW1 := hide b1
      have hPI : ∀ n os, PdIn (grow (redrawn W1 n) os) u p := fun n os => hu.keep (below_sub (unhide HB) (below_sub b1 (below_regrown W1 n os)))
      have hN := fun n os => isNorm_any u p (grow (redrawn W1 n) os) (hPI n os) (unhide HS p (List.mem_of_getElem? hp))
      unfold Pv.val at hN
      have HX := hide hp
      clear c0 c1 c2 c3 c4 c5 w8 b1
      cases hn : isNorm p with
      | false =>
        rw [hn] at hN
        have HR := hide (show false = risB cmpA l from (risB_no hlt (by unfold risAt; rw [getB (unhide HX), hn]; rfl)).symm)
        clear hn hPI
        go_wp2
        skip
        clear HW1 g0 g1 g2 g3 g4 g5
        refine wp_region_quiet_below (by assumption) (by kernel_rfl) ?_
        repeat (go_big_quiet_step (first | (go_at_fn 129; refine Calls.regrown_of (hN _ _))))
        refine wpQuiet_nil ?_
        intro _ hw'
        obtain ⟨⟨dq, osq⟩, hw''⟩ := hw'
        subst hw''
        go_wp2
        go_ret
        exact ⟨ret_bool (unhide HR), unhide (hide (below_sub (unhide HB) (below_sub (unhide BW1) (below_regrown W1 dq osq))))⟩
      | true =>
        rw [hn] at hN
        by_cases hz : k = 0
        · subst hz
          simp only [Nat.zero_mul, Nat.add_zero] at g0 g1 g2 g3 g4 g5
          have HT := hide (show risAt cmpA l 0 = true by unfold risAt; rw [getB (unhide HX), hn]; rfl)
          clear hn hPI
          go_wp2
          skip
          clear HW1 g0 g1 g2 g3 g4 g5
          refine wp_region_quiet_below (by assumption) (by kernel_rfl) ?_
          repeat (go_big_quiet_step (first | (go_at_fn 129; refine Calls.regrown_of (hN _ _))))
          refine wpQuiet_nil ?_
          intro _ hw'
          obtain ⟨⟨dq, osq⟩, hw''⟩ := hw'
          subst hw''
          have BF := hide (below_sub (unhide HB) (below_sub (unhide BW1) (below_regrown W1 dq osq)))
          generalize grow (redrawn W1 dq) osq = V4 at BF ⊢
          go_wp2
          go_roundw
          case rel => exact ⟨1, by omega, rfl, hide (fun t ht => by obtain rfl : t = 0 := (by omega); exact unhide HT), BF⟩
          case measure => simp [intOf]; omega
        · obtain ⟨j, rfl⟩ : ∃ j, k = j + 1 := ⟨k - 1, by omega⟩
          obtain ⟨r, hr, _⟩ := get_at (l := l) (k := j) (by omega)
          obtain ⟨b', off', v, hq', hb', hv, d0, d1, d2, d3, d4, d5⟩ := (unhide HH).at hr
          cases hq'
          have m0 := cell_regrownC ((below_sub (unhide HB) (unhide BW1)).cell (p := ⟨b, _, none⟩) hb |>.trans d0)
          have m1 := cell_regrownC ((below_sub (unhide HB) (unhide BW1)).cell (p := ⟨b, _, none⟩) hb |>.trans d1)
          have m2 := cell_regrownC ((below_sub (unhide HB) (unhide BW1)).cell (p := ⟨b, _, none⟩) hb |>.trans d2)
          have m3 := cell_regrownC ((below_sub (unhide HB) (unhide BW1)).cell (p := ⟨b, _, none⟩) hb |>.trans d3)
          have m4 := cell_regrownC ((below_sub (unhide HB) (unhide BW1)).cell (p := ⟨b, _, none⟩) hb |>.trans d4)
          have m5 := cell_regrownC ((below_sub (unhide HB) (unhide BW1)).cell (p := ⟨b, _, none⟩) hb |>.trans d5)
          have j0 : (0 : Int) ≤ (j : Int) := by omega
          have j1 : (j : Int) < (l.length : Int) := by omega
          have j2 : (j : Int) ≤ 100000000 := by omega
          have j3 : (0 : Int) < (j : Int) + 1 := by omega
          have hO := fun n os => byAttr_any v u (grow (redrawn W1 n) os)
          unfold Pv.val at hO
          have HY := hide hr
          have hat : risAt cmpA l (j + 1) = decide (cmpA r p < 0) := by
            unfold risAt
            rw [getB (unhide HX), hn, Nat.add_sub_cancel, getB (unhide HY)]
            simp
          obtain ⟨z, hzz⟩ : ∃ z, cmpA r p = z := ⟨_, rfl⟩
          rw [hzz] at hat
          have hO' := hO
          have hzA : cmpB v.attr u.attr = z := (by rw [hv.2.1, hu.2.1]; exact hzz)
          simp only [hzA] at hO
          clear hO'
          by_cases hc : 0 ≤ z
          · have HR := hide (show false = risB cmpA l from (risB_no hlt (by rw [hat]; simp; omega)).symm)
            clear hn hPI d0 d1 d2 d3 d4 d5 hat hzz
            go_wp2
            skip
            clear HW1 g0 g1 g2 g3 g4 g5
            refine wp_region_quiet_below (by assumption) (by kernel_rfl) ?_
            repeat (go_big_quiet_step (first | (go_at_fn 129; refine Calls.regrown_of (hN _ _)) | (go_at_fn 68; refine Calls.regrown_of (hO _ _))))
            refine wpQuiet_nil ?_
            intro _ hw'
            obtain ⟨⟨dq, osq⟩, hw''⟩ := hw'
            subst hw''
            go_wp2
            go_ret
            exact ⟨ret_bool (unhide HR), unhide (hide (below_sub (unhide HB) (below_sub (unhide BW1) (below_regrown W1 dq osq))))⟩
          · have HT := hide (show risAt cmpA l (j + 1) = true by rw [hat]; simp; omega)
            clear hn hPI d0 d1 d2 d3 d4 d5 hat hzz
            go_wp2
            skip
            clear HW1 g0 g1 g2 g3 g4 g5
            refine wp_region_quiet_below (by assumption) (by kernel_rfl) ?_
            repeat (go_big_quiet_step (first | (go_at_fn 129; refine Calls.regrown_of (hN _ _)) | (go_at_fn 68; refine Calls.regrown_of (hO _ _))))
            refine wpQuiet_nil ?_
            intro _ hw'
            obtain ⟨⟨dq, osq⟩, hw''⟩ := hw'
            subst hw''
            have BF := hide (below_sub (unhide HB) (below_sub (unhide BW1) (below_regrown W1 dq osq)))
            generalize grow (redrawn W1 dq) osq = V4 at BF ⊢
            go_wp2
            go_roundw
            case rel => exact ⟨j + 1 + 1, by omega, by go_num, hide (fun t ht => by
              by_cases e : t = j + 1
              · rw [e]; exact unhide HT
              · exact unhide HA t (by omega)), BF⟩
            case measure => simp [intOf]; omega
    · have k1 : ¬ (k : Int) < (l.length : Int) := by omega
      have HR := hide (show true = risB cmpA l from (risB_yes (fun t ht => unhide HA t (by omega))).symm)
      go_wp2
      go_ret
      exact ⟨ret_bool (unhide HR), unhide HB⟩
set_option maxHeartbeats 4000000 in
set_option maxRecDepth 100000 in
/-- conj.rising by pred. -/
theorem rising_pred (q : Option Addr) (c : Nat) (l : List Pd) (w : World) (h : PdsOf w q c l) (hs : Small l) (hl : l.length ≤ 100000000) :
    Calls Tryz.prog 79 #[.slice q l.length c, .func (.func 20) #[] #[]] w fun e w' => e = .returned (.bool (risB cmpD l)) ∧ Below w.heap.size w w' := by
  have mixed : Tryz.prog.follows .mixedOrders = true := by kernel_rfl
  have en129 : ∀ args w, (callFunc 129 args).run Tryz.prog w = .ok (.enter 129 args) w := enters_of Tryz.func129 (by kernel_rfl) rfl
  have en20 : ∀ args w, (callFunc 20 args).run Tryz.prog w = .ok (.enter 20 args) w := enters_of Tryz.func20 (by kernel_rfl) rfl
  have i9 : (l.length : Int) ≤ 100000000 := by omega
  have HH := hide h
  have HS := hide hs
  clear h hs
  go_enter Tryz.func79, Tryz.ntmps79
  go_wp2
  go_loopw [9] (fun iv wr => ∃ k : Nat, k ≤ l.length ∧ iv = .int .i64 k ∧ Hid (∀ t, t < k → risAt cmpD l t = true) ∧ Hid (Below w.heap.size w wr)) (fun iv _ => l.length - (intOf iv).toNat)
  case atStart => exact ⟨0, Nat.zero_le _, rfl, hide (fun t ht => absurd ht (by omega)), hide (Below.refl _ _)⟩
  case round =>
    obtain ⟨k, hk, rfl, HA, HB⟩ := hrel
    by_cases hlt : k < l.length
    · obtain ⟨p, hp, _⟩ := get_at hlt
      obtain ⟨b, off, u, hq, hb, hu, c0, c1, c2, c3, c4, c5⟩ := (unhide HH).at hp
      subst hq
      have g0 := ((unhide HB).cell (p := ⟨b, _, none⟩) hb).trans c0
      have g1 := ((unhide HB).cell (p := ⟨b, _, none⟩) hb).trans c1
      have g2 := ((unhide HB).cell (p := ⟨b, _, none⟩) hb).trans c2
      have g3 := ((unhide HB).cell (p := ⟨b, _, none⟩) hb).trans c3
      have g4 := ((unhide HB).cell (p := ⟨b, _, none⟩) hb).trans c4
      have g5 := ((unhide HB).cell (p := ⟨b, _, none⟩) hb).trans c5
      have k0 : (0 : Int) ≤ (k : Int) := by omega
      have k1 : (k : Int) < (l.length : Int) := by omega
      obtain ⟨W1, HW1⟩ : ∃ W1, wr.alloc (.cells #[.int .i64 u.kind, .string u.attr, .slice u.qi u.ni u.ci, .slice u.qw u.nw u.cw, .int .i64 u.lo, .int .i64 u.hi] 26) = W1 := ⟨_, rfl⟩
      have b1 : Below wr.heap.size wr W1 := by rw [← HW1]; exact (Below.refl _ _).alloc (Nat.le_refl _) _
      have w8 : W1.heap[wr.heap.size]? = some (.cells #[.int .i64 u.kind, .string u.attr, .slice u.qi u.ni u.ci, .slice u.qw u.nw u.cw, .int .i64 u.lo, .int .i64 u.hi] 26 (0, 0)) := by rw [← HW1]; exact World.alloc_heap_new _ _
      have lW : wr.heap.size < W1.heap.size := (Array.getElem?_eq_some_iff.1 w8).1
      obtain ⟨e0, e1, e2, e3, e4, e5⟩ := of6C w8
      have e0r := cell_regrownC e0
      have e1r := cell_regrownC e1
      have e2r := cell_regrownC e2
      have e3r := cell_regrownC e3
      have e4r := cell_regrownC e4
      have e5r := cell_regrownC e5
      have BW1 := hide b1
      have hPI : ∀ n os, PdIn (grow (redrawn W1 n) os) u p := fun n os => hu.keep (below_sub (unhide HB) (below_sub b1 (below_regrown W1 n os)))
      have hN := fun n os => isNorm_any u p (grow (redrawn W1 n) os) (hPI n os) (unhide HS p (List.mem_of_getElem? hp))
      unfold Pv.val at hN
      have HX := hide hp
      clear c0 c1 c2 c3 c4 c5 w8 b1
      cases hn : isNorm p with
      | false =>
        rw [hn] at hN
        have HR := hide (show false = risB cmpD l from (risB_no hlt (by unfold risAt; rw [getB (unhide HX), hn]; rfl)).symm)
        clear hn hPI
        go_wp2
        skip
        clear HW1 g0 g1 g2 g3 g4 g5
        refine wp_region_quiet_below (by assumption) (by kernel_rfl) ?_
        repeat (go_big_quiet_step (first | (go_at_fn 129; refine Calls.regrown_of (hN _ _))))
        refine wpQuiet_nil ?_
        intro _ hw'
        obtain ⟨⟨dq, osq⟩, hw''⟩ := hw'
        subst hw''
        go_wp2
        go_ret
        exact ⟨ret_bool (unhide HR), unhide (hide (below_sub (unhide HB) (below_sub (unhide BW1) (below_regrown W1 dq osq))))⟩
      | true =>
        rw [hn] at hN
        by_cases hz : k = 0
        · subst hz
          simp only [Nat.zero_mul, Nat.add_zero] at g0 g1 g2 g3 g4 g5
          have HT := hide (show risAt cmpD l 0 = true by unfold risAt; rw [getB (unhide HX), hn]; rfl)
          clear hn hPI
          go_wp2
          skip
          clear HW1 g0 g1 g2 g3 g4 g5
          refine wp_region_quiet_below (by assumption) (by kernel_rfl) ?_
          repeat (go_big_quiet_step (first | (go_at_fn 129; refine Calls.regrown_of (hN _ _))))
          refine wpQuiet_nil ?_
          intro _ hw'
          obtain ⟨⟨dq, osq⟩, hw''⟩ := hw'
          subst hw''
          have BF := hide (below_sub (unhide HB) (below_sub (unhide BW1) (below_regrown W1 dq osq)))
          generalize grow (redrawn W1 dq) osq = V4 at BF ⊢
          go_wp2
          go_roundw
          case rel => exact ⟨1, by omega, rfl, hide (fun t ht => by obtain rfl : t = 0 := (by omega); exact unhide HT), BF⟩
          case measure => simp [intOf]; omega
        · obtain ⟨j, rfl⟩ : ∃ j, k = j + 1 := ⟨k - 1, by omega⟩
          obtain ⟨r, hr, _⟩ := get_at (l := l) (k := j) (by omega)
          obtain ⟨b', off', v, hq', hb', hv, d0, d1, d2, d3, d4, d5⟩ := (unhide HH).at hr
          cases hq'
          have m0 := cell_regrownC ((below_sub (unhide HB) (unhide BW1)).cell (p := ⟨b, _, none⟩) hb |>.trans d0)
          have m1 := cell_regrownC ((below_sub (unhide HB) (unhide BW1)).cell (p := ⟨b, _, none⟩) hb |>.trans d1)
          have m2 := cell_regrownC ((below_sub (unhide HB) (unhide BW1)).cell (p := ⟨b, _, none⟩) hb |>.trans d2)
          have m3 := cell_regrownC ((below_sub (unhide HB) (unhide BW1)).cell (p := ⟨b, _, none⟩) hb |>.trans d3)
          have m4 := cell_regrownC ((below_sub (unhide HB) (unhide BW1)).cell (p := ⟨b, _, none⟩) hb |>.trans d4)
          have m5 := cell_regrownC ((below_sub (unhide HB) (unhide BW1)).cell (p := ⟨b, _, none⟩) hb |>.trans d5)
          have j0 : (0 : Int) ≤ (j : Int) := by omega
          have j1 : (j : Int) < (l.length : Int) := by omega
          have j2 : (j : Int) ≤ 100000000 := by omega
          have j3 : (0 : Int) < (j : Int) + 1 := by omega
          have hO := fun n os => compareD v u r p (grow (redrawn W1 n) os) (hv.keep (below_sub (unhide HB) (below_sub (unhide BW1) (below_regrown W1 n os)))) (hPI n os) (unhide HS r (List.mem_of_getElem? hr))
          unfold Pv.val at hO
          have HY := hide hr
          have hat : risAt cmpD l (j + 1) = decide (cmpD r p < 0) := by
            unfold risAt
            rw [getB (unhide HX), hn, Nat.add_sub_cancel, getB (unhide HY)]
            simp
          obtain ⟨z, hzz⟩ : ∃ z, cmpD r p = z := ⟨_, rfl⟩
          rw [hzz] at hat
          have hO' := hO
          skip
          simp only [hzz] at hO
          clear hO'
          by_cases hc : 0 ≤ z
          · have HR := hide (show false = risB cmpD l from (risB_no hlt (by rw [hat]; simp; omega)).symm)
            clear hn hPI d0 d1 d2 d3 d4 d5 hat hzz
            go_wp2
            skip
            clear HW1 g0 g1 g2 g3 g4 g5
            refine wp_region_quiet_below (by assumption) (by kernel_rfl) ?_
            repeat (go_big_quiet_step (first | (go_at_fn 129; refine Calls.regrown_of (hN _ _)) | (go_at_fn 20; refine Calls.regrown_of (hO _ _))))
            refine wpQuiet_nil ?_
            intro _ hw'
            obtain ⟨⟨dq, osq⟩, hw''⟩ := hw'
            subst hw''
            go_wp2
            go_ret
            exact ⟨ret_bool (unhide HR), unhide (hide (below_sub (unhide HB) (below_sub (unhide BW1) (below_regrown W1 dq osq))))⟩
          · have HT := hide (show risAt cmpD l (j + 1) = true by rw [hat]; simp; omega)
            clear hn hPI d0 d1 d2 d3 d4 d5 hat hzz
            go_wp2
            skip
            clear HW1 g0 g1 g2 g3 g4 g5
            refine wp_region_quiet_below (by assumption) (by kernel_rfl) ?_
            repeat (go_big_quiet_step (first | (go_at_fn 129; refine Calls.regrown_of (hN _ _)) | (go_at_fn 20; refine Calls.regrown_of (hO _ _))))
            refine wpQuiet_nil ?_
            intro _ hw'
            obtain ⟨⟨dq, osq⟩, hw''⟩ := hw'
            subst hw''
            have BF := hide (below_sub (unhide HB) (below_sub (unhide BW1) (below_regrown W1 dq osq)))
            generalize grow (redrawn W1 dq) osq = V4 at BF ⊢
            go_wp2
            go_roundw
            case rel => exact ⟨j + 1 + 1, by omega, by go_num, hide (fun t ht => by
              by_cases e : t = j + 1
              · rw [e]; exact unhide HT
              · exact unhide HA t (by omega)), BF⟩
            case measure => simp [intOf]; omega
    · have k1 : ¬ (k : Int) < (l.length : Int) := by omega
      have HR := hide (show true = risB cmpD l from (risB_yes (fun t ht => unhide HA t (by omega))).symm)
      go_wp2
      go_ret
      exact ⟨ret_bool (unhide HR), unhide HB⟩
end Go.Proofs.YtimklglliffpcaaGreat
namespace Go.Proofs.YtimklglliffpcaaGreat
open Go.RowKit Go.Sort Go.Shelf

def goodC (nv : Bool) (lp ln : List Pd) : Bool := if nv then (lp.length == 0 && ln.length == 0) else risB cmpA lp && risB cmpD ln
def errC (nv : Bool) (lp ln : List Pd) : Int := if goodC nv lp ln then 0 else 1
theorem of3C {w : World} {M : Nat} {a0 a1 a2 : Value} {T : TypeId} (h : w.heap[M]? = some (.cells #[a0, a1, a2] T (0, 0))) : w.cell? ⟨M, 0, none⟩ = some a0 ∧ w.cell? ⟨M, 1, none⟩ = some a1 ∧ w.cell? ⟨M, 2, none⟩ = some a2 := by
  unfold World.cell?
  simp [h]
theorem box3 (w : World) (a0 a1 a2 : Value) (T : TypeId) : ∃ X, w.alloc (.cells #[a0, a1, a2] T) = X ∧ Below w.heap.size w X ∧ X.heap[w.heap.size]? = some (.cells #[a0, a1, a2] T (0, 0)) :=
  ⟨_, rfl, (Below.refl _ _).alloc (Nat.le_refl _) _, World.alloc_heap_new _ _⟩
/-- conj.Count. -/
theorem ccount_any (nv : Bool) (qp qn : Option Addr) (cp cn : Nat) (np nn : Nat) (w : World) :
    Calls Tryz.prog 30 #[.agg #[.bool nv, .slice qp np cp, .slice qn nn cn]] w fun e w' => e = .returned (.int .i64 np) ∧ Below w.heap.size w w' := by
  obtain ⟨X, HX, bX, x8⟩ := box3 w (.bool nv) (.slice qp np cp) (.slice qn nn cn) 39
  obtain ⟨x0, x1, x2⟩ := of3C x8
  have BX := hide bX
  clear bX x8
  go_enter Tryz.func30, Tryz.ntmps30
  go_wp2
  go_ret
  exact ⟨rfl, unhide BX⟩
set_option maxHeartbeats 4000000 in
set_option maxRecDepth 100000 in
/-- conj.Check. -/
theorem ccheck_any (nv : Bool) (qp qn : Option Addr) (cp cn : Nat) (lp ln : List Pd) (w : World) (hp : PdsOf w qp cp lp) (hn : PdsOf w qn cn ln) (sp : Small lp) (sn : Small ln) (ip : lp.length ≤ 100000000) (iN : ln.length ≤ 100000000) :
    Calls Tryz.prog 29 #[.agg #[.bool nv, .slice qp lp.length cp, .slice qn ln.length cn]] w fun e w' => e = .returned (.int .i64 (errC nv lp ln)) ∧ Below w.heap.size w w' := by
  obtain ⟨X, HX, bX, x8⟩ := box3 w (.bool nv) (.slice qp lp.length cp) (.slice qn ln.length cn) 39
  obtain ⟨x0, x1, x2⟩ := of3C x8
  have lX : w.heap.size < X.heap.size := (Array.getElem?_eq_some_iff.1 x8).1
  have hA := rising_attr qp cp lp X (hp.below bX) sp ip
  have hB : ∀ w1, Below X.heap.size X w1 → _ := fun w1 b1 => rising_pred qn cn ln w1 (hn.below (below_sub bX b1)) sn iN
  have BX := hide bX
  clear bX x8 hp hn sp sn
  cases nv with
  | true =>
    by_cases zp : lp.length = 0
    · have zpd : (lp.length == 0) = true := by simp [zp]
      have zpi : ((lp.length : Int) == 0) = true := by simp [zp]
      by_cases zn : ln.length = 0
      · have znd : (ln.length == 0) = true := by simp [zn]
        have zni : ((ln.length : Int) == 0) = true := by simp [zn]
        have HG := hide (show 0 = errC true lp ln by simp [errC, goodC, zpd, znd])
        clear zpd znd zp zn hA hB
        go_enter Tryz.func29, Tryz.ntmps29
        go_wp2
        go_ret
        exact ⟨ret_int (unhide HG), unhide BX⟩

      · have znd : (ln.length == 0) = false := by simp [zn]
        have zni : ((ln.length : Int) == 0) = false := by simp [zn]
        have HG := hide (show 1 = errC true lp ln by simp [errC, goodC, zpd, znd])
        clear zpd znd zp zn hA hB
        go_enter Tryz.func29, Tryz.ntmps29
        go_wp2
        go_ret
        exact ⟨ret_int (unhide HG), unhide BX⟩


    · have zpd : (lp.length == 0) = false := by simp [zp]
      have zpi : ((lp.length : Int) == 0) = false := by simp [zp]
      by_cases zn : ln.length = 0
      · have znd : (ln.length == 0) = true := by simp [zn]
        have zni : ((ln.length : Int) == 0) = true := by simp [zn]
        have HG := hide (show 1 = errC true lp ln by simp [errC, goodC, zpd])
        clear zpd znd zp zn hA hB
        go_enter Tryz.func29, Tryz.ntmps29
        go_wp2
        go_ret
        exact ⟨ret_int (unhide HG), unhide BX⟩

      · have znd : (ln.length == 0) = false := by simp [zn]
        have zni : ((ln.length : Int) == 0) = false := by simp [zn]
        have HG := hide (show 1 = errC true lp ln by simp [errC, goodC, zpd])
        clear zpd znd zp zn hA hB
        go_enter Tryz.func29, Tryz.ntmps29
        go_wp2
        go_ret
        exact ⟨ret_int (unhide HG), unhide BX⟩



  | false =>
    obtain ⟨a, ha⟩ : ∃ a, risB cmpA lp = a := ⟨_, rfl⟩
    obtain ⟨b, hb⟩ : ∃ b, risB cmpD ln = b := ⟨_, rfl⟩
    rw [ha] at hA
    simp only [hb] at hB
    by_cases zp : lp.length = 0
    · have zpd : (lp.length == 0) = true := by simp [zp]
      have zpi : ((lp.length : Int) == 0) = true := by simp [zp]
      by_cases zn : ln.length = 0
      · have znd : (ln.length == 0) = true := by simp [zn]
        have zni : ((ln.length : Int) == 0) = true := by simp [zn]
        cases a with
        | false =>
          cases b with
          | false =>
            have HG := hide (show 1 = errC false lp ln by simp [errC, goodC, ha, hb])
            clear zpd znd zp zn ha hb
            go_enter Tryz.func29, Tryz.ntmps29
            go_wp2_with (go_at_call 79; first | (refine hA.mono ?_; rintro e w1 ⟨rfl, b1⟩; have n2 := (b1.cell (p := ⟨w.heap.size, 2, none⟩) lX).trans x2; have hB' := hB w1 b1; have B1 := hide b1; clear b1 hA hB) | (refine hB'.mono ?_; rintro e w2 ⟨rfl, b2⟩; have B2 := hide b2; clear b2))
            go_ret
            exact ⟨ret_int (unhide HG), below_sub (unhide BX) (unhide B1)⟩

          | true =>
            have HG := hide (show 1 = errC false lp ln by simp [errC, goodC, ha, hb])
            clear zpd znd zp zn ha hb
            go_enter Tryz.func29, Tryz.ntmps29
            go_wp2_with (go_at_call 79; first | (refine hA.mono ?_; rintro e w1 ⟨rfl, b1⟩; have n2 := (b1.cell (p := ⟨w.heap.size, 2, none⟩) lX).trans x2; have hB' := hB w1 b1; have B1 := hide b1; clear b1 hA hB) | (refine hB'.mono ?_; rintro e w2 ⟨rfl, b2⟩; have B2 := hide b2; clear b2))
            go_ret
            exact ⟨ret_int (unhide HG), below_sub (unhide BX) (unhide B1)⟩


        | true =>
          cases b with
          | false =>
            have HG := hide (show 1 = errC false lp ln by simp [errC, goodC, ha, hb])
            clear zpd znd zp zn ha hb
            go_enter Tryz.func29, Tryz.ntmps29
            go_wp2_with (go_at_call 79; first | (refine hA.mono ?_; rintro e w1 ⟨rfl, b1⟩; have n2 := (b1.cell (p := ⟨w.heap.size, 2, none⟩) lX).trans x2; have hB' := hB w1 b1; have B1 := hide b1; clear b1 hA hB) | (refine hB'.mono ?_; rintro e w2 ⟨rfl, b2⟩; have B2 := hide b2; clear b2))
            go_ret
            exact ⟨ret_int (unhide HG), below_sub (unhide BX) (below_sub (unhide B1) (unhide B2))⟩

          | true =>
            have HG := hide (show 0 = errC false lp ln by simp [errC, goodC, ha, hb])
            clear zpd znd zp zn ha hb
            go_enter Tryz.func29, Tryz.ntmps29
            go_wp2_with (go_at_call 79; first | (refine hA.mono ?_; rintro e w1 ⟨rfl, b1⟩; have n2 := (b1.cell (p := ⟨w.heap.size, 2, none⟩) lX).trans x2; have hB' := hB w1 b1; have B1 := hide b1; clear b1 hA hB) | (refine hB'.mono ?_; rintro e w2 ⟨rfl, b2⟩; have B2 := hide b2; clear b2))
            go_ret
            exact ⟨ret_int (unhide HG), below_sub (unhide BX) (below_sub (unhide B1) (unhide B2))⟩



      · have znd : (ln.length == 0) = false := by simp [zn]
        have zni : ((ln.length : Int) == 0) = false := by simp [zn]
        cases a with
        | false =>
          cases b with
          | false =>
            have HG := hide (show 1 = errC false lp ln by simp [errC, goodC, ha, hb])
            clear zpd znd zp zn ha hb
            go_enter Tryz.func29, Tryz.ntmps29
            go_wp2_with (go_at_call 79; first | (refine hA.mono ?_; rintro e w1 ⟨rfl, b1⟩; have n2 := (b1.cell (p := ⟨w.heap.size, 2, none⟩) lX).trans x2; have hB' := hB w1 b1; have B1 := hide b1; clear b1 hA hB) | (refine hB'.mono ?_; rintro e w2 ⟨rfl, b2⟩; have B2 := hide b2; clear b2))
            go_ret
            exact ⟨ret_int (unhide HG), below_sub (unhide BX) (unhide B1)⟩

          | true =>
            have HG := hide (show 1 = errC false lp ln by simp [errC, goodC, ha, hb])
            clear zpd znd zp zn ha hb
            go_enter Tryz.func29, Tryz.ntmps29
            go_wp2_with (go_at_call 79; first | (refine hA.mono ?_; rintro e w1 ⟨rfl, b1⟩; have n2 := (b1.cell (p := ⟨w.heap.size, 2, none⟩) lX).trans x2; have hB' := hB w1 b1; have B1 := hide b1; clear b1 hA hB) | (refine hB'.mono ?_; rintro e w2 ⟨rfl, b2⟩; have B2 := hide b2; clear b2))
            go_ret
            exact ⟨ret_int (unhide HG), below_sub (unhide BX) (unhide B1)⟩


        | true =>
          cases b with
          | false =>
            have HG := hide (show 1 = errC false lp ln by simp [errC, goodC, ha, hb])
            clear zpd znd zp zn ha hb
            go_enter Tryz.func29, Tryz.ntmps29
            go_wp2_with (go_at_call 79; first | (refine hA.mono ?_; rintro e w1 ⟨rfl, b1⟩; have n2 := (b1.cell (p := ⟨w.heap.size, 2, none⟩) lX).trans x2; have hB' := hB w1 b1; have B1 := hide b1; clear b1 hA hB) | (refine hB'.mono ?_; rintro e w2 ⟨rfl, b2⟩; have B2 := hide b2; clear b2))
            go_ret
            exact ⟨ret_int (unhide HG), below_sub (unhide BX) (below_sub (unhide B1) (unhide B2))⟩

          | true =>
            have HG := hide (show 0 = errC false lp ln by simp [errC, goodC, ha, hb])
            clear zpd znd zp zn ha hb
            go_enter Tryz.func29, Tryz.ntmps29
            go_wp2_with (go_at_call 79; first | (refine hA.mono ?_; rintro e w1 ⟨rfl, b1⟩; have n2 := (b1.cell (p := ⟨w.heap.size, 2, none⟩) lX).trans x2; have hB' := hB w1 b1; have B1 := hide b1; clear b1 hA hB) | (refine hB'.mono ?_; rintro e w2 ⟨rfl, b2⟩; have B2 := hide b2; clear b2))
            go_ret
            exact ⟨ret_int (unhide HG), below_sub (unhide BX) (below_sub (unhide B1) (unhide B2))⟩




    · have zpd : (lp.length == 0) = false := by simp [zp]
      have zpi : ((lp.length : Int) == 0) = false := by simp [zp]
      by_cases zn : ln.length = 0
      · have znd : (ln.length == 0) = true := by simp [zn]
        have zni : ((ln.length : Int) == 0) = true := by simp [zn]
        cases a with
        | false =>
          cases b with
          | false =>
            have HG := hide (show 1 = errC false lp ln by simp [errC, goodC, ha, hb])
            clear zpd znd zp zn ha hb
            go_enter Tryz.func29, Tryz.ntmps29
            go_wp2_with (go_at_call 79; first | (refine hA.mono ?_; rintro e w1 ⟨rfl, b1⟩; have n2 := (b1.cell (p := ⟨w.heap.size, 2, none⟩) lX).trans x2; have hB' := hB w1 b1; have B1 := hide b1; clear b1 hA hB) | (refine hB'.mono ?_; rintro e w2 ⟨rfl, b2⟩; have B2 := hide b2; clear b2))
            go_ret
            exact ⟨ret_int (unhide HG), below_sub (unhide BX) (unhide B1)⟩

          | true =>
            have HG := hide (show 1 = errC false lp ln by simp [errC, goodC, ha, hb])
            clear zpd znd zp zn ha hb
            go_enter Tryz.func29, Tryz.ntmps29
            go_wp2_with (go_at_call 79; first | (refine hA.mono ?_; rintro e w1 ⟨rfl, b1⟩; have n2 := (b1.cell (p := ⟨w.heap.size, 2, none⟩) lX).trans x2; have hB' := hB w1 b1; have B1 := hide b1; clear b1 hA hB) | (refine hB'.mono ?_; rintro e w2 ⟨rfl, b2⟩; have B2 := hide b2; clear b2))
            go_ret
            exact ⟨ret_int (unhide HG), below_sub (unhide BX) (unhide B1)⟩


        | true =>
          cases b with
          | false =>
            have HG := hide (show 1 = errC false lp ln by simp [errC, goodC, ha, hb])
            clear zpd znd zp zn ha hb
            go_enter Tryz.func29, Tryz.ntmps29
            go_wp2_with (go_at_call 79; first | (refine hA.mono ?_; rintro e w1 ⟨rfl, b1⟩; have n2 := (b1.cell (p := ⟨w.heap.size, 2, none⟩) lX).trans x2; have hB' := hB w1 b1; have B1 := hide b1; clear b1 hA hB) | (refine hB'.mono ?_; rintro e w2 ⟨rfl, b2⟩; have B2 := hide b2; clear b2))
            go_ret
            exact ⟨ret_int (unhide HG), below_sub (unhide BX) (below_sub (unhide B1) (unhide B2))⟩

          | true =>
            have HG := hide (show 0 = errC false lp ln by simp [errC, goodC, ha, hb])
            clear zpd znd zp zn ha hb
            go_enter Tryz.func29, Tryz.ntmps29
            go_wp2_with (go_at_call 79; first | (refine hA.mono ?_; rintro e w1 ⟨rfl, b1⟩; have n2 := (b1.cell (p := ⟨w.heap.size, 2, none⟩) lX).trans x2; have hB' := hB w1 b1; have B1 := hide b1; clear b1 hA hB) | (refine hB'.mono ?_; rintro e w2 ⟨rfl, b2⟩; have B2 := hide b2; clear b2))
            go_ret
            exact ⟨ret_int (unhide HG), below_sub (unhide BX) (below_sub (unhide B1) (unhide B2))⟩



      · have znd : (ln.length == 0) = false := by simp [zn]
        have zni : ((ln.length : Int) == 0) = false := by simp [zn]
        cases a with
        | false =>
          cases b with
          | false =>
            have HG := hide (show 1 = errC false lp ln by simp [errC, goodC, ha, hb])
            clear zpd znd zp zn ha hb
            go_enter Tryz.func29, Tryz.ntmps29
            go_wp2_with (go_at_call 79; first | (refine hA.mono ?_; rintro e w1 ⟨rfl, b1⟩; have n2 := (b1.cell (p := ⟨w.heap.size, 2, none⟩) lX).trans x2; have hB' := hB w1 b1; have B1 := hide b1; clear b1 hA hB) | (refine hB'.mono ?_; rintro e w2 ⟨rfl, b2⟩; have B2 := hide b2; clear b2))
            go_ret
            exact ⟨ret_int (unhide HG), below_sub (unhide BX) (unhide B1)⟩

          | true =>
            have HG := hide (show 1 = errC false lp ln by simp [errC, goodC, ha, hb])
            clear zpd znd zp zn ha hb
            go_enter Tryz.func29, Tryz.ntmps29
            go_wp2_with (go_at_call 79; first | (refine hA.mono ?_; rintro e w1 ⟨rfl, b1⟩; have n2 := (b1.cell (p := ⟨w.heap.size, 2, none⟩) lX).trans x2; have hB' := hB w1 b1; have B1 := hide b1; clear b1 hA hB) | (refine hB'.mono ?_; rintro e w2 ⟨rfl, b2⟩; have B2 := hide b2; clear b2))
            go_ret
            exact ⟨ret_int (unhide HG), below_sub (unhide BX) (unhide B1)⟩


        | true =>
          cases b with
          | false =>
            have HG := hide (show 1 = errC false lp ln by simp [errC, goodC, ha, hb])
            clear zpd znd zp zn ha hb
            go_enter Tryz.func29, Tryz.ntmps29
            go_wp2_with (go_at_call 79; first | (refine hA.mono ?_; rintro e w1 ⟨rfl, b1⟩; have n2 := (b1.cell (p := ⟨w.heap.size, 2, none⟩) lX).trans x2; have hB' := hB w1 b1; have B1 := hide b1; clear b1 hA hB) | (refine hB'.mono ?_; rintro e w2 ⟨rfl, b2⟩; have B2 := hide b2; clear b2))
            go_ret
            exact ⟨ret_int (unhide HG), below_sub (unhide BX) (below_sub (unhide B1) (unhide B2))⟩

          | true =>
            have HG := hide (show 0 = errC false lp ln by simp [errC, goodC, ha, hb])
            clear zpd znd zp zn ha hb
            go_enter Tryz.func29, Tryz.ntmps29
            go_wp2_with (go_at_call 79; first | (refine hA.mono ?_; rintro e w1 ⟨rfl, b1⟩; have n2 := (b1.cell (p := ⟨w.heap.size, 2, none⟩) lX).trans x2; have hB' := hB w1 b1; have B1 := hide b1; clear b1 hA hB) | (refine hB'.mono ?_; rintro e w2 ⟨rfl, b2⟩; have B2 := hide b2; clear b2))
            go_ret
            exact ⟨ret_int (unhide HG), below_sub (unhide BX) (below_sub (unhide B1) (unhide B2))⟩





end Go.Proofs.YtimklglliffpcaaGreat
namespace Go.Proofs.YtimklglliffpcaaGreat
open Go.RowKit Go.Sort

/-- P holds here, and wherever, from the block B on, only the block g was written since. -/
def OffP (B : Nat) (P : World → Prop) (g : Option Nat) (w : World) : Prop := ∀ w' : World, w.heap.size ≤ w'.heap.size → (∀ b o, B ≤ b → b < w.heap.size → some b ≠ g → w'.cell? ⟨b, o, none⟩ = w.cell? ⟨b, o, none⟩) → P w'
theorem OffP.now {B : Nat} {P : World → Prop} {g : Option Nat} {w : World} (h : OffP B P g w) : P w := h w (Nat.le_refl _) fun _ _ _ _ _ => rfl
theorem OffP.imp {B : Nat} {P Q : World → Prop} {g : Option Nat} {w : World} (h : OffP B P g w) (hi : ∀ w, P w → Q w) : OffP B Q g w := fun w' hs hc => hi _ (h w' hs hc)
theorem OffP.and {B : Nat} {P Q : World → Prop} {g : Option Nat} {w : World} (h : OffP B P g w) (k : OffP B Q g w) : OffP B (fun w => P w ∧ Q w) g w := fun w' hs hc => ⟨h w' hs hc, k w' hs hc⟩
theorem OffP.below {B : Nat} {P : World → Prop} {g : Option Nat} {w w' : World} (h : OffP B P g w) (hb : Below w.heap.size w w') : OffP B P g w' := fun w'' hs hc =>
  h w'' (Nat.le_trans hb.size hs) fun b o hB hlt hne => (hc b o hB (Nat.lt_of_lt_of_le hlt hb.size) hne).trans (hb.cell (p := ⟨b, o, none⟩) hlt)
theorem OffP.step {B : Nat} {P : World → Prop} {g g' : Option Nat} {w w' : World} (h : OffP B P g w) (hg : w.grownBy w' g) (hor : g' = g ∨ g' = some w.heap.size) : OffP B P g' w' := fun w'' hs hc =>
  h w'' (Nat.le_trans hg.size hs) fun b o hB hlt hne => (hc b o hB (Nat.lt_of_lt_of_le hlt hg.size) (hor.elim (fun e => by rw [e]; exact hne) (fun e => by rw [e]; intro e2; cases e2; omega))).trans (World.cell?_of_block (w := w) (a := ⟨b, o, none⟩) (hg.block b hlt hne))
theorem OffP.set {B : Nat} {P : World → Prop} {g : Option Nat} {w : World} (h : OffP B P g w) {p : Addr} (hp : p.block < B) (u : Value) : OffP B P g (w.setCell p u) := fun w'' hs hc =>
  h w'' (by simpa using hs) fun b o hB hlt hne => (hc b o hB (by simpa using hlt) hne).trans (World.cell?_of_block (w := w) (a := ⟨b, o, none⟩) (Below.heap_setCell w p u b (by show b ≠ p.block; omega)))
theorem OffP.from {B : Nat} {w : World} {C : Nat} {v : Nv} {x : Nd} {g : Option Nat} (h : NdFrom w C v x) (hB : B ≤ C) (hg : ∀ b, g = some b → b < C) : OffP B (fun w => NdFrom w C v x) g w := fun _ hs hc =>
  h.up ⟨hs, fun b o hb hlt => hc b o (by omega) hlt fun e => by have := hg b e.symm; omega⟩
theorem snoc_all {Q : Nv → Nd → Prop} {kids : List Nd} {us : List Nv} {v : Nv} {x : Nd} {k : Nat} (h : ∀ (j : Nat) (v : Nv) (x : Nd), us[j]? = some v → kids[j]? = some x → Q v x) (hu : us.length = k) (hx : kids[k]? = some x) (sp : Q v x) : ∀ (j : Nat) (y : Nv) (z : Nd), (us ++ [v])[j]? = some y → kids[j]? = some z → Q y z := by
  intro j y z hj hz
  by_cases hjk : j < k
  · rw [List.getElem?_append_left (by omega)] at hj
    exact h j y z hj hz
  · have hj2 := (List.getElem?_eq_some_iff.1 hj).1
    rw [List.length_append, hu] at hj2
    obtain rfl : j = k := by simp at hj2; omega
    rw [List.getElem?_append_right (by omega), hu, Nat.sub_self] at hj
    rw [hx] at hz
    cases hj
    cases hz
    exact sp
def MineIn (B : Nat) (kids : List Nd) (us : List Nv) (w : World) : Prop := ∀ (j : Nat) (v : Nv) (x : Nd), us[j]? = some v → kids[j]? = some x → SpIn w B v x
theorem MineIn.snoc {B : Nat} {kids : List Nd} {us : List Nv} {w : World} {v : Nv} {x : Nd} {k : Nat} (h : MineIn B kids us w) (hu : us.length = k) (hx : kids[k]? = some x) (sp : SpIn w B v x) : MineIn B kids (us ++ [v]) w := snoc_all h hu hx sp
def FromIn (B : Nat) (kids : List Nd) (us : List Nv) (w : World) : Prop := ∀ (j : Nat) (v : Nv) (x : Nd), us[j]? = some v → kids[j]? = some x → NdFrom w B v x
theorem OwnK.ownLt {B c k : Nat} {w : World} {q : Option Addr} {l : List Nv} (h : OwnK encV 56 8 B w q c l) (hl : l.length = k) : ∀ b, (Value.slice q k c).ownBlock = some b → b < w.heap.size := fun b e => by
  subst hl
  exact (World.ownsRow.lt h b e).2
theorem OwnK.ownGe {B c k : Nat} {w : World} {q : Option Addr} {l : List Nv} (h : OwnK encV 56 8 B w q c l) (hl : l.length = k) : ∀ b, (Value.slice q k c).ownBlock = some b → B ≤ b := fun b e => by
  subst hl
  exact (World.ownsRow.lt h b e).1
section
variable {α : Type} [Inhabited α] {enc : α → List Value} {t e : TypeId} {k bytes : Nat}
/-- append, with where the answer's block is. -/
theorem wp_appG (R : RowOf enc t e k bytes) {o : Oper} {a : Act} {w : World} {K : Act → World → Prop} {Q : Exit → Act → World → Prop} (s x : Operand)
    (ho : o.op = .call { callee := .builtin .append, args := #[s, x], argTypes := #[t, t] }) (B : Nat) (q : Option Addr) (cap : Nat) (l : List α) (ad : Addr) (c : Nat) (m : List α) (n n' N : Nat) (hn : l.length = n) (hn' : m.length = n') (hN : n + n' = N)
    (es : a.eval s = .slice q n cap) (ex : a.eval x = .slice (some ad) n' c) (hown : OwnK enc e k B w q cap l) (hs : SrcK enc k w (some ad) c m) (hm : N ≤ maxLen) (hb : N * bytes ≤ 140737488355328) (hB : B ≤ w.heap.size)
    (h : ∀ q' cap' w', OwnK enc e k B w' q' cap' (l ++ m) → Below B w w' → w.grownBy w' (Value.slice q n cap).ownBlock → ((Value.slice q' N cap').ownBlock = (Value.slice q n cap).ownBlock ∨ (Value.slice q' N cap').ownBlock = some w.heap.size) → K (a.put o.dst (.slice q' N cap')) w') : o.wp Tryz.prog a w K Q := by
  subst hn hn' hN
  obtain ⟨i0, z, hi, hz, hsz, hby, hzs⟩ := R.info
  obtain ⟨v', w', hr, hO, hg, hnil, hor⟩ := run_append_own_at (P := Tryz.prog) w B t o.type e i0 z k bytes R.und hi hz hsz hby hzs R.pos _ _ _ hown ad m.length c (flatK enc k m.toArray).toList (by simp) (hs.2 ad rfl) (R.one m) hm hb hB
  obtain ⟨q', cap', rfl, hq⟩ := OwnK.shape hO
  unfold Oper.wp execOp
  simp only [ho, resolve, invoke, builtin, Sem.run_bind, Sem.run_pure, Result.andThen_ok, List.map_toArray, List.map_cons, List.map_nil, es, ex, hr]
  refine h q' cap' w' ?_ ((Below.refl _ _).grown hg hB fun j hj => (World.ownsRow.lt hown j hj).1) hg hor
  unfold OwnK
  rw [flat_app enc k R.pos, List.length_append]
  exact hO
theorem wpList_appG (R : RowOf enc t e k bytes) {ops : Array Oper} {rest : List Oper} {o : Oper} {a : Act} {w : World} {Q : Exit → Act → World → Prop} (hgd : o.guard = none) (s x : Operand)
    (ho : o.op = .call { callee := .builtin .append, args := #[s, x], argTypes := #[t, t] }) (B : Nat) (q : Option Addr) (cap : Nat) (l : List α) (ad : Addr) (c : Nat) (m : List α) (n n' N : Nat) (hn : l.length = n) (hn' : m.length = n') (hN : n + n' = N)
    (es : a.eval s = .slice q n cap) (ex : a.eval x = .slice (some ad) n' c) (hown : OwnK enc e k B w q cap l) (hs : SrcK enc k w (some ad) c m) (hm : N ≤ maxLen) (hb : N * bytes ≤ 140737488355328) (hB : B ≤ w.heap.size)
    (h : ∀ q' cap' w', OwnK enc e k B w' q' cap' (l ++ m) → Below B w w' → w.grownBy w' (Value.slice q n cap).ownBlock → ((Value.slice q' N cap').ownBlock = (Value.slice q n cap).ownBlock ∨ (Value.slice q' N cap').ownBlock = some w.heap.size) → wpList Tryz.prog ops Q rest (a.put o.dst (.slice q' N cap')) w') : wpList Tryz.prog ops Q (o :: rest) a w :=
  wpList_plain hgd fun _ hK => wp_appG R s x ho B q cap l ad c m n n' N hn hn' hN es ex hown hs hm hb hB fun q' cap' w' h2 h3 h4 h5 => hK _ _ (h q' cap' w' h2 h3 h4 h5)
theorem step_appG (R : RowOf enc t e k bytes) {ops : Array Oper} {o : Oper} {a : Act} {w : World} {K : Act → World → Prop} {Q : Exit → Act → World → Prop} {E : Prop} (hgd : o.guard = none) (s x : Operand)
    (ho : o.op = .call { callee := .builtin .append, args := #[s, x], argTypes := #[t, t] }) (B : Nat) (q : Option Addr) (cap : Nat) (l : List α) (ad : Addr) (c : Nat) (m : List α) (n n' N : Nat) (hn : l.length = n) (hn' : m.length = n') (hN : n + n' = N)
    (es : a.eval s = .slice q n cap) (ex : a.eval x = .slice (some ad) n' c) (hown : OwnK enc e k B w q cap l) (hs : SrcK enc k w (some ad) c m) (hm : N ≤ maxLen) (hb : N * bytes ≤ 140737488355328) (hB : B ≤ w.heap.size)
    (h : ∀ q' cap' w', OwnK enc e k B w' q' cap' (l ++ m) → Below B w w' → w.grownBy w' (Value.slice q n cap).ownBlock → ((Value.slice q' N cap').ownBlock = (Value.slice q n cap).ownBlock ∨ (Value.slice q' N cap').ownBlock = some w.heap.size) → K (a.put o.dst (.slice q' N cap')) w') :
    if Region.wanted o (yielded ops a.tmps) = true then Oper.wp Tryz.prog o a w K Q else E := by
  have hw : Region.wanted o (yielded ops a.tmps) = true := by simp [Region.wanted, hgd]
  rw [if_pos hw]
  exact wp_appG R s x ho B q cap l ad c m n n' N hn hn' hN es ex hown hs hm hb hB h
end
end Go.Proofs.YtimklglliffpcaaGreat
namespace Go.Proofs.YtimklglliffpcaaGreat
open Go.RowKit

def zeroB (kind : Int) (attr : ByteArray) (ni nw : Nat) (lo hi : Int) : Bool := decide (kind = 0) && (decide (attr.size = 0) && emptyB ni nw lo hi)
/-- The node itself, without its kids. -/
def nodeB (kind : Int) (attr : ByteArray) (ints : List Int) (words : List ByteArray) (lo hi op : Int) (n : Nat) : Bool :=
  if op = 1 then predB kind attr ints words lo hi && decide (n = 0) else if op = 2 then zeroB kind attr ints.length words.length lo hi && decide (n = 1) else if op = 3 ∨ op = 4 then zeroB kind attr ints.length words.length lo hi && decide (2 ≤ n) else false
mutual
/-- Is the tree in form? -/
def chkN : Nd → Bool
  | .mk kind attr ints words lo hi op ks => nodeB kind attr ints words lo hi op ks.length && chkL ks
def chkL : List Nd → Bool
  | [] => true
  | x :: xs => chkN x && chkL xs
end
theorem chkL_app (a b : List Nd) : chkL (a ++ b) = (chkL a && chkL b) := by
  induction a with
  | nil => simp [chkL]
  | cons x a ih => simp only [List.cons_append, chkL, ih, Bool.and_assoc]
theorem chkL_snoc {l : List Nd} {k : Nat} {x : Nd} (h : l[k]? = some x) : chkL (l.take (k + 1)) = (chkL (l.take k) && chkN x) := by
  rw [take_snoc_of h, chkL_app]; simp [chkL]
theorem chkL_no {l : List Nd} {x : Nd} (h : x ∈ l) (hx : chkN x = false) : chkL l = false := by
  induction l with
  | nil => simp at h
  | cons y l ih =>
    simp only [chkL]
    rcases List.mem_cons.1 h with rfl | h
    · rw [hx]; rfl
    · rw [ih h]; simp
theorem zero_at (kind : Int) (attr : ByteArray) (qi : Option Addr) (ni ci : Nat) (qw : Option Addr) (nw cw : Nat) (lo hi : Int) (w : World) :
    Calls Tryz.prog 144 #[.agg #[.int .i64 kind, .string attr, .slice qi ni ci, .slice qw nw cw, .int .i64 lo, .int .i64 hi]] w fun e w' => e = .returned (.bool (zeroB kind attr ni nw lo hi)) ∧ Below w.heap.size w w' := zero_any kind attr qi ni ci qw nw cw lo hi w
/-- The box of a node, behind calls. -/
theorem box8 {w w1 : World} {kind : Int} {attr : ByteArray} {qi : Option Addr} {ni ci : Nat} {qw : Option Addr} {nw cw : Nat} {lo hi op : Int} {qk : Option Addr} {nk ck : Nat} (hb : Below (w.alloc (.cells #[.int .i64 kind, .string attr, .slice qi ni ci, .slice qw nw cw, .int .i64 lo, .int .i64 hi, .int .i64 op, .slice qk nk ck] 56)).heap.size (w.alloc (.cells #[.int .i64 kind, .string attr, .slice qi ni ci, .slice qw nw cw, .int .i64 lo, .int .i64 hi, .int .i64 op, .slice qk nk ck] 56)) w1) :
    w.heap.size < w1.heap.size ∧ w1.cell? ⟨w.heap.size, 6, none⟩ = some (.int .i64 op) ∧ w1.cell? ⟨w.heap.size, 7, none⟩ = some (.slice qk nk ck) := by
  have hs := hb.size
  obtain ⟨hc, hf⟩ := bcell hb
  have hlt : w.heap.size < (w.alloc (.cells #[.int .i64 kind, .string attr, .slice qi ni ci, .slice qw nw cw, .int .i64 lo, .int .i64 hi, .int .i64 op, .slice qk nk ck] 56)).heap.size := by simp
  refine ⟨by simp at hs; omega, ?_, ?_⟩
  all_goals (rw [hc _ _ hlt]; go_simp)
set_option maxHeartbeats 4000000 in
theorem check_no (kind : Int) (attr : ByteArray) (qi : Option Addr) (ci : Nat) (ints : List Int) (qw : Option Addr) (cw : Nat) (words : List ByteArray) (lo hi op : Int) (qk : Option Addr) (ck : Nat) (kids : List Nd) (w : World) (h1 : SlOf encI 1 w qi ci ints) (h2 : SlOf encS 1 w qw cw words) (l1 : ints.length ≤ 1000000000) (l2 : words.length ≤ 1000000000) (hg : nodeB kind attr ints words lo hi op kids.length = false) :
    Calls Tryz.prog 91 #[.agg #[.int .i64 kind, .string attr, .slice qi ints.length ci, .slice qw words.length cw, .int .i64 lo, .int .i64 hi, .int .i64 op, .slice qk kids.length ck]] w fun e w' => e = .returned (.int .i64 (code (false && chkL kids))) ∧ Below w.heap.size w w' := by
  have B0 := hide ((Below.refl w.heap.size w).alloc (Nat.le_refl _) (.cells #[.int .i64 kind, .string attr, .slice qi ints.length ci, .slice qw words.length cw, .int .i64 lo, .int .i64 hi, .int .i64 op, .slice qk kids.length ck] 56))
  have hp := pred_any kind attr qi ci ints qw cw words lo hi _ (h1.below (unhide B0)) (h2.below (unhide B0)) (by omega) (by omega)
  have hz := fun w => zero_at kind attr qi ints.length ci qw words.length cw lo hi w
  unfold nodeB at hg
  rw [Bool.false_and]
  clear h1 h2
  by_cases o1 : op = 1
  · subst o1
    rw [if_pos rfl] at hg
    cases hq : predB kind attr ints words lo hi with
    | false =>
      rw [hq] at hp
      simp only [code, Bool.false_eq_true, if_false] at hp
      clear hg hq hz
      go_enter Tryz.func91, Tryz.ntmps91
      go_wp2_with (first
      | (go_at_call 54; refine hp.mono ?_; rintro e w1 ⟨rfl, b1⟩; obtain ⟨z1, d6, d7⟩ := box8 b1; have B1 := hide b1; clear b1)
      | (go_at_call 144; refine (hz _).mono ?_; rintro e w1 ⟨rfl, b1⟩; obtain ⟨z1, d6, d7⟩ := box8 b1; have B1 := hide b1; clear b1))
      go_ret
      exact ⟨rfl, below_sub (unhide B0) (unhide B1)⟩
    | true =>
      rw [hq] at hp hg
      simp only [code, if_true] at hp
      have hk0 : ¬ kids.length = 0 := by simpa using hg
      have e0 : ((kids.length : Int) == 0) = false := by simpa using hk0
      clear hg hq hz
      go_enter Tryz.func91, Tryz.ntmps91
      go_wp2_with (first
      | (go_at_call 54; refine hp.mono ?_; rintro e w1 ⟨rfl, b1⟩; obtain ⟨z1, d6, d7⟩ := box8 b1; have B1 := hide b1; clear b1)
      | (go_at_call 144; refine (hz _).mono ?_; rintro e w1 ⟨rfl, b1⟩; obtain ⟨z1, d6, d7⟩ := box8 b1; have B1 := hide b1; clear b1))
      go_ret
      exact ⟨rfl, below_sub (unhide B0) (unhide B1)⟩
  · have e1 : (op == 1) = false := by simpa using o1
    rw [if_neg o1] at hg
    by_cases o2 : op = 2
    · subst o2
      rw [if_pos rfl] at hg
      cases hq : zeroB kind attr ints.length words.length lo hi with
      | false =>
        rw [hq] at hz
        clear hg hq hp
        go_enter Tryz.func91, Tryz.ntmps91
        go_wp2_with (first
      | (go_at_call 54; refine hp.mono ?_; rintro e w1 ⟨rfl, b1⟩; obtain ⟨z1, d6, d7⟩ := box8 b1; have B1 := hide b1; clear b1)
      | (go_at_call 144; refine (hz _).mono ?_; rintro e w1 ⟨rfl, b1⟩; obtain ⟨z1, d6, d7⟩ := box8 b1; have B1 := hide b1; clear b1))
        go_ret
        exact ⟨rfl, below_sub (unhide B0) (unhide B1)⟩
      | true =>
        rw [hq] at hz hg
        have hk0 : ¬ kids.length = 1 := by simpa using hg
        have e0 : ((kids.length : Int) == 1) = false := by simp; omega
        clear hg hq hp
        go_enter Tryz.func91, Tryz.ntmps91
        go_wp2_with (first
      | (go_at_call 54; refine hp.mono ?_; rintro e w1 ⟨rfl, b1⟩; obtain ⟨z1, d6, d7⟩ := box8 b1; have B1 := hide b1; clear b1)
      | (go_at_call 144; refine (hz _).mono ?_; rintro e w1 ⟨rfl, b1⟩; obtain ⟨z1, d6, d7⟩ := box8 b1; have B1 := hide b1; clear b1))
        go_ret
        exact ⟨rfl, below_sub (unhide B0) (unhide B1)⟩
    · have e2 : (op == 2) = false := by simpa using o2
      rw [if_neg o2] at hg
      by_cases o3 : op = 3 ∨ op = 4
      · rw [if_pos o3] at hg
        cases hq : zeroB kind attr ints.length words.length lo hi with
        | false =>
          rw [hq] at hz
          clear hg hq hp
          rcases o3 with rfl | rfl
          all_goals
            go_enter Tryz.func91, Tryz.ntmps91
            go_wp2_with (first
      | (go_at_call 54; refine hp.mono ?_; rintro e w1 ⟨rfl, b1⟩; obtain ⟨z1, d6, d7⟩ := box8 b1; have B1 := hide b1; clear b1)
      | (go_at_call 144; refine (hz _).mono ?_; rintro e w1 ⟨rfl, b1⟩; obtain ⟨z1, d6, d7⟩ := box8 b1; have B1 := hide b1; clear b1))
            go_ret
            exact ⟨rfl, below_sub (unhide B0) (unhide B1)⟩
        | true =>
          rw [hq] at hz hg
          have hk0 : ¬ 2 ≤ kids.length := by simpa using hg
          have e0 : decide (2 ≤ kids.length) = false := by simpa using hk0
          have e3 : decide ((2 : Int) ≤ (kids.length : Int)) = false := by rw [decide_eq_false_iff_not]; omega
          clear hg hq hp
          rcases o3 with rfl | rfl
          all_goals
            go_enter Tryz.func91, Tryz.ntmps91
            go_wp2_with (first
      | (go_at_call 54; refine hp.mono ?_; rintro e w1 ⟨rfl, b1⟩; obtain ⟨z1, d6, d7⟩ := box8 b1; have B1 := hide b1; clear b1)
      | (go_at_call 144; refine (hz _).mono ?_; rintro e w1 ⟨rfl, b1⟩; obtain ⟨z1, d6, d7⟩ := box8 b1; have B1 := hide b1; clear b1))
            go_ret
            exact ⟨rfl, below_sub (unhide B0) (unhide B1)⟩
      · have e3 : (op == 3) = false := by simp; omega
        have e4 : (op == 4) = false := by simp; omega
        clear hg hp hz
        go_enter Tryz.func91, Tryz.ntmps91
        go_wp2
        go_ret
        exact ⟨rfl, unhide B0⟩
set_option maxHeartbeats 4000000 in
theorem check_yes (kind : Int) (attr : ByteArray) (qi : Option Addr) (ci : Nat) (ints : List Int) (qw : Option Addr) (cw : Nat) (words : List ByteArray) (lo hi op : Int) (qk : Option Addr) (ck : Nat) (kids : List Nd) (w : World) (h1 : SlOf encI 1 w qi ci ints) (h2 : SlOf encS 1 w qw cw words) (hk : NdsOf w qk ck kids) (l1 : ints.length ≤ 1000000000) (l2 : words.length ≤ 1000000000) (l3 : wtL kids ≤ 1000000000) (hg : nodeB kind attr ints words lo hi op kids.length = true) (ih : ∀ x ∈ kids, ∀ (v : Nv) (w : World), NdIn w v x → wtN x ≤ 1000000000 → Calls Tryz.prog 91 #[v.val] w fun e w' => e = .returned (.int .i64 (code (chkN x))) ∧ Below w.heap.size w w') :
    Calls Tryz.prog 91 #[.agg #[.int .i64 kind, .string attr, .slice qi ints.length ci, .slice qw words.length cw, .int .i64 lo, .int .i64 hi, .int .i64 op, .slice qk kids.length ck]] w fun e w' => e = .returned (.int .i64 (code (true && chkL kids))) ∧ Below w.heap.size w w' := by
  have B0 := hide ((Below.refl w.heap.size w).alloc (Nat.le_refl _) (.cells #[.int .i64 kind, .string attr, .slice qi ints.length ci, .slice qw words.length cw, .int .i64 lo, .int .i64 hi, .int .i64 op, .slice qk kids.length ck] 56))
  have hp := pred_any kind attr qi ci ints qw cw words lo hi _ (h1.below (unhide B0)) (h2.below (unhide B0)) (by omega) (by omega)
  have hz := fun w => zero_at kind attr qi ints.length ci qw words.length cw lo hi w
  unfold nodeB at hg
  rw [Bool.true_and]
  have IH := hide ih
  have HK := hide hk
  have hlen := len_size kids
  have hlw := sizeL_wt kids
  have a0 : (kids.length : Int) ≤ 1000000000 := by omega
  clear h1 h2 ih hk
  by_cases o1 : op = 1
  · subst o1
    rw [if_pos rfl, Bool.and_eq_true] at hg
    have hk0 : kids.length = 0 := by simpa using hg.2
    have e0 : ((kids.length : Int) == 0) = true := beq_iff_eq.2 (by omega)
    rw [hg.1] at hp
    simp only [code, if_true] at hp
    clear hg hz hk0
    go_enter Tryz.func91, Tryz.ntmps91
    go_wp2_with (first
      | (go_at_call 54; refine hp.mono ?_; rintro e w1 ⟨rfl, b1⟩; obtain ⟨z1, d6, d7⟩ := box8 b1; have B1 := hide b1; clear b1)
      | (go_at_call 144; refine (hz _).mono ?_; rintro e w1 ⟨rfl, b1⟩; obtain ⟨z1, d6, d7⟩ := box8 b1; have B1 := hide b1; clear b1))
    go_loopw [49] (fun i wr => ∃ k : Nat, k ≤ kids.length ∧ i = .int .i64 k ∧ chkL (kids.take k) = true ∧ Below w.heap.size w wr) (fun i _ => kids.length - (intOf i).toNat)
    case atStart => exact ⟨0, by omega, rfl, rfl, below_sub (unhide B0) (unhide B1)⟩
    case round =>
      obtain ⟨k, hkk, rfl, hall, hbel⟩ := hrel
      have HALL := hide hall
      have HB := hide hbel
      by_cases hlt : k < kids.length
      · obtain ⟨x, hx, hxd⟩ := get_at hlt
        clear hxd
        obtain ⟨b, off, v', hq, hin, g0, g1, g2, g3, g4, g5, g6, g7⟩ := (unhide HK).on hx hbel
        subst hq
        have hxm : x ∈ kids := List.mem_of_getElem? hx
        have hxs := wtL_mem hxm
        have ki0 : (0 : Int) ≤ (k : Int) := by omega
        have ki1 : (k : Int) < (kids.length : Int) := by omega
        have HS := hide (chkL_snoc hx)
        have HIN := hide hin
        have HC := unhide IH x hxm v' (wr.alloc (.cells #[.int .i64 v'.kind, .string v'.attr, .slice v'.qi v'.ni v'.ci, .slice v'.qw v'.nw v'.cw, .int .i64 v'.lo, .int .i64 v'.hi, .int .i64 v'.op, .slice v'.qk v'.nk v'.ck] 56)) (hin.keep ((Below.refl _ _).alloc (Nat.le_refl _) _)) (by omega)
        simp only [Nv.val] at HC
        cases hcx : chkN x with
        | true =>
          rw [hcx] at HC
          simp only [code, if_true] at HC
          have HN := hide (show chkL (kids.take (k + 1)) = true by rw [unhide HS, hall, hcx]; rfl)
          clear hin hx hbel hxm hall hcx
          go_wp2_with (go_at_call 91; refine HC.mono ?_; rintro e w2 ⟨rfl, hb2⟩)
          exact ⟨⟨k + 1, by omega, by go_num, unhide HN, ((unhide HB).alloc (unhide HB).size _).trans (hb2.mono (by simp; have := (unhide HB).size; omega))⟩, by simp [intOf]; omega⟩
        | false =>
          rw [hcx] at HC
          simp only [code, Bool.false_eq_true, if_false] at HC
          have HN := hide (chkL_no hxm hcx)
          clear hin hx hbel hxm hall hcx
          go_wp2_with (go_at_call 91; refine HC.mono ?_; rintro e w2 ⟨rfl, hb2⟩)
          go_ret
          exact ⟨by rw [unhide HN]; rfl, ((unhide HB).alloc (unhide HB).size _).trans (hb2.mono (by simp; have := (unhide HB).size; omega))⟩
      · have ki1 : ¬ (k : Int) < (kids.length : Int) := by omega
        have HE := hide (show chkL kids = true by rw [← List.take_of_length_le (l := kids) (i := k) (by omega)]; exact hall)
        clear hall
        go_wp2
        go_ret
        exact ⟨by rw [unhide HE]; rfl, unhide HB⟩
  · have e1 : (op == 1) = false := by simpa using o1
    rw [if_neg o1] at hg
    by_cases o2 : op = 2
    · subst o2
      rw [if_pos rfl, Bool.and_eq_true] at hg
      have hk0 : kids.length = 1 := by simpa using hg.2
      have e0 : ((kids.length : Int) == 1) = true := beq_iff_eq.2 (by omega)
      rw [hg.1] at hz
      clear hg hp hk0
      go_enter Tryz.func91, Tryz.ntmps91
      go_wp2_with (first
      | (go_at_call 54; refine hp.mono ?_; rintro e w1 ⟨rfl, b1⟩; obtain ⟨z1, d6, d7⟩ := box8 b1; have B1 := hide b1; clear b1)
      | (go_at_call 144; refine (hz _).mono ?_; rintro e w1 ⟨rfl, b1⟩; obtain ⟨z1, d6, d7⟩ := box8 b1; have B1 := hide b1; clear b1))
      go_loopw [49] (fun i wr => ∃ k : Nat, k ≤ kids.length ∧ i = .int .i64 k ∧ chkL (kids.take k) = true ∧ Below w.heap.size w wr) (fun i _ => kids.length - (intOf i).toNat)
      case atStart => exact ⟨0, by omega, rfl, rfl, below_sub (unhide B0) (unhide B1)⟩
      case round =>
        obtain ⟨k, hkk, rfl, hall, hbel⟩ := hrel
        have HALL := hide hall
        have HB := hide hbel
        by_cases hlt : k < kids.length
        · obtain ⟨x, hx, hxd⟩ := get_at hlt
          clear hxd
          obtain ⟨b, off, v', hq, hin, g0, g1, g2, g3, g4, g5, g6, g7⟩ := (unhide HK).on hx hbel
          subst hq
          have hxm : x ∈ kids := List.mem_of_getElem? hx
          have hxs := wtL_mem hxm
          have ki0 : (0 : Int) ≤ (k : Int) := by omega
          have ki1 : (k : Int) < (kids.length : Int) := by omega
          have HS := hide (chkL_snoc hx)
          have HIN := hide hin
          have HC := unhide IH x hxm v' (wr.alloc (.cells #[.int .i64 v'.kind, .string v'.attr, .slice v'.qi v'.ni v'.ci, .slice v'.qw v'.nw v'.cw, .int .i64 v'.lo, .int .i64 v'.hi, .int .i64 v'.op, .slice v'.qk v'.nk v'.ck] 56)) (hin.keep ((Below.refl _ _).alloc (Nat.le_refl _) _)) (by omega)
          simp only [Nv.val] at HC
          cases hcx : chkN x with
          | true =>
            rw [hcx] at HC
            simp only [code, if_true] at HC
            have HN := hide (show chkL (kids.take (k + 1)) = true by rw [unhide HS, hall, hcx]; rfl)
            clear hin hx hbel hxm hall hcx
            go_wp2_with (go_at_call 91; refine HC.mono ?_; rintro e w2 ⟨rfl, hb2⟩)
            exact ⟨⟨k + 1, by omega, by go_num, unhide HN, ((unhide HB).alloc (unhide HB).size _).trans (hb2.mono (by simp; have := (unhide HB).size; omega))⟩, by simp [intOf]; omega⟩
          | false =>
            rw [hcx] at HC
            simp only [code, Bool.false_eq_true, if_false] at HC
            have HN := hide (chkL_no hxm hcx)
            clear hin hx hbel hxm hall hcx
            go_wp2_with (go_at_call 91; refine HC.mono ?_; rintro e w2 ⟨rfl, hb2⟩)
            go_ret
            exact ⟨by rw [unhide HN]; rfl, ((unhide HB).alloc (unhide HB).size _).trans (hb2.mono (by simp; have := (unhide HB).size; omega))⟩
        · have ki1 : ¬ (k : Int) < (kids.length : Int) := by omega
          have HE := hide (show chkL kids = true by rw [← List.take_of_length_le (l := kids) (i := k) (by omega)]; exact hall)
          clear hall
          go_wp2
          go_ret
          exact ⟨by rw [unhide HE]; rfl, unhide HB⟩
    · have e2 : (op == 2) = false := by simpa using o2
      rw [if_neg o2] at hg
      by_cases o3 : op = 3 ∨ op = 4
      · rw [if_pos o3, Bool.and_eq_true] at hg
        have hk0 : 2 ≤ kids.length := by simpa using hg.2
        have e0 : decide (2 ≤ kids.length) = true := by simpa using hk0
        have e3 : decide ((2 : Int) ≤ (kids.length : Int)) = true := by rw [decide_eq_true_eq]; omega
        rw [hg.1] at hz
        clear hg hp
        rcases o3 with rfl | rfl
        all_goals
          go_enter Tryz.func91, Tryz.ntmps91
          go_wp2_with (first
      | (go_at_call 54; refine hp.mono ?_; rintro e w1 ⟨rfl, b1⟩; obtain ⟨z1, d6, d7⟩ := box8 b1; have B1 := hide b1; clear b1)
      | (go_at_call 144; refine (hz _).mono ?_; rintro e w1 ⟨rfl, b1⟩; obtain ⟨z1, d6, d7⟩ := box8 b1; have B1 := hide b1; clear b1))
          go_loopw [49] (fun i wr => ∃ k : Nat, k ≤ kids.length ∧ i = .int .i64 k ∧ chkL (kids.take k) = true ∧ Below w.heap.size w wr) (fun i _ => kids.length - (intOf i).toNat)
          case atStart => exact ⟨0, by omega, rfl, rfl, below_sub (unhide B0) (unhide B1)⟩
          case round =>
            obtain ⟨k, hkk, rfl, hall, hbel⟩ := hrel
            have HALL := hide hall
            have HB := hide hbel
            by_cases hlt : k < kids.length
            · obtain ⟨x, hx, hxd⟩ := get_at hlt
              clear hxd
              obtain ⟨b, off, v', hq, hin, g0, g1, g2, g3, g4, g5, g6, g7⟩ := (unhide HK).on hx hbel
              subst hq
              have hxm : x ∈ kids := List.mem_of_getElem? hx
              have hxs := wtL_mem hxm
              have ki0 : (0 : Int) ≤ (k : Int) := by omega
              have ki1 : (k : Int) < (kids.length : Int) := by omega
              have HS := hide (chkL_snoc hx)
              have HIN := hide hin
              have HC := unhide IH x hxm v' (wr.alloc (.cells #[.int .i64 v'.kind, .string v'.attr, .slice v'.qi v'.ni v'.ci, .slice v'.qw v'.nw v'.cw, .int .i64 v'.lo, .int .i64 v'.hi, .int .i64 v'.op, .slice v'.qk v'.nk v'.ck] 56)) (hin.keep ((Below.refl _ _).alloc (Nat.le_refl _) _)) (by omega)
              simp only [Nv.val] at HC
              cases hcx : chkN x with
              | true =>
                rw [hcx] at HC
                simp only [code, if_true] at HC
                have HN := hide (show chkL (kids.take (k + 1)) = true by rw [unhide HS, hall, hcx]; rfl)
                clear hin hx hbel hxm hall hcx
                go_wp2_with (go_at_call 91; refine HC.mono ?_; rintro e w2 ⟨rfl, hb2⟩)
                exact ⟨⟨k + 1, by omega, by go_num, unhide HN, ((unhide HB).alloc (unhide HB).size _).trans (hb2.mono (by simp; have := (unhide HB).size; omega))⟩, by simp [intOf]; omega⟩
              | false =>
                rw [hcx] at HC
                simp only [code, Bool.false_eq_true, if_false] at HC
                have HN := hide (chkL_no hxm hcx)
                clear hin hx hbel hxm hall hcx
                go_wp2_with (go_at_call 91; refine HC.mono ?_; rintro e w2 ⟨rfl, hb2⟩)
                go_ret
                exact ⟨by rw [unhide HN]; rfl, ((unhide HB).alloc (unhide HB).size _).trans (hb2.mono (by simp; have := (unhide HB).size; omega))⟩
            · have ki1 : ¬ (k : Int) < (kids.length : Int) := by omega
              have HE := hide (show chkL kids = true by rw [← List.take_of_length_le (l := kids) (i := k) (by omega)]; exact hall)
              clear hall
              go_wp2
              go_ret
              exact ⟨by rw [unhide HE]; rfl, unhide HB⟩
      · rw [if_neg o3] at hg; cases hg
theorem checkT_any : ∀ (t : Nd) (v : Nv) (w : World), NdIn w v t → wtN t ≤ 1000000000 →
    Calls Tryz.prog 91 #[v.val] w fun e w' => e = .returned (.int .i64 (code (chkN t))) ∧ Below w.heap.size w w' := by
  intro t
  induction t using Nd.ind with
  | h kind attr ints words lo hi op kids ih =>
    intro v w hin hsz
    obtain ⟨qi, ci, qw, cw, qk, ck, rfl, hi1, hw1, hk⟩ := hin.parts
    simp only [wtN] at hsz
    simp only [Nv.val, chkN]
    have hwl := words_len words
    cases hg : nodeB kind attr ints words lo hi op kids.length with
    | false => exact check_no kind attr qi ci ints qw cw words lo hi op qk ck kids w hi1 hw1 (by omega) (by omega) hg
    | true => exact check_yes kind attr qi ci ints qw cw words lo hi op qk ck kids w hi1 hw1 hk (by omega) (by omega) (by omega) hg ih
end Go.Proofs.YtimklglliffpcaaGreat
namespace Go.Proofs.YtimklglliffpcaaGreat
open Go.RowKit Go.Sort

mutual
/-- The truth of a tree. -/
def truN (ev : List Pr) : Nd → Bool
  | .mk kind attr ints words lo hi op ks => if op = 2 then !(anyT ev ks) else if op = 3 then allT ev ks else if op = 4 then anyT ev ks else holdsB kind attr ints words lo hi ev
def anyT (ev : List Pr) : List Nd → Bool
  | [] => false
  | x :: xs => truN ev x || anyT ev xs
def allT (ev : List Pr) : List Nd → Bool
  | [] => true
  | x :: xs => truN ev x && allT ev xs
end
theorem anyT_eq (ev : List Pr) (l : List Nd) : anyT ev l = l.any (truN ev) := by induction l with
  | nil => simp [anyT]
  | cons x l ih => simp [anyT, ih]
theorem allT_eq (ev : List Pr) (l : List Nd) : allT ev l = !(l.any (fun x => !truN ev x)) := by induction l with
  | nil => simp [allT]
  | cons x l ih => simp [allT, ih]
theorem chkL_mem {l : List Nd} (h : chkL l = true) {x : Nd} (hx : x ∈ l) : chkN x = true := by
  cases hc : chkN x with
  | true => rfl
  | false => rw [chkL_no hx hc] at h; cases h
end Go.Proofs.YtimklglliffpcaaGreat
namespace Go.Proofs.YtimklglliffpcaaGreat
open Go.RowKit Go.Sort

theorem two {w Y : World} {o1 o2 : Obj} (h : (w.alloc o1).alloc o2 = Y) : Y.heap[w.heap.size]? = some o1 ∧ Y.heap[w.heap.size + 1]? = some o2 ∧ Below w.heap.size w Y ∧ Y.heap.size = w.heap.size + 2 := by
  subst h
  have nw := box_nw (w.alloc o1) o2
  have hs : (w.alloc o1).heap.size = w.heap.size + 1 := by simp
  rw [hs] at nw
  refine ⟨?_, nw, ((Below.refl _ _).alloc (Nat.le_refl _) _).alloc (by simp) _, by simp⟩
  rw [((Below.refl (w.alloc o1).heap.size (w.alloc o1)).alloc (Nat.le_refl _) o2).block _ (by omega)]
  exact box_nw _ _
theorem of1' {w : World} {N : Nat} {a0 : Value} {T : TypeId} (h : w.heap[N]? = some (.cells #[a0] T (0, 0))) : w.cell? ⟨N, 0, none⟩ = some a0 := by rw [Lib.cell_of_heap h]; rfl
theorem wtN_parts {kind : Int} {attr : ByteArray} {ints : List Int} {words : List ByteArray} {lo hi op : Int} {kids : List Nd} (h : wtN (.mk kind attr ints words lo hi op kids) ≤ 1000000000) : ints.length ≤ 1000000000 ∧ words.length ≤ 1000000000 ∧ wtL kids ≤ 1000000000 := by
  simp only [wtN] at h
  have := words_len words
  omega
def evalN (ev : List Pr) (t : Nd) : Bool := chkN t && truN ev t
end Go.Proofs.YtimklglliffpcaaGreat
namespace Go.Proofs.YtimklglliffpcaaGreat
open Go.RowKit Go.Sort

def bnd (m : Int) : Int := min (max m 0) 4611686018427387904
def sumGo (M : Int) : List Int → Int → Int
  | [], s => s
  | x :: xs, s => if M - s < x then M + 1 else sumGo M xs (s + max x 0)
def prodGo (M : Int) : List Int → Int → Int
  | [], p => p
  | x :: xs, p => if M.tdiv x < p then M + 1 else prodGo M xs (p * x)
/-- The sum, cut behind most. -/
def sumB (m : Int) (l : List Int) : Int := sumGo (bnd m) l 0
/-- The product, cut behind most. -/
def prodB (m : Int) (l : List Int) : Int := if l.any (fun x => decide (x ≤ 0)) then 0 else prodGo (bnd m) l 1
theorem bnd_ge (m : Int) : 0 ≤ bnd m := by unfold bnd; omega
theorem bnd_le (m : Int) : bnd m ≤ 4611686018427387904 := by unfold bnd; omega
theorem wrap_of (x : Int) (h0 : -9223372036854775808 ≤ x) (h1 : x < 9223372036854775808) : IntKind.i64.wrap x = x := by
  have e : (2 : Int) ^ IntKind.i64.bits = 18446744073709551616 := by decide
  have e2 : (2 : Int) ^ (IntKind.i64.bits - 1) = 9223372036854775808 := by decide
  have es : IntKind.i64.signed = true := rfl
  simp [IntKind.wrap, e, e2, es]
  split <;> omega
theorem bounded_any (m : Int) (w : World) : Calls Tryz.prog 204 #[.int .i64 m] w fun e w' => e = .returned (.int .i64 (bnd m)) ∧ w' = w := by
  go_enter Tryz.func204, Tryz.ntmps204
  go_wp2
  go_ret
  exact ⟨by simp [bnd], rfl⟩
theorem isNone_any (x : Int) (w : World) : Calls Tryz.prog 206 #[.int .i64 x] w fun e w' => e = .returned (.bool (decide (x ≤ 0))) ∧ w' = w := by
  go_enter Tryz.func206, Tryz.ntmps206
  go_wp2
  go_ret
  exact ⟨rfl, rfl⟩
set_option maxHeartbeats 4000000 in
theorem indexNone (q : Option Addr) (c : Nat) (l : List Int) (w : World) (h : SlOf encI 1 w q c l) (hl : l.length ≤ 1000000000000000000) :
    Calls Tryz.prog 150 #[.slice q l.length c, .func (.func 206) #[] #[]] w fun e w' => (∃ n : Int, e = .returned (.int .i64 n) ∧ decide (0 ≤ n) = l.any (fun x => decide (x ≤ 0))) ∧ Below w.heap.size w w' := by
  have HA := hide h
  have a0 : (l.length : Int) ≤ 1000000000000000000 := by omega
  clear h
  go_enter Tryz.func150, Tryz.ntmps150
  go_wp2
  go_loopw [8] (fun i wr => ∃ k : Nat, k ≤ l.length ∧ i = .int .i64 k ∧ (∀ (j : Nat) (x : Int), j < k → l[j]? = some x → 0 < x) ∧ Below w.heap.size w wr) (fun i _ => l.length - (intOf i).toNat)
  case atStart => exact ⟨0, by omega, rfl, fun j x h => absurd h (by omega), Below.refl _ _⟩
  case round =>
    obtain ⟨k, hk, rfl, hall, hbel⟩ := hrel
    have HALL := hide hall
    have HB := hide hbel
    by_cases hlt : k < l.length
    · obtain ⟨x, hx, hxd⟩ := get_at hlt
      obtain ⟨b, off, hq, hb, hc⟩ := intsAt (unhide HA) hx
      subst hq
      have g := (hbel.cell (p := ⟨b, off + k, none⟩) hb).trans hc
      have ki0 : (0 : Int) ≤ (k : Int) := by omega
      have ki1 : (k : Int) < (l.length : Int) := by omega
      have hn := fun w => isNone_any x w
      have HX := hide hx
      by_cases hx0 : x ≤ 0
      · have d : decide (x ≤ 0) = true := by simp [hx0]
        rw [d] at hn
        clear hall hbel hxd hx hc d
        go_wp2_with (go_at_call 206; refine (hn _).mono ?_; rintro e w2 ⟨rfl, hw2⟩; subst hw2)
        go_ret
        refine ⟨⟨k, rfl, ?_⟩, unhide HB⟩
        have : l.any (fun x => decide (x ≤ 0)) = true := List.any_eq_true.2 ⟨x, List.mem_of_getElem? (unhide HX), by simp [hx0]⟩
        rw [this]; simp
      · have d : decide (x ≤ 0) = false := by simp [hx0]
        rw [d] at hn
        clear hall hbel hxd hx hc d
        go_wp2_with (go_at_call 206; refine (hn _).mono ?_; rintro e w2 ⟨rfl, hw2⟩; subst hw2)
        go_roundw
        case rel =>
          refine ⟨k + 1, by omega, by go_num, fun j y hj hy => ?_, unhide HB⟩
          by_cases e : j = k
          · subst e; rw [unhide HX] at hy; cases hy; omega
          · exact unhide HALL j y (by omega) hy
        case measure => simp [intOf]; omega
    · have ki1 : ¬ (k : Int) < (l.length : Int) := by omega
      clear hall hbel
      go_wp2
      go_ret
      refine ⟨⟨-1, rfl, ?_⟩, unhide HB⟩
      have : l.any (fun x => decide (x ≤ 0)) = false := by
        rw [List.any_eq_false]
        intro x hx
        obtain ⟨j, hj⟩ := List.getElem?_of_mem hx
        have := unhide HALL j x (by have := (List.getElem?_eq_some_iff.1 hj).1; omega) hj
        simp; omega
      rw [this]; simp
theorem containsNone (q : Option Addr) (c : Nat) (l : List Int) (w : World) (h : SlOf encI 1 w q c l) (hl : l.length ≤ 1000000000000000000) :
    Calls Tryz.prog 205 #[.slice q l.length c, .func (.func 206) #[] #[]] w fun e w' => e = .returned (.bool (l.any (fun x => decide (x ≤ 0)))) ∧ Below w.heap.size w w' := by
  have hi := indexNone q c l w h hl
  go_enter Tryz.func205, Tryz.ntmps205
  go_wp2_with (go_at_call 150; refine hi.mono ?_; rintro e w2 ⟨⟨n, rfl, hn⟩, b2⟩; have B2 := hide b2; have HN := hide hn; clear b2 hn)
  go_ret
  exact ⟨by rw [← unhide HN]; simp, unhide B2⟩
set_option maxHeartbeats 4000000 in
theorem sum_any (m : Int) (q : Option Addr) (c : Nat) (l : List Int) (w : World) (h : SlOf encI 1 w q c l) (hl : l.length ≤ 1000000000000000000) :
    Calls Tryz.prog 172 #[.int .i64 m, .slice q l.length c] w fun e w' => e = .returned (.int .i64 (sumB m l)) ∧ Below w.heap.size w w' := by
  have HA := hide h
  have a0 : (l.length : Int) ≤ 1000000000000000000 := by omega
  have hb := fun w => bounded_any m w
  have h0 := bnd_ge m
  have h1 := bnd_le m
  unfold sumB
  obtain ⟨M, hM⟩ : ∃ M, bnd m = M := ⟨_, rfl⟩
  rw [hM] at hb h0 h1
  rw [hM]
  clear h hM
  go_enter Tryz.func172, Tryz.ntmps172
  go_wp2_with (go_at_call 204; refine (hb _).mono ?_; rintro e w2 ⟨rfl, hw2⟩; subst hw2)
  go_loopw [5, 12] (fun sv i wr => ∃ (k : Nat) (s : Int), k ≤ l.length ∧ i = .int .i64 k ∧ sv = .int .i64 s ∧ 0 ≤ s ∧ s ≤ M ∧ sumGo M (l.drop k) s = sumGo M l 0 ∧ Below w2.heap.size w2 wr) (fun _ i _ => l.length - (intOf i).toNat)
  case atStart => exact ⟨0, 0, by omega, rfl, rfl, Int.le_refl _, h0, rfl, Below.refl _ _⟩
  case round =>
    obtain ⟨k, s, hk, rfl, rfl, s0, s1, heq, hbel⟩ := hrel
    have HB := hide hbel
    by_cases hlt : k < l.length
    · obtain ⟨x, hx, hxd⟩ := get_at hlt
      obtain ⟨b, off, hq, hb, hc⟩ := intsAt (unhide HA) hx
      subst hq
      have g := (hbel.cell (p := ⟨b, off + k, none⟩) hb).trans hc
      have ki0 : (0 : Int) ≤ (k : Int) := by omega
      have ki1 : (k : Int) < (l.length : Int) := by omega
      rw [hxd] at heq
      have w1 : IntKind.i64.wrap (M - s) = M - s := wrap_of _ (by omega) (by omega)
      by_cases hgt : M - s < x
      · simp only [sumGo, if_pos hgt] at heq
        have w2 : IntKind.i64.wrap (M + 1) = M + 1 := wrap_of _ (by omega) (by omega)
        have HE := hide heq
        clear heq hbel hxd hx hc
        go_wp2
        go_ret
        exact ⟨by rw [← unhide HE]; rfl, unhide HB⟩
      · simp only [sumGo, if_neg hgt] at heq
        have w2 : IntKind.i64.wrap (s + max x 0) = s + max x 0 := wrap_of _ (by omega) (by omega)
        have HE := hide heq
        clear heq hbel hxd hx hc
        go_wp2
        go_roundw
        case rel => exact ⟨k + 1, s + max x 0, by omega, by go_num, rfl, by omega, by omega, unhide HE, unhide HB⟩
        case measure => simp [intOf]; omega
    · have ki1 : ¬ (k : Int) < (l.length : Int) := by omega
      rw [List.drop_of_length_le (by omega)] at heq
      have HE := hide heq
      clear heq hbel
      go_wp2
      go_ret
      exact ⟨by rw [← unhide HE]; rfl, unhide HB⟩
theorem prod_step {M p x : Int} (hM : 0 ≤ M) (hp : 1 ≤ p) (hx : 0 < x) (h : ¬ M.tdiv x < p) : 1 ≤ p * x ∧ p * x ≤ M := by
  have hle : p ≤ M.tdiv x := by omega
  have h2 : M.tdiv x * x ≤ M := by
    rw [Int.tdiv_eq_ediv_of_nonneg hM]; exact Int.ediv_mul_le M (by omega)
  refine ⟨?_, Int.le_trans (Int.mul_le_mul_of_nonneg_right hle (by omega)) h2⟩
  have := Int.mul_le_mul hp (show (1 : Int) ≤ x by omega) (by omega) (by omega)
  omega
set_option maxHeartbeats 4000000 in
theorem prod_any (m : Int) (q : Option Addr) (c : Nat) (l : List Int) (w : World) (h : SlOf encI 1 w q c l) (hl : l.length ≤ 1000000000000000000) :
    Calls Tryz.prog 173 #[.int .i64 m, .slice q l.length c] w fun e w' => e = .returned (.int .i64 (prodB m l)) ∧ Below w.heap.size w w' := by
  have HA := hide h
  have a0 : (l.length : Int) ≤ 1000000000000000000 := by omega
  have hb := fun w => bounded_any m w
  have h0 := bnd_ge m
  have h1 := bnd_le m
  have hcn := containsNone q c l w h hl
  unfold prodB
  obtain ⟨M, hM⟩ : ∃ M, bnd m = M := ⟨_, rfl⟩
  rw [hM] at hb h0 h1
  rw [hM]
  clear h hM
  cases han : l.any (fun x => decide (x ≤ 0)) with
  | true =>
    rw [han] at hcn
    simp only [if_true]
    go_enter Tryz.func173, Tryz.ntmps173
    go_wp2_with (first
      | (go_at_call 204; refine (hb _).mono ?_; rintro e w2 ⟨rfl, hw2⟩; subst hw2)
      | (go_at_call 205; refine hcn.mono ?_; rintro e w3 ⟨rfl, b3⟩; have B3 := hide b3; clear b3))
    go_ret
    exact ⟨rfl, unhide B3⟩
  | false =>
    rw [han] at hcn
    have hpos : ∀ (j : Nat) (x : Int), l[j]? = some x → 0 < x := fun j x hj => by
      have := (List.any_eq_false.1 han) x (List.mem_of_getElem? hj)
      simp at this; omega
    have HP := hide hpos
    clear hpos han
    simp only [Bool.false_eq_true, if_false]
    go_enter Tryz.func173, Tryz.ntmps173
    go_wp2_with (first
      | (go_at_call 204; refine (hb _).mono ?_; rintro e w2 ⟨rfl, hw2⟩; subst hw2)
      | (go_at_call 205; refine hcn.mono ?_; rintro e w3 ⟨rfl, b3⟩; have B3 := hide b3; clear b3))
    clear hcn
    go_loopw [5, 14] (fun pv i wr => ∃ (k : Nat) (p : Int), k ≤ l.length ∧ i = .int .i64 k ∧ pv = .int .i64 p ∧ 1 ≤ p ∧ p ≤ max M 1 ∧ prodGo M (l.drop k) p = prodGo M l 1 ∧ Below w2.heap.size w2 wr) (fun _ i _ => l.length - (intOf i).toNat)
    case atStart => exact ⟨0, 1, by omega, rfl, rfl, Int.le_refl _, by omega, rfl, unhide B3⟩
    case round =>
      obtain ⟨k, p, hk, rfl, rfl, s0, s1, heq, hbel⟩ := hrel
      have HB := hide hbel
      by_cases hlt : k < l.length
      · obtain ⟨x, hx, hxd⟩ := get_at hlt
        obtain ⟨b, off, hq, hb, hc⟩ := intsAt (unhide HA) hx
        subst hq
        have g := (hbel.cell (p := ⟨b, off + k, none⟩) hb).trans hc
        have ki0 : (0 : Int) ≤ (k : Int) := by omega
        have ki1 : (k : Int) < (l.length : Int) := by omega
        rw [hxd] at heq
        have x0 := unhide HP k x hx
        have xn : ¬ x = 0 := by omega
        obtain ⟨D, hD⟩ : ∃ D, M.tdiv x = D := ⟨_, rfl⟩
        have D0 : 0 ≤ D ∧ D ≤ M := by
          rw [← hD, Int.tdiv_eq_ediv_of_nonneg h0]
          exact ⟨Int.ediv_nonneg h0 (by omega), Int.ediv_le_self x h0⟩
        have w1 : IntKind.i64.wrap D = D := wrap_of _ (by omega) (by omega)
        by_cases hgt : D < p
        · simp only [prodGo, hD, if_pos hgt] at heq
          have w2 : IntKind.i64.wrap (M + 1) = M + 1 := wrap_of _ (by omega) (by omega)
          have HE := hide heq
          clear heq hbel hxd hx hc
          go_wp2
          go_ret
          exact ⟨by rw [← unhide HE]; rfl, unhide HB⟩
        · have hps := prod_step h0 s0 x0 (by rw [hD]; exact hgt)
          simp only [prodGo, hD, if_neg hgt] at heq
          obtain ⟨Z, hZ⟩ : ∃ Z, p * x = Z := ⟨_, rfl⟩
          rw [hZ] at hps heq
          have w2 : IntKind.i64.wrap Z = Z := wrap_of _ (by omega) (by omega)
          have HE := hide heq
          clear heq hbel hxd hx hc
          go_wp2
          go_roundw
          case rel => exact ⟨k + 1, Z, by omega, by go_num, rfl, by omega, by omega, unhide HE, unhide HB⟩
          case measure => simp [intOf]; omega
      · have ki1 : ¬ (k : Int) < (l.length : Int) := by omega
        rw [List.drop_of_length_le (by omega)] at heq
        have HE := hide heq
        clear heq hbel
        go_wp2
        go_ret
        exact ⟨by rw [← unhide HE]; rfl, unhide HB⟩
end Go.Proofs.YtimklglliffpcaaGreat
