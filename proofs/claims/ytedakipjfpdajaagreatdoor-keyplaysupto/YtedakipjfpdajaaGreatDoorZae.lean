/- What slices.SortFunc, slices.SortedFunc and key.rising do with a list of keys. -/
import Derived.Test.YtedakipjfpdajaaGreatDoorRisA
import Derived.Test.YtedakipjfpdajaaGreatDoorZac
import Derived.Test.YtedakipjfpdajaaGreatDoorCmpK
import Derived.Test.YtedakipjfpdajaaGreatDoorShelf
import Derived.Shelf.SlSortCmp.NoneTotal
import Derived.Shelf.SlSortCmp.InsertionK
import Derived.Lib.QuietBelow
namespace Go.Proofs.YtedakipjfpdajaaGreatDoor
open Go.RowKit Go.Sort Go.Shelf

theorem perm_of {α : Type} [Inhabited α] {d d' : Array α} (h : PermIn 0 d.size d d') : d'.toList.Perm d.toList := by
  obtain ⟨hs, _, hp⟩ := h
  rw [← hs] at hp
  have e1 : d'.extract 0 d'.size = d' := Array.extract_size
  have e2 : d.extract 0 d'.size = d := by rw [hs]; exact Array.extract_size
  rw [e1, e2] at hp
  exact hp
/-- A whole row that holds l. -/
theorem OwnK.of_holds {B g cap : Nat} {w : World} {l : List Ky} {cur : Array Value} (hB : B ≤ g) (hblk : w.heap[g]? = some (.cells cur 46 (0, 0))) (hs : cur.size = cap * 5) (h1 : l.length ≤ cap) (h2 : cap ≤ maxLen) (hH : HoldsK encK 5 w g 0 l.toArray) : OwnK encK 46 5 B w (some ⟨g, 0, none⟩) cap l := by
  refine ⟨by rw [flat_len], Or.inr ⟨g, cap, cur, rfl, hB, hblk, h1, h2, hs, ?_⟩⟩
  apply List.ext_getElem?
  intro t
  by_cases ht : t < l.length * 5
  · have hc := (hH t (by simpa using ht)).1
    rw [Nat.zero_add, cell_of_row w g t cur 46 (0, 0) hblk] at hc
    rw [List.getElem?_take, if_pos ht, Array.getElem?_toList, hc]
    have hf : t < (flatK encK 5 l.toArray).size := by simpa using ht
    rw [Array.getElem?_toList, Array.getElem?_eq_getElem hf, getElem!_pos _ t hf]
    rfl
  · rw [List.getElem?_eq_none (by rw [List.length_take]; omega), List.getElem?_eq_none (by simp; omega)]
theorem ltOf_cmp (x y : Ky) : ltOf cmpK x y = decide (ltK x y) := rfl
theorem swoP : SWO (ltOf cmpK) where
  irrefl x := by rw [ltOf_cmp]; exact decide_eq_false (lt_irrefl x)
  trans x y z h1 h2 := by rw [ltOf_cmp] at *; exact decide_eq_true (lt_trans (of_decide_eq_true h1) (of_decide_eq_true h2))
  ntrans x y z h1 h2 := by
    rw [ltOf_cmp] at *
    have h1 := of_decide_eq_false h1
    have h2 := of_decide_eq_false h2
    refine decide_eq_false fun h => ?_
    by_cases hxy : ltK y x
    · exact h2 (lt_trans hxy h)
    · exact h2 ((lt_total h1 hxy) ▸ h)
theorem cmpLaysP (blk off size : Nat) (w : World) : CmpLays Tryz.prog 19 #[] encK 5 cmpK blk off size w :=
  fun _ _ _ _ x y => compareK x y _
theorem wk_of {d' : Array Ky} {n : Nat} (hs : d'.size = n) (h : SortedIn (ltOf cmpK) 0 n d') : Wk d'.toList := by
  unfold Wk
  rw [List.pairwise_iff_getElem]
  intro i j hi hj hij
  have := h i j (Nat.zero_le _) hij (by rw [← hs]; simpa using hj)
  rw [getElem!_pos _ j (by simpa using hj), getElem!_pos _ i (by simpa using hi), ltOf_cmp] at this
  simpa using of_decide_eq_false this
theorem sortP_some (B g cap : Nat) (l : List Ky) (w : World) (hl : l.length < 4611686018427387904) (h : OwnK encK 46 5 B w (some ⟨g, 0, none⟩) cap l) (h0 : 0 < l.length) :
    Calls Tryz.prog 28 #[.slice (some ⟨g, 0, none⟩) l.length cap, .func (.func 19) #[] #[]] w fun e w' => e = .returned (.tuple #[]) ∧ ∃ l', l'.Perm l ∧ Wk l' ∧ OwnK encK 46 5 B w' (some ⟨g, 0, none⟩) cap l' ∧ Below B w w' := by
  have eg : ∀ args w, (callFunc 19 args).run Tryz.prog w = .ok (.enter 19 args) w := enters_of Tryz.func19 (by kernel_rfl) rfl
  rcases h.2 with ⟨h1, h2⟩ | ⟨g', cap', cur, hv, hB, hblk, hc, hm, hs, ht⟩
  · omega
  injection hv with h1 h2 h3
  obtain rfl : g = g' := by injection h1 with h1; injection h1
  subst h3
  obtain ⟨_, _, hv', _, hg, hH, _, _⟩ := holds_own (d := l.toArray) (enc := encK) (v := .slice (some ⟨g, 0, none⟩) l.length cap) (by intro e; cases e) (by simpa [OwnK] using h)
  injection hv' with h4 h5 h6
  injection h4 with h4
  injection h4 with h4
  subst h4 h6
  have hcon := AnyQ.slices_SortFunc Tryz.sortK 5 Tryz.isAgg46 Tryz.sizeOf46 encK (fun _ => rfl) (fun x v hv => by simp [encK] at hv; rcases hv with rfl | rfl | rfl | rfl | rfl <;> rfl) cmpK swoP 19 #[] g 0 cap l.toArray w eg (cmpLaysP g 0 l.toArray.size w) hH hg (by simpa using hl)
  change Calls Tryz.prog 28 _ _ _ at hcon
  have es : l.toArray.size = l.length := by simp
  rw [es] at hcon
  refine hcon.mono fun e w' ⟨he, d', n, os, hp, hs', hw⟩ => ⟨he, d'.toList, ?_, ?_, ?_⟩
  · have := perm_of (d := l.toArray) (by rw [es]; exact hp)
    simpa using this
  · exact wk_of (hp.1.trans es) hs'
  · subst hw
    obtain ⟨a, _⟩ := holds_sortWorld (n := n) (os := os) hg hH hp.1
    obtain ⟨cur', hb', hsz'⟩ := shape_sortWorld (enc := encK) (k := 5) (n := n) (d := d') (os := os) hblk
    refine ⟨OwnK.of_holds hB hb' (by rw [hsz', hs]) ?_ hm (by simpa using a), (below_sortWorld w g n d' os hg).mono hB⟩
    have : d'.size = l.length := hp.1.trans es
    simp [this]; exact hc
theorem sortP_none (q : Option Addr) (cap : Nat) (fv : Value) (w : World) :
    Calls Tryz.prog 28 #[.slice q 0 cap, fv] w fun e w' => e = .returned (.tuple #[]) ∧ w' = w := by
  have hcon := AnyF.slices_SortFunc_none Tryz.sortK q cap fv w
  change Calls Tryz.prog 28 _ _ _ at hcon
  exact hcon
theorem sortP_any (B : Nat) (q : Option Addr) (cap : Nat) (l : List Ky) (w : World) (hl : l.length < 4611686018427387904) (h : OwnK encK 46 5 B w q cap l) :
    Calls Tryz.prog 28 #[.slice q l.length cap, .func (.func 19) #[] #[]] w fun e w' => e = .returned (.tuple #[]) ∧ ∃ l', l'.Perm l ∧ Wk l' ∧ OwnK encK 46 5 B w' q cap l' ∧ Below B w w' := by
  by_cases h0 : l.length = 0
  · obtain rfl : l = [] := List.length_eq_zero_iff.1 h0
    exact (sortP_none q cap _ w).mono fun e w' ⟨he, hw⟩ => ⟨he, [], List.Perm.refl _, List.Pairwise.nil, by rw [hw]; exact h, by rw [hw]; exact Below.refl _ _⟩
  · obtain ⟨g, rfl, _⟩ := h.some_of (by omega)
    exact sortP_some B g cap l w hl h (by omega)
/-- slices.SortedFunc over a list of keys. -/
theorem sortedP (Bs : Nat) (p : Option Addr) (c : Nat) (zs : List Ky) (hz : zs.length * 56 ≤ 140737488355328) (w : World) (hBs : Bs < w.heap.size) (hcell : w.cell? ⟨Bs, 0, none⟩ = some (.slice p zs.length c)) (hc : SlOf encK 5 w p c zs) :
    Calls Tryz.prog 82 #[.func (.func 125) #[] #[.pointer (some ⟨Bs, 0, none⟩)], .func (.func 19) #[] #[]] w fun e w' => (∃ q cap l', e = .returned (.slice q zs.length cap) ∧ l'.Perm zs ∧ Wk l' ∧ OwnK encK 46 5 w.heap.size w' q cap l') ∧ Below w.heap.size w w' := by
  have h := collectP Bs p c zs hz w hBs hcell hc
  clear hcell hc
  go_enter Tryz.func82, Tryz.ntmps82
  go_wp2_with (first
    | (go_at_call 124; refine h.mono ?_; rintro e w1 ⟨⟨q, cap, rfl, ho⟩, hb⟩; have HO := hide ho; have HB := hide hb; clear ho hb)
    | (go_at_call 28; refine (sortP_any w.heap.size q cap zs _ (by omega) (unhide HO)).mono ?_; rintro e w2 ⟨rfl, l', hp, hw, ho2, hb2⟩; have HP := hide hp; have HW := hide hw; have HO2 := hide ho2; have HB2 := hide hb2; clear hp hw ho2 hb2))
  go_ret
  exact ⟨⟨q, cap, l', rfl, unhide HP, unhide HW, unhide HO2⟩, (unhide HB).trans (unhide HB2)⟩
/-- key.rising. -/
theorem risingP (p : Option Addr) (c : Nat) (zs : List Ky) (hz : zs.length * 56 ≤ 140737488355328) (w : World) (hc : SlOf encK 5 w p c zs) :
    Calls Tryz.prog 44 #[.slice p zs.length c] w fun e w' => (∃ q cap, e = .returned (.slice q (ris zs).length cap) ∧ OwnK encK 46 5 w.heap.size w' q cap (ris zs)) ∧ Below w.heap.size w w' := by
  have hal : Below w.heap.size w (w.alloc (.cells #[.slice p zs.length c] 30)) := (Below.refl _ _).alloc (Nat.le_refl _) _
  have hs := sortedP w.heap.size p c zs hz (w.alloc (.cells #[.slice p zs.length c] 30)) (by simp) (Boxed.new w 30 _).cell (hc.below hal)
  have hv := valuesP p zs.length c w
  have HAL := hide hal
  clear hc hal
  go_enter Tryz.func44, Tryz.ntmps44
  go_wp2_with (first
    | (go_at_call 83; refine hv.mono ?_; rintro e w1 ⟨rfl, rfl⟩)
    | (go_at_call 82; refine hs.mono ?_; rintro e w2 ⟨⟨q, cap, l', rfl, hp, hw, ho⟩, hb⟩; have hle := hp.length_eq; have HP := hide hp; have HW := hide hw; have HO := hide ho; have HB := hide hb; clear hp hw ho hb)
    | (go_at_call 81; refine (show Calls Tryz.prog 81 #[.slice q zs.length cap] w2 _ from hle ▸ compactP (w.alloc (.cells #[.slice p zs.length c] 30)).heap.size q cap l' w2 (unhide HO) (unhide HB).size (by omega)).mono ?_; rintro e w3 ⟨rfl, ho3, hb3⟩; have HO3 := hide ho3; have HB3 := hide hb3; clear ho3 hb3))
  go_ret
  have e1 : cpt l' = ris zs := cpt_ris (unhide HW) fun x => (unhide HP).mem_iff
  refine ⟨⟨q, cap, by rw [← e1]; rfl, ?_⟩, ?_⟩
  · rw [← e1]; exact (unhide HO3).mono (by simp)
  · exact below_sub (unhide HAL) ((unhide HB).trans (unhide HB3))
end Go.Proofs.YtedakipjfpdajaaGreatDoor
namespace Go.Proofs.YtedakipjfpdajaaGreatDoor
open Go.RowKit Go.Sort Go.Shelf

def cnt {α : Type} (p : α → Bool) (l : List α) : Nat := (l.takeWhile p).length
theorem cnt_le {α : Type} (p : α → Bool) (l : List α) : cnt p l ≤ l.length := by
  unfold cnt; exact (List.takeWhile_prefix p).length_le
theorem cnt_is {α : Type} {p : α → Bool} {l : List α} {i : Nat} (hi : i ≤ l.length) (h1 : ∀ t x, t < i → l[t]? = some x → p x = true) (h2 : ∀ x, l[i]? = some x → p x = false) : cnt p l = i := by
  unfold cnt
  induction l generalizing i with
  | nil => simp at hi; simp [hi]
  | cons a l ih =>
    cases i with
    | zero =>
      have := h2 a rfl
      simp [this]
    | succ i =>
      have := h1 0 a (by omega) rfl
      simp only [List.takeWhile_cons, this, if_true, List.length_cons]
      rw [ih (by simpa using hi) (fun t x ht hx => h1 (t + 1) x (by omega) (by simpa using hx)) (fun x hx => h2 x (by simpa using hx))]
def Mono {α : Type} (p : α → Bool) (l : List α) : Prop := ∀ (i j : Nat) (x y : α), i ≤ j → l[i]? = some x → l[j]? = some y → p y = true → p x = true
theorem cnt_at {α : Type} {p : α → Bool} {l : List α} {i : Nat} (hi : i ≤ l.length) (hm : Mono p l) (h1 : ∀ x, 0 < i → l[i - 1]? = some x → p x = true) (h2 : ∀ x, l[i]? = some x → p x = false) : cnt p l = i := by
  refine cnt_is hi (fun t x ht hx => ?_) h2
  obtain ⟨z, hz, _⟩ := get_at (l := l) (k := i - 1) (by omega)
  exact hm t (i - 1) x z (by omega) hx hz (h1 z (by omega) hz)
theorem below_grown_any {B : Nat} {w wr : World} (h : Below B w wr) (hB : B ≤ wr.heap.size) (n : Nat) (os : Array Obj) : Below B w (grow (wr.drewN n) os) :=
  ⟨h.os, h.tape, h.output, Nat.le_trans h.size (by simp [grow]), fun k hk => by
    rw [← h.block k hk]
    show (wr.heap ++ os)[k]? = _
    rw [Array.getElem?_append_left (by omega)]⟩
def ltQ (p : Ky) (x : Ky) : Bool := decide (ltK x p)
theorem Str.at {l : List Ky} (h : Str l) {i j : Nat} {x y : Ky} (hij : i < j) (hx : l[i]? = some x) (hy : l[j]? = some y) : ltK x y := by
  obtain ⟨hi, rfl⟩ := List.getElem?_eq_some_iff.1 hx
  obtain ⟨hj, rfl⟩ := List.getElem?_eq_some_iff.1 hy
  exact (List.pairwise_iff_getElem.1 h) i j hi hj hij
theorem mono_ltQ {l : List Ky} (h : Str l) (p : Ky) : Mono (ltQ p) l := fun i j x y hij hx hy hp => by
  by_cases e : i = j
  · subst e; rw [hx] at hy; cases hy; exact hp
  · exact decide_eq_true (lt_trans (h.at (by omega) hx hy) (of_decide_eq_true hp))
theorem mem_at {l : List Ky} (h : Str l) {p : Ky} {i : Nat} (h1 : ∀ x, 0 < i → l[i - 1]? = some x → ltQ p x = true) (hi : i ≤ l.length) (h2 : ∀ x, l[i]? = some x → ltQ p x = false) : p ∈ l ↔ l[i]? = some p := by
  constructor
  · intro hm
    obtain ⟨j, hj, e⟩ := List.getElem_of_mem hm
    have hjp : l[j]? = some p := by rw [List.getElem?_eq_getElem hj, e]
    by_cases hji : j < i
    · obtain ⟨z, hz, _⟩ := get_at (l := l) (k := i - 1) (by omega)
      have hzp : ltK z p := of_decide_eq_true (h1 z (by omega) hz)
      by_cases e2 : j = i - 1
      · subst e2; rw [hjp] at hz; cases hz; exact absurd hzp (lt_irrefl p)
      · exact absurd (h.at (by omega) hjp hz) (lt_asymm hzp)
    · by_cases e2 : j = i
      · subst e2; exact hjp
      · obtain ⟨z, hz, _⟩ := get_at (l := l) (k := i) (by omega)
        have hzp : ¬ ltK z p := of_decide_eq_false (h2 z hz)
        exact absurd (h.at (by omega) hz hjp) hzp
  · intro e
    exact List.mem_of_getElem? e

theorem grown_all {w : World} {a : Addr} {v : Value} (hb : a.block < w.heap.size) (h : w.cell? a = some v) : ∀ n os, (grow (w.drewN n) os).cell? a = some v := cell_grown hb h
set_option maxHeartbeats 2000000 in
set_option maxRecDepth 100000 in
theorem searchP (q : Option Addr) (c : Nat) (l : List Ky) (p : Ky) (w : World) (hs : SlOf encK 5 w q c l) (hl : l.length ≤ 100000000000000) (hst : Str l) :
    Calls Tryz.prog 47 #[.slice q l.length c, .agg #[.string p.attr, .int .i64 p.kind, .int .i64 p.level, .int .i64 p.num, .string p.word], .func (.func 19) #[] #[]] w fun e w' => e = .returned (.tuple #[.int .i64 (cnt (ltQ p) l : Nat), .bool (decide (p ∈ l))]) ∧ Below w.heap.size w w' := by
  have mixed : Tryz.prog.follows .mixedOrders = true := by kernel_rfl
  have e43 : ∀ args w, (callFunc 19 args).run Tryz.prog w = .ok (.enter 19 args) w := enters_of Tryz.func19 (by kernel_rfl) rfl
  obtain ⟨w0, hw0⟩ : ∃ w0, w0 = w.alloc (.cells #[.string p.attr, .int .i64 p.kind, .int .i64 p.level, .int .i64 p.num, .string p.word] 46) := ⟨_, rfl⟩
  have hB0 : Below w.heap.size w w0 := by rw [hw0]; exact (Below.refl _ _).alloc (Nat.le_refl _) _
  have hz0 : w0.heap.size = w.heap.size + 1 := by rw [hw0]; simp
  obtain ⟨p0, p1, p2, p3, p4⟩ := cells_of_block (show w0.heap[w.heap.size]? = some (.cells #[.string p.attr, .int .i64 p.kind, .int .i64 p.level, .int .i64 p.num, .string p.word] 46 (0, 0)) by rw [hw0]; exact World.alloc_heap_new w _)
  have HS := hide (hs.below hB0)
  have HM := hide (mono_ltQ hst p)
  have HST := hide hst
  have HB0 := hide hB0
  have P0 := hide p0
  have P1 := hide p1
  have P2 := hide p2
  have P3 := hide p3
  have P4 := hide p4
  have l1 : (l.length : Int) ≤ 100000000000000 := by omega
  clear hs hst hB0 p0 p1 p2 p3 p4
  go_enter Tryz.func47, Tryz.ntmps47
  go_wp2
  rw [← hw0]
  clear hw0
  go_loopw [9, 10] (fun s9 s10 wr => ∃ lo hi : Nat, s9 = .int .i64 lo ∧ s10 = .int .i64 hi ∧ lo ≤ hi ∧ hi ≤ l.length ∧ (∀ x, 0 < lo → l[lo - 1]? = some x → ltQ p x = true) ∧ (∀ x, l[hi]? = some x → ltQ p x = false) ∧ Below w0.heap.size w0 wr) (fun s9 s10 _ => (intOf s10).toNat - (intOf s9).toNat)
  case atStart => exact ⟨0, l.length, rfl, rfl, Nat.zero_le _, Nat.le_refl _, fun x h => by omega, fun x h => by simp at h, Below.refl _ _⟩
  case round =>
    obtain ⟨lo, hi, rfl, rfl, hlh, hin, h1, h2, hb⟩ := hrel
    have HB := hide hb
    have H1 := hide h1
    have H2 := hide h2
    have hsz := hb.size
    have q0 := grown_all (a := ⟨w.heap.size, 0, none⟩) (w := wr) (by show w.heap.size < _; omega) ((hb.cell (p := ⟨w.heap.size, 0, none⟩) (by show w.heap.size < _; omega)).trans (unhide P0))
    have q1 := grown_all (a := ⟨w.heap.size, 1, none⟩) (w := wr) (by show w.heap.size < _; omega) ((hb.cell (p := ⟨w.heap.size, 1, none⟩) (by show w.heap.size < _; omega)).trans (unhide P1))
    have q2 := grown_all (a := ⟨w.heap.size, 2, none⟩) (w := wr) (by show w.heap.size < _; omega) ((hb.cell (p := ⟨w.heap.size, 2, none⟩) (by show w.heap.size < _; omega)).trans (unhide P2))
    have q3 := grown_all (a := ⟨w.heap.size, 3, none⟩) (w := wr) (by show w.heap.size < _; omega) ((hb.cell (p := ⟨w.heap.size, 3, none⟩) (by show w.heap.size < _; omega)).trans (unhide P3))
    have q4 := grown_all (a := ⟨w.heap.size, 4, none⟩) (w := wr) (by show w.heap.size < _; omega) ((hb.cell (p := ⟨w.heap.size, 4, none⟩) (by show w.heap.size < _; omega)).trans (unhide P4))
    by_cases hlt : lo < hi
    · obtain ⟨m, hm, hm1, hm2⟩ : ∃ m : Nat, ((lo : Int) + (hi : Int)) / 2 = (m : Int) ∧ lo ≤ m ∧ m < hi := ⟨(lo + hi) / 2, by omega, by omega, by omega⟩
      obtain ⟨y, hy, _⟩ := get_at (l := l) (k := m) (by omega)
      obtain ⟨b, off, hq, hbs, c0, c1, c2, c3, c4⟩ := postAt ((unhide HS).below hb) hy
      have d0 := grown_all (a := ⟨b, off + m * 5, none⟩) hbs c0
      have d1 := grown_all (a := ⟨b, off + m * 5 + 1, none⟩) hbs c1
      have d2 := grown_all (a := ⟨b, off + m * 5 + 2, none⟩) hbs c2
      have d3 := grown_all (a := ⟨b, off + m * 5 + 3, none⟩) hbs c3
      have d4 := grown_all (a := ⟨b, off + m * 5 + 4, none⟩) hbs c4
      have m0 : (0 : Int) ≤ (m : Int) := by omega
      have m1 : (m : Int) < (l.length : Int) := by omega
      have HY := hide hy
      subst hq
      clear hb h1 h2 hy c0 c1 c2 c3 c4
      by_cases hyx : cmpK y p < 0
      · have HL := hide (show ltQ p y = true from decide_eq_true hyx)
        go_wp2
        go_quiet_grown (first | (go_at_fn 19; refine Calls.grown_of (compareK y p _)))
        go_wp2
        go_roundw
        case rel => exact ⟨m + 1, hi, by go_num, rfl, by omega, hin, fun x _ hx => (by rw [Nat.add_sub_cancel, unhide HY] at hx; cases hx; exact unhide HL), unhide H2, below_grown_any (unhide HB) (unhide HB).size _ _⟩
        case measure => simp [intOf]; omega
      · have HL := hide (show ltQ p y = false from decide_eq_false hyx)
        go_wp2
        go_quiet_grown (first | (go_at_fn 19; refine Calls.grown_of (compareK y p _)))
        go_wp2
        go_roundw
        case rel => exact ⟨lo, m, rfl, rfl, by omega, by omega, unhide H1, fun x hx => (by rw [unhide HY] at hx; cases hx; exact unhide HL), below_grown_any (unhide HB) (unhide HB).size _ _⟩
        case measure => simp [intOf]; omega
    · obtain rfl : hi = lo := by omega
      have HC := hide (cnt_at hin (unhide HM) h1 h2)
      have HE := hide (mem_at (unhide HST) h1 hin h2)
      by_cases hn : hi < l.length
      · obtain ⟨y, hy, _⟩ := get_at (l := l) (k := hi) hn
        obtain ⟨b, off, hq, hbs, c0, c1, c2, c3, c4⟩ := postAt ((unhide HS).below hb) hy
        have d0 := grown_all (a := ⟨b, off + hi * 5, none⟩) hbs c0
        have d1 := grown_all (a := ⟨b, off + hi * 5 + 1, none⟩) hbs c1
        have d2 := grown_all (a := ⟨b, off + hi * 5 + 2, none⟩) hbs c2
        have d3 := grown_all (a := ⟨b, off + hi * 5 + 3, none⟩) hbs c3
        have d4 := grown_all (a := ⟨b, off + hi * 5 + 4, none⟩) hbs c4
        have HR := hide (show decide (p ∈ l) = (cmpK y p == 0) by
          have hpy : p ∈ l ↔ y = p := (by rw [unhide HE, hy]; simp)
          by_cases e : y = p
          · rw [decide_eq_true (hpy.2 e), e, (cmp_zero p p).2 rfl]; rfl
          · rw [decide_eq_false (fun h => e (hpy.1 h))]
            symm
            rw [beq_eq_false_iff_ne]
            exact fun h => e ((cmp_zero y p).1 h))
        have hd : decide ((hi : Int) < (l.length : Int)) = true := decide_eq_true (by omega)
        subst hq
        clear hb h1 h2 hy c0 c1 c2 c3 c4
        go_wp2
        go_quiet_grown (first | (go_at_fn 19; refine Calls.grown_of (compareK y p _)))
        go_wp2
        go_ret2
        exact ⟨by rw [unhide HC, unhide HR]; rfl, below_sub (unhide HB0) (below_grown_any (unhide HB) (unhide HB).size _ _)⟩
      · have HR := hide (show decide (p ∈ l) = false by
          refine decide_eq_false fun h => ?_
          have := (unhide HE).1 h
          rw [List.getElem?_eq_none (by omega)] at this; cases this)
        have hd : decide ((hi : Int) < (l.length : Int)) = false := decide_eq_false (by omega)
        clear hb h1 h2
        go_wp2
        refine wp_region_quiet_below (by assumption) (by kernel_rfl) ?_
        repeat (go_big_quiet_step (fail))
        refine wpQuiet_nil ?_
        intro _ hw'
        obtain ⟨⟨dq, osq⟩, hw''⟩ := hw'
        subst hw''
        go_wp2
        go_ret2
        exact ⟨by rw [unhide HC, unhide HR]; rfl, below_sub (unhide HB0) (below_sub (unhide HB) (below_regrown _ _ _))⟩
end Go.Proofs.YtedakipjfpdajaaGreatDoor
namespace Go.Proofs.YtedakipjfpdajaaGreatDoor
open Go.RowKit Go.Sort Go.Shelf

theorem box_nw (w : World) (o : Obj) : (w.alloc o).heap[w.heap.size]? = some o := World.alloc_heap_new w o
/-- The others of key.Shared: a box that holds a rising list. -/
def Oth (W : World) (Bo : Nat) (m : List Ky) : Prop := ∃ q c, W.cell? ⟨Bo, 0, none⟩ = some (.slice q m.length c) ∧ Bo < W.heap.size ∧ SlOf encK 5 W q c m
theorem Oth.below {W W' : World} {Bo : Nat} {m : List Ky} (h : Oth W Bo m) (hb : Below W.heap.size W W') : Oth W' Bo m := by
  obtain ⟨q, c, h1, h2, h3⟩ := h
  exact ⟨q, c, (hb.cell (p := ⟨Bo, 0, none⟩) h2).trans h1, Nat.lt_of_lt_of_le h2 hb.size, h3.below hb⟩
set_option maxHeartbeats 1000000 in
set_option maxRecDepth 100000 in
theorem delK (x : Ky) (Bo : Nat) (m : List Ky) (W : World) (ho : Oth W Bo m) (hs : Str m) (hl : m.length ≤ 100000000000000) :
    Calls Tryz.prog 46 #[.agg #[.string x.attr, .int .i64 x.kind, .int .i64 x.level, .int .i64 x.num, .string x.word], .pointer (some ⟨Bo, 0, none⟩)] W fun e w' => e = .returned (.bool (!decide (x ∈ m))) ∧ Below W.heap.size W w' := by
  obtain ⟨q, c, h1, h2, h3⟩ := ho
  obtain ⟨X, HX⟩ : ∃ X, W.alloc (.cells #[.string x.attr, .int .i64 x.kind, .int .i64 x.level, .int .i64 x.num, .string x.word] 46) = X := ⟨_, rfl⟩
  have bX : Below W.heap.size W X := by rw [← HX]; exact (Below.refl _ _).alloc (Nat.le_refl _) _
  obtain ⟨e0, e1, e2, e3, e4⟩ := cells_of_block (show X.heap[W.heap.size]? = some (.cells #[.string x.attr, .int .i64 x.kind, .int .i64 x.level, .int .i64 x.num, .string x.word] 46 (0, 0)) by rw [← HX]; exact box_nw _ _)
  have g0 := (bX.cell (p := ⟨Bo, 0, none⟩) h2).trans h1
  have hS := searchP q c m x X (h3.below bX) hl hs
  have BX := hide bX
  clear h1 h3 bX
  go_enter Tryz.func46, Tryz.ntmps46
  go_wp2_with (go_at_call 47; refine hS.mono ?_; rintro e w1 ⟨rfl, b1⟩; have B1 := hide b1; clear b1)
  go_ret
  exact ⟨ret_bool (by simp), below_sub (unhide BX) (unhide B1)⟩
def inK (m : List Ky) (x : Ky) : Bool := decide (x ∈ m)
/-- How many first ones are in. -/
def fstOut (m : List Ky) (l : List Ky) : Nat := cnt (inK m) l
def idxK (m l : List Ky) : Int := if fstOut m l < l.length then (fstOut m l : Int) else -1
set_option maxHeartbeats 1000000 in
set_option maxRecDepth 100000 in
theorem indexK (q : Option Addr) (c : Nat) (l : List Ky) (Bo : Nat) (m : List Ky) (w : World) (hs : SlOf encK 5 w q c l) (ho : Oth w Bo m) (hm : Str m) (hl : l.length ≤ 100000000000000) (hml : m.length ≤ 100000000000000) :
    Calls Tryz.prog 84 #[.slice q l.length c, .func (.func 46) #[] #[.pointer (some ⟨Bo, 0, none⟩)]] w fun e w' => e = .returned (.int .i64 (idxK m l)) ∧ Below w.heap.size w w' := by
  have l1 : (l.length : Int) ≤ 100000000000000 := by omega
  have HS := hide hs
  have HO := hide ho
  have HM := hide hm
  clear hs ho hm
  go_enter Tryz.func84, Tryz.ntmps84
  go_wp2
  go_loopw [8] (fun i wr => ∃ k : Nat, k ≤ l.length ∧ i = .int .i64 k ∧ (∀ (t : Nat) (x : Ky), t < k → l[t]? = some x → inK m x = true) ∧ Below w.heap.size w wr) (fun i _ => l.length - (intOf i).toNat)
  case atStart => exact ⟨0, by omega, rfl, fun t x h => absurd h (by omega), Below.refl _ _⟩
  case round =>
    obtain ⟨k, hk, rfl, hall, hbel⟩ := hrel
    have HB := hide hbel
    have HA := hide hall
    by_cases hlt : k < l.length
    · obtain ⟨x, hx, hxd⟩ := get_at hlt
      clear hxd
      obtain ⟨b, off, hq, hbs, c0, c1, c2, c3, c4⟩ := postAt ((unhide HS).below hbel) hx
      subst hq
      have ki0 : (0 : Int) ≤ (k : Int) := by omega
      have ki1 : (k : Int) < (l.length : Int) := by omega
      have hD := delK x Bo m wr ((unhide HO).below hbel) (unhide HM) hml
      have HX := hide hx
      cases hin : inK m x with
      | true =>
        rw [show decide (x ∈ m) = true from hin] at hD
        clear hx hbel hall
        go_wp2_with (go_at_call 46; refine hD.mono ?_; rintro e w1 ⟨rfl, b1⟩; have B1 := hide b1; clear b1)
        go_roundw
        case rel => exact ⟨k + 1, by omega, by go_num, fun t y ht hy => (by
            by_cases e : t = k
            · subst e; rw [unhide HX] at hy; cases hy; exact hin
            · exact unhide HA t y (by omega) hy), below_sub (unhide HB) (unhide B1)⟩
        case measure => simp [intOf]; omega
      | false =>
        rw [show decide (x ∈ m) = false from hin] at hD
        have HC := hide (show fstOut m l = k from cnt_is (by omega) hall (fun y hy => by rw [hx] at hy; cases hy; exact hin))
        clear hx hbel hall
        go_wp2_with (go_at_call 46; refine hD.mono ?_; rintro e w1 ⟨rfl, b1⟩; have B1 := hide b1; clear b1)
        go_ret
        exact ⟨ret_int (by unfold idxK; rw [unhide HC, if_pos hlt]), below_sub (unhide HB) (unhide B1)⟩
    · have ki1 : ¬ (k : Int) < (l.length : Int) := by omega
      have HC := hide (show fstOut m l = l.length from cnt_is (Nat.le_refl _) (fun t y ht hy => hall t y (by omega) hy) (fun y hy => by simp at hy))
      clear hbel hall
      go_wp2
      go_ret
      exact ⟨ret_int (by unfold idxK; rw [unhide HC, if_neg (by omega)]), unhide HB⟩
end Go.Proofs.YtedakipjfpdajaaGreatDoor
