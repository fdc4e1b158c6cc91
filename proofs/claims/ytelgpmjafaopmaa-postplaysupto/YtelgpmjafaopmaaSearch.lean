/- slices.BinarySearchFunc over posts, by ID and by post; slices.BinarySearch over numbers. -/
import Derived.Test.YtelgpmjafaopmaaRising
namespace Go.Proofs.Ytelgpmjafaopmaa
open Go.RowKit Go.Sort Go.Shelf

/-- How many stand ahead of the first that is not below. -/
def cnt {α : Type} (p : α → Bool) (l : List α) : Nat := (l.takeWhile p).length
theorem cnt_le {α : Type} (p : α → Bool) (l : List α) : cnt p l ≤ l.length := by
  unfold cnt; exact (List.takeWhile_prefix p).length_le
theorem cnt_is {α : Type} {p : α → Bool} {l : List α} {i : Nat} (hi : i ≤ l.length) (h1 : ∀ t x, t < i → l[t]? = some x → p x = true) (h2 : ∀ x, l[i]? = some x → p x = false) : cnt p l = i := by
  unfold cnt
  induction l generalizing i with
  | nil => simp at hi; simp [hi]
  | cons a l ih =>
    cases i with
    | zero =>
      have := h2 a rfl
      simp [this]
    | succ i =>
      have := h1 0 a (by omega) rfl
      simp only [List.takeWhile_cons, this, if_true, List.length_cons]
      rw [ih (by simpa using hi) (fun t x ht hx => h1 (t + 1) x (by omega) (by simpa using hx)) (fun x hx => h2 x (by simpa using hx))]
/-- What is below stands ahead of what is not. -/
def Mono {α : Type} (p : α → Bool) (l : List α) : Prop := ∀ (i j : Nat) (x y : α), i ≤ j → l[i]? = some x → l[j]? = some y → p y = true → p x = true
theorem cnt_at {α : Type} {p : α → Bool} {l : List α} {i : Nat} (hi : i ≤ l.length) (hm : Mono p l) (h1 : ∀ x, 0 < i → l[i - 1]? = some x → p x = true) (h2 : ∀ x, l[i]? = some x → p x = false) : cnt p l = i := by
  refine cnt_is hi (fun t x ht hx => ?_) h2
  obtain ⟨z, hz, _⟩ := get_at (l := l) (k := i - 1) (by omega)
  exact hm t (i - 1) x z (by omega) hx hz (h1 z (by omega) hz)
theorem shr_half (a b : Nat) : ((a : Int) + (b : Int)) / 2 ^ 1 = (((a + b) / 2 : Nat) : Int) := by
  have : (2 : Int) ^ 1 = 2 := by decide
  rw [this]; omega

theorem below_grown_any {B : Nat} {w wr : World} (h : Below B w wr) (hB : B ≤ wr.heap.size) (n : Nat) (os : Array Obj) : Below B w (grow (wr.drewN n) os) :=
  ⟨h.os, h.tape, h.output, Nat.le_trans h.size (by simp [grow]), fun k hk => by
    rw [← h.block k hk]
    show (wr.heap ++ os)[k]? = _
    rw [Array.getElem?_append_left (by omega)]⟩
def ltD (id : Int) (x : Pt) : Bool := decide (x.1 < id)
/-- Does the one at its place have the ID? -/
def hitD (id : Int) (l : List Pt) : Bool := match l[cnt (ltD id) l]? with
  | some x => cmpI x.1 id == 0
  | none => false
theorem cmpI_neg (a b : Int) : cmpI a b < 0 ↔ a < b := by unfold cmpI; repeat' split
                                                          all_goals omega
theorem cmpI_zero (a b : Int) : cmpI a b = 0 ↔ a = b := by unfold cmpI; repeat' split
                                                           all_goals omega
set_option maxHeartbeats 2000000 in
set_option maxRecDepth 100000 in
theorem searchD (q : Option Addr) (c : Nat) (l : List Pt) (id : Int) (w : World) (hs : SlOf encP 2 w q c l) (hl : l.length ≤ 100000000000000) (hm : Mono (ltD id) l) :
    Calls Try.prog 36 #[.slice q l.length c, .int .i64 id, .func (.func 37) #[] #[]] w fun e w' => e = .returned (.tuple #[.int .i64 (cnt (ltD id) l : Nat), .bool (hitD id l)]) ∧ Below w.heap.size w w' := by
  have e37 : ∀ args w, (callFunc 37 args).run Try.prog w = .ok (.enter 37 args) w := enters_of Try.func37 (by kernel_rfl) rfl
  have HS := hide hs
  have HM := hide hm
  have l1 : (l.length : Int) ≤ 100000000000000 := by omega
  clear hs hm
  go_enter Try.func36, Try.ntmps36
  go_wp2
  go_loopw [9, 10] (fun s9 s10 wr => ∃ lo hi : Nat, s9 = .int .i64 lo ∧ s10 = .int .i64 hi ∧ lo ≤ hi ∧ hi ≤ l.length ∧ (∀ x, 0 < lo → l[lo - 1]? = some x → ltD id x = true) ∧ (∀ x, l[hi]? = some x → ltD id x = false) ∧ Below w.heap.size w wr) (fun s9 s10 _ => (intOf s10).toNat - (intOf s9).toNat)
  case atStart => exact ⟨0, l.length, rfl, rfl, Nat.zero_le _, Nat.le_refl _, fun x h => by omega, fun x h => by simp at h, Below.refl _ _⟩
  case round =>
    obtain ⟨lo, hi, rfl, rfl, hlh, hin, h1, h2, hb⟩ := hrel
    have HB := hide hb
    have H1 := hide h1
    have H2 := hide h2
    by_cases hlt : lo < hi
    · obtain ⟨y, hy, _⟩ := get_at (l := l) (k := (lo + hi) / 2) (by omega)
      obtain ⟨b, off, hq, hbs, c0, c1⟩ := postAt ((unhide HS).below hb) hy
      have HY := hide hy
      have hc := fun W => compareD y id W
      subst hq
      clear hb h1 h2 hy
      by_cases hyx : cmpI y.1 id < 0
      · have HL := hide (show ltD id y = true from decide_eq_true ((cmpI_neg _ _).1 hyx))
        go_wp2_with (go_at_fn 37; refine (hc _).mono ?_; rintro e w' ⟨rfl, nq, osq, rfl⟩)
        go_roundw
        case rel => exact ⟨(lo + hi) / 2 + 1, hi, by rw [show ((lo : Int) + (hi : Int)) / 2 + 1 = (((lo + hi) / 2 + 1 : Nat) : Int) by omega], rfl, by omega, hin, fun x _ hx => (by rw [Nat.add_sub_cancel, unhide HY] at hx; cases hx; exact unhide HL), unhide H2, below_grown_any (unhide HB) (unhide HB).size _ _⟩
        case measure => simp [intOf]; omega
      · have HL := hide (show ltD id y = false from decide_eq_false fun h => hyx ((cmpI_neg _ _).2 h))
        go_wp2_with (go_at_fn 37; refine (hc _).mono ?_; rintro e w' ⟨rfl, nq, osq, rfl⟩)
        go_roundw
        case rel => exact ⟨lo, (lo + hi) / 2, rfl, by rw [show ((lo : Int) + (hi : Int)) / 2 = (((lo + hi) / 2 : Nat) : Int) by omega], by omega, by omega, unhide H1, fun x hx => (by rw [unhide HY] at hx; cases hx; exact unhide HL), below_grown_any (unhide HB) (unhide HB).size _ _⟩
        case measure => simp [intOf]; omega
    · obtain rfl : hi = lo := by omega
      have HC := hide (cnt_at hin (unhide HM) h1 h2)
      by_cases hn : hi < l.length
      · obtain ⟨y, hy, _⟩ := get_at (l := l) (k := hi) hn
        obtain ⟨b, off, hq, hbs, c0, c1⟩ := postAt ((unhide HS).below hb) hy
        have hc := fun W => compareD y id W
        have HH := hide (show hitD id l = (cmpI y.1 id == 0) by unfold hitD; rw [unhide HC, hy])
        subst hq
        clear hb h1 h2 hy
        go_wp2_with (go_at_fn 37; refine (hc _).mono ?_; rintro e w' ⟨rfl, nq, osq, rfl⟩)
        all_goals
          go_ret2
          exact ⟨by rw [unhide HC, unhide HH]; rfl, below_grown_any (unhide HB) (unhide HB).size _ _⟩
      · have HH := hide (show hitD id l = false by unfold hitD; rw [unhide HC, List.getElem?_eq_none (by omega)])
        clear hb h1 h2
        go_wp2
        go_ret2
        exact ⟨by rw [unhide HC, unhide HH]; rfl, unhide HB⟩

def ltQ (p : Pt) (x : Pt) : Bool := decide (ltP x p)
theorem Str.at {l : List Pt} (h : Str l) {i j : Nat} {x y : Pt} (hij : i < j) (hx : l[i]? = some x) (hy : l[j]? = some y) : ltP x y := by
  obtain ⟨hi, rfl⟩ := List.getElem?_eq_some_iff.1 hx
  obtain ⟨hj, rfl⟩ := List.getElem?_eq_some_iff.1 hy
  exact (List.pairwise_iff_getElem.1 h) i j hi hj hij
theorem mono_ltQ {l : List Pt} (h : Str l) (p : Pt) : Mono (ltQ p) l := fun i j x y hij hx hy hp => by
  by_cases e : i = j
  · subst e; rw [hx] at hy; cases hy; exact hp
  · exact decide_eq_true (lt_trans (h.at (by omega) hx hy) (of_decide_eq_true hp))
theorem mono_ltD {l : List Pt} (h : Str l) (id : Int) : Mono (ltD id) l := fun i j x y hij hx hy hp => by
  by_cases e : i = j
  · subst e; rw [hx] at hy; cases hy; exact hp
  · have h1 := lt_id (h.at (by omega) hx hy)
    have h2 : y.1 < id := of_decide_eq_true hp
    exact decide_eq_true (by omega)
theorem mem_at {l : List Pt} (h : Str l) {p : Pt} {i : Nat} (h1 : ∀ x, 0 < i → l[i - 1]? = some x → ltQ p x = true) (hi : i ≤ l.length) (h2 : ∀ x, l[i]? = some x → ltQ p x = false) : p ∈ l ↔ l[i]? = some p := by
  constructor
  · intro hm
    obtain ⟨j, hj, e⟩ := List.getElem_of_mem hm
    have hjp : l[j]? = some p := by rw [List.getElem?_eq_getElem hj, e]
    by_cases hji : j < i
    · obtain ⟨z, hz, _⟩ := get_at (l := l) (k := i - 1) (by omega)
      have hzp : ltP z p := of_decide_eq_true (h1 z (by omega) hz)
      by_cases e2 : j = i - 1
      · subst e2; rw [hjp] at hz; cases hz; exact absurd hzp (lt_irrefl p)
      · exact absurd (h.at (by omega) hjp hz) (lt_asymm hzp)
    · by_cases e2 : j = i
      · subst e2; exact hjp
      · obtain ⟨z, hz, _⟩ := get_at (l := l) (k := i) (by omega)
        have hzp : ¬ ltP z p := of_decide_eq_false (h2 z hz)
        exact absurd (h.at (by omega) hz hjp) hzp
  · intro e
    exact List.mem_of_getElem? e
end Go.Proofs.Ytelgpmjafaopmaa
