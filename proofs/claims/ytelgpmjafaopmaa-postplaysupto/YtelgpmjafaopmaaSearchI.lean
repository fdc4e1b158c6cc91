/- slices.BinarySearch over numbers. -/
import Derived.Test.YtelgpmjafaopmaaSearch
namespace Go.Proofs.Ytelgpmjafaopmaa
open Go.RowKit Go.Sort Go.Shelf

theorem lessI (a b : Int) (w : World) : Calls Try.prog 58 #[.int .i64 a, .int .i64 b] w fun e w' => e = .returned (.bool (decide (a < b))) ∧ w' = w := by
  go_enter Try.func58, Try.ntmps58
  go_wp2_with (go_at_call 57; refine (nan_any _ _).mono ?_; rintro e w1 ⟨rfl, rfl⟩)
  go_ret
  exact ⟨rfl, rfl⟩
theorem nan2_any (a : Int) (w : World) : Calls Try.prog 59 #[.int .i64 a] w fun e w' => e = .returned (.bool false) ∧ w' = w := by
  have h : (a != a) = false := by simp
  go_enter Try.func59, Try.ntmps59
  go_wp2
  go_ret
  exact ⟨rfl, rfl⟩
/-- Not falling. -/
def WkI (l : List Int) : Prop := l.Pairwise (· ≤ ·)
theorem WkI.at {l : List Int} (h : WkI l) {i j : Nat} {x y : Int} (hij : i ≤ j) (hx : l[i]? = some x) (hy : l[j]? = some y) : x ≤ y := by
  by_cases e : i = j
  · subst e; rw [hx] at hy; cases hy; exact Int.le_refl _
  · obtain ⟨hi, rfl⟩ := List.getElem?_eq_some_iff.1 hx
    obtain ⟨hj, rfl⟩ := List.getElem?_eq_some_iff.1 hy
    exact (List.pairwise_iff_getElem.1 h) i j hi hj (by omega)
theorem memI_at {l : List Int} (h : WkI l) {p : Int} {i : Nat} (h1 : ∀ x, 0 < i → l[i - 1]? = some x → x < p) (hi : i ≤ l.length) (h2 : ∀ x, l[i]? = some x → p ≤ x) : p ∈ l ↔ l[i]? = some p := by
  constructor
  · intro hm
    obtain ⟨j, hj, e⟩ := List.getElem_of_mem hm
    have hjp : l[j]? = some p := by rw [List.getElem?_eq_getElem hj, e]
    by_cases hji : j < i
    · obtain ⟨z, hz, _⟩ := get_at (l := l) (k := i - 1) (by omega)
      have h3 := h1 z (by omega) hz
      have h4 := h.at (by omega) hjp hz
      omega
    · obtain ⟨z, hz, _⟩ := get_at (l := l) (k := i) (by omega)
      have h3 := h2 z hz
      have h4 := h.at (by omega) hz hjp
      rw [hz]; congr 1; omega
  · intro e
    exact List.mem_of_getElem? e
set_option maxHeartbeats 2000000 in
set_option maxRecDepth 100000 in
theorem searchI (q : Option Addr) (c : Nat) (l : List Int) (p : Int) (w : World) (hs : SlOf encI 1 w q c l) (hl : l.length ≤ 100000000000000) (hst : WkI l) :
    Calls Try.prog 50 #[.slice q l.length c, .int .i64 p] w fun e w' => (∃ n : Nat, e = .returned (.tuple #[.int .i64 (n : Nat), .bool (decide (p ∈ l))])) ∧ w' = w := by
  have HS := hide hs
  have HST := hide hst
  have l1 : (l.length : Int) ≤ 100000000000000 := by omega
  clear hs hst
  go_enter Try.func50, Try.ntmps50
  go_wp2
  go_loopw [7, 8] (fun s9 s10 wr => ∃ lo hi : Nat, s9 = .int .i64 lo ∧ s10 = .int .i64 hi ∧ lo ≤ hi ∧ hi ≤ l.length ∧ (∀ x, 0 < lo → l[lo - 1]? = some x → x < p) ∧ (∀ x, l[hi]? = some x → p ≤ x) ∧ wr = w) (fun s9 s10 _ => (intOf s10).toNat - (intOf s9).toNat)
  case atStart => exact ⟨0, l.length, rfl, rfl, Nat.zero_le _, Nat.le_refl _, fun x h => by omega, fun x h => by simp at h, rfl⟩
  case round =>
    obtain ⟨lo, hi, rfl, rfl, hlh, hin, h1, h2, rfl⟩ := hrel
    have H1 := hide h1
    have H2 := hide h2
    by_cases hlt : lo < hi
    · obtain ⟨m, hm, hm1, hm2⟩ : ∃ m : Nat, ((lo : Int) + (hi : Int)) / 2 = (m : Int) ∧ lo ≤ m ∧ m < hi := ⟨(lo + hi) / 2, by omega, by omega, by omega⟩
      obtain ⟨y, hy, _⟩ := get_at (l := l) (k := m) (by omega)
      obtain ⟨b, off, hq, hbs, c0⟩ := intAt (unhide HS) hy
      have HY := hide hy
      have m0 : (0 : Int) ≤ (m : Int) := by omega
      have m1 : (m : Int) < (l.length : Int) := by omega
      subst hq
      clear h1 h2 hy
      by_cases hyx : y < p
      · have hd : decide (y < p) = true := decide_eq_true hyx
        go_wp2_with (go_at_call 58; refine (lessI _ _ _).mono ?_; rintro e w1 ⟨rfl, rfl⟩)
        go_roundw
        case rel => exact ⟨m + 1, hi, by go_num, rfl, by omega, hin, fun x _ hx => (by rw [Nat.add_sub_cancel, unhide HY] at hx; cases hx; exact hyx), unhide H2, trivial⟩
        case measure => simp [intOf]; omega
      · have hd : decide (y < p) = false := decide_eq_false hyx
        go_wp2_with (go_at_call 58; refine (lessI _ _ _).mono ?_; rintro e w1 ⟨rfl, rfl⟩)
        go_roundw
        case rel => exact ⟨lo, m, rfl, rfl, by omega, by omega, unhide H1, fun x hx => (by rw [unhide HY] at hx; cases hx; omega), trivial⟩
        case measure => simp [intOf]; omega
    · obtain rfl : hi = lo := by omega
      have HE := hide (memI_at (unhide HST) h1 hin h2)
      by_cases hn : hi < l.length
      · obtain ⟨y, hy, _⟩ := get_at (l := l) (k := hi) hn
        obtain ⟨b, off, hq, hbs, c0⟩ := intAt (unhide HS) hy
        have hpy : p ∈ l ↔ y = p := by rw [unhide HE, hy]; simp
        have HPY := hide hpy
        subst hq
        clear h1 h2 hy hpy
        by_cases e : y = p
        · have e1 : (y == p) = true := by simpa using e
          have HR := hide (decide_eq_true ((unhide HPY).2 e))
          clear e
          go_wp2_with (go_at_call 59; refine (nan2_any _ _).mono ?_; rintro e w1 ⟨rfl, rfl⟩)
          go_ret2
          exact ⟨⟨hi, by rw [unhide HR]; rfl⟩, rfl⟩
        · have e1 : (y == p) = false := by simpa using e
          have HR := hide (decide_eq_false (fun h => e ((unhide HPY).1 h)))
          clear e
          go_wp2_with (go_at_call 59; refine (nan2_any _ _).mono ?_; rintro e w1 ⟨rfl, rfl⟩)
          go_ret2
          exact ⟨⟨hi, by rw [unhide HR]; rfl⟩, rfl⟩
      · have HR := hide (show decide (p ∈ l) = false by
          refine decide_eq_false fun h => ?_
          have := (unhide HE).1 h
          rw [List.getElem?_eq_none (by omega)] at this; cases this)
        clear h1 h2
        go_wp2
        go_ret2
        exact ⟨⟨hi, by rw [unhide HR]; rfl⟩, rfl⟩
end Go.Proofs.Ytelgpmjafaopmaa
