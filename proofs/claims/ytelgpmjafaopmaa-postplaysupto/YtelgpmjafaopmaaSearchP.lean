/- slices.BinarySearchFunc over posts, by post. -/
import Derived.Test.YtelgpmjafaopmaaSearch
namespace Go.Proofs.Ytelgpmjafaopmaa
open Go.RowKit Go.Sort Go.Shelf

theorem grown_all {w : World} {a : Addr} {v : Value} (hb : a.block < w.heap.size) (h : w.cell? a = some v) : ∀ n os, (grow (w.drewN n) os).cell? a = some v := cell_grown hb h
set_option maxHeartbeats 2000000 in
set_option maxRecDepth 100000 in
theorem searchP (q : Option Addr) (c : Nat) (l : List Pt) (p : Pt) (w : World) (hs : SlOf encP 2 w q c l) (hl : l.length ≤ 100000000000000) (hst : Str l) :
    Calls Try.prog 42 #[.slice q l.length c, .agg #[.int .i64 p.1, .bool p.2], .func (.func 43) #[] #[]] w fun e w' => e = .returned (.tuple #[.int .i64 (cnt (ltQ p) l : Nat), .bool (decide (p ∈ l))]) ∧ Below w.heap.size w w' := by
  have mixed : Try.prog.follows .mixedOrders = true := by kernel_rfl
  have e43 : ∀ args w, (callFunc 43 args).run Try.prog w = .ok (.enter 43 args) w := enters_of Try.func43 (by kernel_rfl) rfl
  obtain ⟨w0, hw0⟩ : ∃ w0, w0 = w.alloc (.cells #[.int .i64 p.1, .bool p.2] 43) := ⟨_, rfl⟩
  have hB0 : Below w.heap.size w w0 := by rw [hw0]; exact (Below.refl _ _).alloc (Nat.le_refl _) _
  have hz0 : w0.heap.size = w.heap.size + 1 := by rw [hw0]; simp
  obtain ⟨p0, p1⟩ := cells_of_block (show w0.heap[w.heap.size]? = some (.cells #[.int .i64 p.1, .bool p.2] 43 (0, 0)) by rw [hw0]; exact World.alloc_heap_new w _)
  have HS := hide (hs.below hB0)
  have HM := hide (mono_ltQ hst p)
  have HST := hide hst
  have HB0 := hide hB0
  have P0 := hide p0
  have P1 := hide p1
  have l1 : (l.length : Int) ≤ 100000000000000 := by omega
  clear hs hst hB0 p0 p1
  go_enter Try.func42, Try.ntmps42
  go_wp2
  rw [← hw0]
  clear hw0
  go_loopw [9, 10] (fun s9 s10 wr => ∃ lo hi : Nat, s9 = .int .i64 lo ∧ s10 = .int .i64 hi ∧ lo ≤ hi ∧ hi ≤ l.length ∧ (∀ x, 0 < lo → l[lo - 1]? = some x → ltQ p x = true) ∧ (∀ x, l[hi]? = some x → ltQ p x = false) ∧ Below w0.heap.size w0 wr) (fun s9 s10 _ => (intOf s10).toNat - (intOf s9).toNat)
  case atStart => exact ⟨0, l.length, rfl, rfl, Nat.zero_le _, Nat.le_refl _, fun x h => by omega, fun x h => by simp at h, Below.refl _ _⟩
  case round =>
    obtain ⟨lo, hi, rfl, rfl, hlh, hin, h1, h2, hb⟩ := hrel
    have HB := hide hb
    have H1 := hide h1
    have H2 := hide h2
    have hsz := hb.size
    have q0 := grown_all (a := ⟨w.heap.size, 0, none⟩) (w := wr) (by show w.heap.size < _; omega) ((hb.cell (p := ⟨w.heap.size, 0, none⟩) (by show w.heap.size < _; omega)).trans (unhide P0))
    have q1 := grown_all (a := ⟨w.heap.size, 1, none⟩) (w := wr) (by show w.heap.size < _; omega) ((hb.cell (p := ⟨w.heap.size, 1, none⟩) (by show w.heap.size < _; omega)).trans (unhide P1))
    by_cases hlt : lo < hi
    · obtain ⟨m, hm, hm1, hm2⟩ : ∃ m : Nat, ((lo : Int) + (hi : Int)) / 2 = (m : Int) ∧ lo ≤ m ∧ m < hi := ⟨(lo + hi) / 2, by omega, by omega, by omega⟩
      obtain ⟨y, hy, _⟩ := get_at (l := l) (k := m) (by omega)
      obtain ⟨b, off, hq, hbs, c0, c1⟩ := postAt ((unhide HS).below hb) hy
      have d0 := grown_all (a := ⟨b, off + m * 2, none⟩) hbs c0
      have d1 := grown_all (a := ⟨b, off + m * 2 + 1, none⟩) hbs c1
      have m0 : (0 : Int) ≤ (m : Int) := by omega
      have m1 : (m : Int) < (l.length : Int) := by omega
      have HY := hide hy
      subst hq
      clear hb h1 h2 hy c0 c1
      by_cases hyx : cmpP y p < 0
      · have HL := hide (show ltQ p y = true from decide_eq_true hyx)
        go_wp2
        go_quiet_grown (first | (go_at_fn 43; refine Calls.grown_of (compareP y p _)))
        go_wp2
        go_roundw
        case rel => exact ⟨m + 1, hi, by go_num, rfl, by omega, hin, fun x _ hx => (by rw [Nat.add_sub_cancel, unhide HY] at hx; cases hx; exact unhide HL), unhide H2, below_grown_any (unhide HB) (unhide HB).size _ _⟩
        case measure => simp [intOf]; omega
      · have HL := hide (show ltQ p y = false from decide_eq_false hyx)
        go_wp2
        go_quiet_grown (first | (go_at_fn 43; refine Calls.grown_of (compareP y p _)))
        go_wp2
        go_roundw
        case rel => exact ⟨lo, m, rfl, rfl, by omega, by omega, unhide H1, fun x hx => (by rw [unhide HY] at hx; cases hx; exact unhide HL), below_grown_any (unhide HB) (unhide HB).size _ _⟩
        case measure => simp [intOf]; omega
    · obtain rfl : hi = lo := by omega
      have HC := hide (cnt_at hin (unhide HM) h1 h2)
      have HE := hide (mem_at (unhide HST) h1 hin h2)
      by_cases hn : hi < l.length
      · obtain ⟨y, hy, _⟩ := get_at (l := l) (k := hi) hn
        obtain ⟨b, off, hq, hbs, c0, c1⟩ := postAt ((unhide HS).below hb) hy
        have d0 := grown_all (a := ⟨b, off + hi * 2, none⟩) hbs c0
        have d1 := grown_all (a := ⟨b, off + hi * 2 + 1, none⟩) hbs c1
        have HR := hide (show decide (p ∈ l) = (cmpP y p == 0) by
          have hpy : p ∈ l ↔ y = p := (by rw [unhide HE, hy]; simp)
          by_cases e : y = p
          · rw [decide_eq_true (hpy.2 e), e, (cmp_zero p p).2 rfl]; rfl
          · rw [decide_eq_false (fun h => e (hpy.1 h))]
            symm
            rw [beq_eq_false_iff_ne]
            exact fun h => e ((cmp_zero y p).1 h))
        have hd : decide ((hi : Int) < (l.length : Int)) = true := decide_eq_true (by omega)
        subst hq
        clear hb h1 h2 hy c0 c1
        go_wp2
        go_quiet_grown (first | (go_at_fn 43; refine Calls.grown_of (compareP y p _)))
        go_wp2
        go_ret2
        exact ⟨by rw [unhide HC, unhide HR]; rfl, below_sub (unhide HB0) (below_grown_any (unhide HB) (unhide HB).size _ _)⟩
      · have HR := hide (show decide (p ∈ l) = false by
          refine decide_eq_false fun h => ?_
          have := (unhide HE).1 h
          rw [List.getElem?_eq_none (by omega)] at this; cases this)
        have hd : decide ((hi : Int) < (l.length : Int)) = false := decide_eq_false (by omega)
        clear hb h1 h2
        go_wp2
        refine wp_region_quiet_below (by assumption) (by kernel_rfl) ?_
        repeat (go_big_quiet_step (fail))
        refine wpQuiet_nil ?_
        intro _ hw'
        obtain ⟨⟨dq, osq⟩, hw''⟩ := hw'
        subst hw''
        go_wp2
        go_ret2
        exact ⟨by rw [unhide HC, unhide HR]; rfl, below_sub (unhide HB0) (below_sub (unhide HB) (below_regrown _ _ _))⟩
end Go.Proofs.Ytelgpmjafaopmaa
