/- key.firsts over any list: for each name the first pair, in the order of the names. -/
import Derived.Test.YtjbafggnbfknfaaGreatDoorZah
import Derived.Test.YtjbafggnbfknfaaGreatDoorStV
namespace Go.Proofs.YtjbafggnbfknfaaGreatDoor
open Go.RowKit Go.Sort Go.Shelf

/-- Nothing is sorted where there is nothing. -/
theorem insR0 (q : Option Addr) (c : Nat) (f : Value) (w : World) : Calls Tryz.prog 152 #[.slice q 0 c, .int .i64 0, .int .i64 0, f] w fun e w' => e = .returned (.tuple #[]) ∧ w' = w := by
  go_enter Tryz.func152, Tryz.ntmps152
  go_wp2
  go_loopw [8] (fun i wr => i = .int .i64 1 ∧ wr = w) (fun _ _ => 0)
  case atStart => exact ⟨rfl, rfl⟩
  case round =>
    obtain ⟨rfl, hw⟩ := hrel
    obtain rfl := hw.symm
    go_wp2
    go_end0
    exact ⟨rfl, rfl⟩
theorem stabR0 (q : Option Addr) (c : Nat) (f : Value) (w : World) : Calls Tryz.prog 145 #[.slice q 0 c, .int .i64 0, f] w fun e w' => e = .returned (.tuple #[]) ∧ w' = w := by
  have hi := insR0 q c f w
  go_enter Tryz.func145, Tryz.ntmps145
  go_wp2
  go_loopw [7, 8] (fun a b wr => a = .int .i64 0 ∧ b = .int .i64 20 ∧ wr = w) (fun _ _ _ => 0)
  case atStart => exact ⟨rfl, rfl, rfl⟩
  case round =>
    obtain ⟨rfl, rfl, hw⟩ := hrel
    obtain rfl := hw.symm
    go_wp2_with (go_at_call 152; refine hi.mono ?_; rintro e w1 ⟨rfl, hw1⟩; obtain rfl := hw1.symm)
    go_loopw [6] (fun a wr => a = .int .i64 20 ∧ wr = w) (fun _ _ => 0)
    case atStart => exact ⟨rfl, rfl⟩
    case round =>
      obtain ⟨rfl, hw⟩ := hrel
      obtain rfl := hw.symm
      go_wp2
      go_end0
      exact ⟨rfl, rfl⟩
/-- slices.stableCmpFunc over any list of the call's own. -/
theorem stable_any (B : Nat) (q : Option Addr) (cap : Nat) (l : List Pr) (w : World) (h : OwnK encR 42 4 B w q cap l) (hl : l.length < 1152921504606846976) :
    Calls Tryz.prog 145 #[.slice q l.length cap, .int .i64 l.length, .func (.func 66) #[] #[]] w fun e w' => e = .returned (.tuple #[]) ∧ ∃ D, Sd D ∧ Stb l D ∧ OwnK encR 42 4 B w' q cap D ∧ Below B w w' := by
  by_cases h0 : 0 < l.length
  · obtain ⟨g, rfl, _⟩ := someR h h0
    exact stable B g cap l.length l w h rfl hl
  · obtain rfl : l = [] := List.length_eq_zero_iff.1 (by omega)
    refine (stabR0 q cap _ w).mono ?_
    rintro e w' ⟨he, hw⟩
    subst hw
    exact ⟨he, [], sd_nil, Stb.refl _, h, Below.refl _ _⟩
theorem sortR (B : Nat) (q : Option Addr) (cap : Nat) (l : List Pr) (w : World) (h : OwnK encR 42 4 B w q cap l) (hl : l.length < 1152921504606846976) :
    Calls Tryz.prog 115 #[.slice q l.length cap, .func (.func 66) #[] #[]] w fun e w' => e = .returned (.tuple #[]) ∧ ∃ D, Sd D ∧ Stb l D ∧ OwnK encR 42 4 B w' q cap D ∧ Below B w w' := by
  have hi := stable_any B q cap l w h hl
  have hlz : (l.length : Int) < 1152921504606846976 := by omega
  clear h
  go_enter Tryz.func115, Tryz.ntmps115
  go_wp2_with (go_at_call 145; refine hi.mono ?_; rintro e w1 ⟨rfl, HH⟩; have HH := hide HH)
  go_end0
  exact ⟨rfl, unhide HH⟩
theorem sortedR (Bs : Nat) (p : Option Addr) (c : Nat) (l : List Pr) (w : World) (hl : l.length * 48 ≤ 140737488355328) (hBs : Bs < w.heap.size) (hcell : w.cell? ⟨Bs, 0, none⟩ = some (.slice p l.length c)) (hc : SlOf encR 4 w p c l) :
    Calls Tryz.prog 69 #[.func (.func 116) #[] #[.pointer (some ⟨Bs, 0, none⟩)], .func (.func 66) #[] #[]] w fun e w' => (∃ q cap D, e = .returned (.slice q l.length cap) ∧ Sd D ∧ Stb l D ∧ OwnK encR 42 4 w.heap.size w' q cap D) ∧ Below w.heap.size w w' := by
  have h := collectR Bs p c l hl w hBs hcell hc
  clear hcell hc
  have hl2 : l.length < 1152921504606846976 := by omega
  go_enter Tryz.func69, Tryz.ntmps69
  go_wp2_with (first
    | (go_at_call 114; refine h.mono ?_; rintro e w1 ⟨⟨q, cap, rfl, ho⟩, hb⟩; have HS := hide (sortR _ q cap l _ ho hl2); have HB := hide hb; clear ho hb)
    | (go_at_call 115; refine (unhide HS).mono ?_; rintro e w2 ⟨rfl, D, s1, s2, o2, b2⟩; have HD := hide (show Sd D ∧ Stb l D from ⟨s1, s2⟩); have HO := hide o2; have HB2 := hide ((unhide HB).trans b2); clear s1 s2 o2 b2))
  go_ret
  exact ⟨⟨q, cap, D, rfl, (unhide HD).1, (unhide HD).2, unhide HO⟩, unhide HB2⟩
/-- key.firsts: sorted by names and stable, then the first of each name. -/
theorem firsts_of (p : Option Addr) (c : Nat) (l : List Pr) (w : World) (hl : l.length * 48 ≤ 140737488355328) (hc : SlOf encR 4 w p c l) :
    Calls Tryz.prog 30 #[.slice p l.length c] w fun e w' => (∃ q cap D, e = .returned (.slice q (cptR D).length cap) ∧ Sd D ∧ Stb l D ∧ OwnK encR 42 4 w.heap.size w' q cap (cptR D)) ∧ Below w.heap.size w w' := by
  have hal : Below w.heap.size w (w.alloc (.cells #[.slice p l.length c] 26)) := (Below.refl _ _).alloc (Nat.le_refl _) _
  have hs := sortedR w.heap.size p c l (w.alloc (.cells #[.slice p l.length c] 26)) hl (by simp) (Boxed.new w 26 _).cell (hc.below hal)
  have hv := valuesR p l.length c w
  have HAL := hide hal
  have hC : ∀ (q : Option Addr) (cap : Nat) (D : List Pr) (w2 : World), Stb l D → OwnK encR 42 4 (w.alloc (.cells #[.slice p l.length c] 26)).heap.size w2 q cap D → Below (w.alloc (.cells #[.slice p l.length c] 26)).heap.size (w.alloc (.cells #[.slice p l.length c] 26)) w2 →
      Calls Tryz.prog 68 #[.slice q l.length cap, .func (.func 67) #[] #[]] w2 fun e w' => e = .returned (.slice q (cptR D).length cap) ∧ OwnK encR 42 4 w.heap.size w' q cap (cptR D) ∧ Below w.heap.size w2 w' := by
    intro q cap D w2 s2 ho hb
    have h1 : w.heap.size ≤ (w.alloc (.cells #[.slice p l.length c] 26)).heap.size := by simp
    have h2 := compactR w.heap.size q cap D w2 (ho.mono h1) (Nat.le_trans h1 hb.size) (by have := s2.1; omega)
    rw [s2.1] at h2
    exact h2
  clear hc hal hl
  go_enter Tryz.func30, Tryz.ntmps30
  go_wp2_with (first
    | (go_at_call 70; refine hv.mono ?_; rintro e w1 ⟨rfl, rfl⟩)
    | (go_at_call 69; refine hs.mono ?_; rintro e w2 ⟨⟨q, cap, D, rfl, s1, s2, ho⟩, hb⟩; have HD := hide (show Sd D ∧ Stb l D from ⟨s1, s2⟩); have HC := hide (hC q cap D w2 s2 ho hb); have HB := hide hb; clear ho hb s1 s2)
    | (go_at_call 68; refine (unhide HC).mono ?_; rintro e w3 ⟨rfl, o3, b3⟩; have HO := hide o3; have HB3 := hide b3; clear o3 b3))
  go_ret
  exact ⟨⟨q, cap, D, rfl, (unhide HD).1, (unhide HD).2, unhide HO⟩, (below_sub (unhide HAL) (unhide HB)).trans (unhide HB3)⟩
end Go.Proofs.YtjbafggnbfknfaaGreatDoor
