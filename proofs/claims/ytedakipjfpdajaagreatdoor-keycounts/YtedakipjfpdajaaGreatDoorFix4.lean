/- law12.fixed: key.firsts at one pair. -/
import Derived.Test.YtedakipjfpdajaaGreatDoorFix2
import Derived.Test.YtedakipjfpdajaaGreatDoorPair
namespace Go.Proofs.YtedakipjfpdajaaGreatDoor
open Go.RowKit Go.Sort Go.Shelf

/-- Nothing is sorted where one stands alone. -/
theorem insR1 (q : Option Addr) (c : Nat) (f : Value) (w : World) : Calls Tryz.prog 152 #[.slice q 1 c, .int .i64 0, .int .i64 1, f] w fun e w' => e = .returned (.tuple #[]) ∧ w' = w := by
  go_enter Tryz.func152, Tryz.ntmps152
  go_wp2
  go_loopw [8] (fun i wr => i = .int .i64 1 ∧ wr = w) (fun _ _ => 0)
  case atStart => exact ⟨rfl, rfl⟩
  case round =>
    obtain ⟨rfl, hw⟩ := hrel
    obtain rfl := hw.symm
    go_wp2
    go_end0
    exact ⟨rfl, rfl⟩
theorem stabR1 (q : Option Addr) (c : Nat) (f : Value) (w : World) : Calls Tryz.prog 145 #[.slice q 1 c, .int .i64 1, f] w fun e w' => e = .returned (.tuple #[]) ∧ w' = w := by
  have hi := insR1 q c f w
  go_enter Tryz.func145, Tryz.ntmps145
  go_wp2
  go_loopw [7, 8] (fun a b wr => a = .int .i64 0 ∧ b = .int .i64 20 ∧ wr = w) (fun _ _ _ => 0)
  case atStart => exact ⟨rfl, rfl, rfl⟩
  case round =>
    obtain ⟨rfl, rfl, hw⟩ := hrel
    obtain rfl := hw.symm
    go_wp2_with (go_at_call 152; refine hi.mono ?_; rintro e w1 ⟨rfl, hw1⟩; obtain rfl := hw1.symm)
    go_loopw [6] (fun a wr => a = .int .i64 20 ∧ wr = w) (fun _ _ => 0)
    case atStart => exact ⟨rfl, rfl⟩
    case round =>
      obtain ⟨rfl, hw⟩ := hrel
      obtain rfl := hw.symm
      go_wp2
      go_end0
      exact ⟨rfl, rfl⟩
theorem sortR1 (q : Option Addr) (c : Nat) (f : Value) (w : World) : Calls Tryz.prog 115 #[.slice q 1 c, f] w fun e w' => e = .returned (.tuple #[]) ∧ w' = w := by
  have hi := stabR1 q c f w
  go_enter Tryz.func115, Tryz.ntmps115
  go_wp2_with (go_at_call 145; refine hi.mono ?_; rintro e w1 ⟨rfl, hw1⟩; obtain rfl := hw1.symm)
  go_end0
  exact ⟨rfl, rfl⟩
theorem compR1 (q : Option Addr) (c : Nat) (f : Value) (w : World) : Calls Tryz.prog 68 #[.slice q 1 c, f] w fun e w' => e = .returned (.slice q 1 c) ∧ w' = w := by
  go_enter Tryz.func68, Tryz.ntmps68
  go_wp2
  go_ret
  exact ⟨rfl, rfl⟩
theorem sortedR1 (Bs : Nat) (p : Option Addr) (c : Nat) (x : Pr) (f : Value) (w : World) (hBs : Bs < w.heap.size) (hcell : w.cell? ⟨Bs, 0, none⟩ = some (.slice p 1 c)) (hc : SlOf encR 4 w p c [x]) :
    Calls Tryz.prog 69 #[.func (.func 116) #[] #[.pointer (some ⟨Bs, 0, none⟩)], f] w fun e w' => (∃ q cap, e = .returned (.slice q 1 cap) ∧ OwnK encR 42 4 w.heap.size w' q cap [x]) ∧ Below w.heap.size w w' := by
  have h := collectR Bs p c [x] (by simp) w hBs hcell hc
  clear hcell hc
  go_enter Tryz.func69, Tryz.ntmps69
  go_wp2_with (first
    | (go_at_call 114; refine h.mono ?_; rintro e w1 ⟨⟨q, cap, rfl, ho⟩, hb⟩; have HO := hide ho; have HB := hide hb; clear ho hb)
    | (go_at_call 115; refine (sortR1 q cap f _).mono ?_; rintro e w2 ⟨rfl, hw⟩; obtain rfl := hw.symm))
  go_ret
  exact ⟨⟨q, cap, rfl, unhide HO⟩, unhide HB⟩
theorem firstsR1 (p : Option Addr) (c : Nat) (x : Pr) (w : World) (hc : SlOf encR 4 w p c [x]) :
    Calls Tryz.prog 30 #[.slice p 1 c] w fun e w' => (∃ q cap, e = .returned (.slice q 1 cap) ∧ OwnK encR 42 4 w.heap.size w' q cap [x]) ∧ Below w.heap.size w w' := by
  have hal : Below w.heap.size w (w.alloc (.cells #[.slice p 1 c] 26)) := (Below.refl _ _).alloc (Nat.le_refl _) _
  have hs := fun f => sortedR1 w.heap.size p c x f (w.alloc (.cells #[.slice p 1 c] 26)) (by simp) (Boxed.new w 26 _).cell (hc.below hal)
  have hv := valuesR p 1 c w
  have HAL := hide hal
  clear hc hal
  go_enter Tryz.func30, Tryz.ntmps30
  go_wp2_with (first
    | (go_at_call 70; refine hv.mono ?_; rintro e w1 ⟨rfl, rfl⟩)
    | (go_at_call 69; refine (hs _).mono ?_; rintro e w2 ⟨⟨q, cap, rfl, ho⟩, hb⟩; have HO := hide ho; have HB := hide hb; clear ho hb)
    | (go_at_call 68; refine (compR1 q cap _ _).mono ?_; rintro e w3 ⟨rfl, hw⟩; obtain rfl := hw.symm))
  go_ret
  exact ⟨⟨q, cap, rfl, (unhide HO).mono (by simp)⟩, below_sub (unhide HAL) (unhide HB)⟩
end Go.Proofs.YtedakipjfpdajaaGreatDoor
