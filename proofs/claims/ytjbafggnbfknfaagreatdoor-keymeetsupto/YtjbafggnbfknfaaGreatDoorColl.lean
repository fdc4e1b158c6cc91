/- slices.Values and slices.Collect over keys. -/
import Derived.Test.YtjbafggnbfknfaaGreatDoorIter
namespace Go.Proofs.YtjbafggnbfknfaaGreatDoor
open Go.RowKit Go.Sort Go.Shelf

theorem valuesP (q : Option Addr) (n c : Nat) (w : World) :
    Calls Tryz.prog 83 #[.slice q n c] w fun e w' => e = .returned (.func (.func 125) #[] #[.pointer (some ⟨w.heap.size, 0, none⟩)]) ∧ w' = w.alloc (.cells #[.slice q n c] 30) := by
  go_enter Tryz.func83, Tryz.ntmps83
  go_wp2
  go_ret
  exact ⟨rfl, rfl⟩
theorem collectP (Bs : Nat) (p : Option Addr) (c : Nat) (zs : List Ky) (hz : zs.length * 56 ≤ 140737488355328) (w : World) (hBs : Bs < w.heap.size) (hcell : w.cell? ⟨Bs, 0, none⟩ = some (.slice p zs.length c)) (hc : SlOf encK 5 w p c zs) :
    Calls Tryz.prog 124 #[.func (.func 125) #[] #[.pointer (some ⟨Bs, 0, none⟩)]] w fun e w' => (∃ q cap, e = .returned (.slice q zs.length cap) ∧ OwnK encK 46 5 w.heap.size w' q cap zs) ∧ Below w.heap.size w w' := by
  have h := appP Bs p c zs hz w hBs hcell hc
  clear hcell hc
  go_enter Tryz.func124, Tryz.ntmps124
  go_wp2_with (go_at_call 146; refine h.mono ?_; rintro e w1 ⟨⟨q, cap, rfl, ho⟩, hb⟩)
  go_ret
  exact ⟨⟨q, cap, rfl, ho⟩, hb⟩
end Go.Proofs.YtjbafggnbfknfaaGreatDoor
