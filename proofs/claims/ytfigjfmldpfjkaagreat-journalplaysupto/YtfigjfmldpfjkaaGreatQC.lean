/- The document's disk: Crash. -/
import Derived.Test.YtfigjfmldpfjkaaGreatZak
import Derived.Test.YtfigjfmldpfjkaaGreatR11
namespace Go.Proofs.YtfigjfmldpfjkaaGreat
open Go.RowKit Go.Sort Go.Shelf

section
variable {P : Nat → Prop} {w : World} {g c : Nat} {r : Rk} {q : Option Addr} {s : JS} {Z : Nat}
theorem rcrashJ (h : RIn P w g r q c) (hr : RelJ s r Z) (hZ : Z ≤ 30000000000000) (p : Option Addr) (k : Nat) (cs : List Int) (hc : SlOf encI 1 w p k cs) (hpg : 0 < cs.length → ∀ a, p = some a → a.block ≠ g) (hcl : cs.length ≤ 30000000000000) :
    Calls Tryz.prog 54 #[.pointer (some ⟨g, 0, none⟩), .slice p cs.length k] w fun e w' => e = .returned (.pointer (some ⟨w.heap.size, 0, none⟩)) ∧ (∃ rn, RelJ (crashM s cs) rn Z ∧ RAt (fun i => w.heap.size < i) w' w.heap.size rn) ∧ w.grownBy w' (some g) := by
  have hl := len2 hr
  refine (rcrash_any h p k cs hc hpg (by omega) (fun x hx => ?_) hcl).mono ?_
  · obtain ⟨_, o2, o3⟩ := hr.f.ok x hx
    exact ⟨o2, by omega⟩
  · rintro e w' ⟨h1, ⟨L, h2, h3⟩, _, h5⟩
    exact ⟨h1, ⟨_, relJ_crash hr h2, h3⟩, h5⟩
end
end Go.Proofs.YtfigjfmldpfjkaaGreat
