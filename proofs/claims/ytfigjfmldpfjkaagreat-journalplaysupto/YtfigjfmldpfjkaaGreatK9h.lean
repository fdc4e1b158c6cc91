/- Rewrite once more. -/
import Derived.Test.YtfigjfmldpfjkaaGreatZao
namespace Go.Proofs.YtfigjfmldpfjkaaGreat
open Go.RowKit Go.Sort Go.Shelf

section
variable {B P : Nat → Prop} {w w' : World} {gw d g gj gs : Nat} {r r' : Rk} {s s' : JS} {M A M' A' Z : Nat} {x x' : JX} {L L' : List Ch}
theorem krew2h (h : KM B P w gw d g (some gj) (some gs) r) (hj : KJ B P w gw d g gj gs x L s M) (hr : RelJ s r M) (hs : Sz s M A) (hA : A ≤ 5000) (n : Int) {cs : List Ch} (hM : M + (20 + cs.length * 4130) ≤ 25000000000) {q : Option Addr} {c : Nat} (hc : SlIn encC 3 (fun i => B i ∧ i ≠ g ∧ i ≠ gs) w q c cs) {V : World} (h1 : P1 B w gj d (jRew s x n cs).2.1 (jRew s x n cs).2.2 V) :
    Calls Tryz.prog 33 #[.pointer (some ⟨gs, 0, none⟩), .int .i64 n, .slice q cs.length c] V fun e V2 => e = .returned (.int .i64 (jRew s x n cs).1) ∧ KE B P w gw g d g (jRew s x n cs).2.1 (M + (20 + cs.length * 4130)) (A + 3) V2 ∧ V2.heap[gw]? = V.heap[gw]? := by
  have h3 := hs.2.2
  obtain ⟨q1, c1, qj, cj, i1, i2⟩ := hj.rin h h1.2
  have hcw := hc.kept h1.2.size fun i hi hl => h1.2.block i hi.1 hl
  obtain ⟨z1, z2, z3, z4⟩ := jRew_sz hs hj.l1 hj.l2 hj.l3 n cs
  refine (rjrew i1 i2 hr (by omega) (by omega) n q c cs hcw.1 (fun h0 a ha => (hc.2 h0 a ha).2) (by omega)).mono ?_
  rintro e V2 ⟨h4, h5⟩
  exact ⟨h4, jpair_end h hj h1.1 h1.2 h5 z1 z2 z3 z4, h5.fr.block gw ⟨h.wg, fun e => hj.ne e.symm⟩ (h.prog h1.2).lt⟩
end
end Go.Proofs.YtfigjfmldpfjkaaGreat
