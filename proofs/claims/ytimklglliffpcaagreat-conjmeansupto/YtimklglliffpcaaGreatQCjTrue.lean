/- The law ConjTrue: an expression is true just where one of its conjunctions holds. -/
import Derived.Test.YtimklglliffpcaaGreatQCjFix
import Derived.Test.YtimklglliffpcaaGreatQZSm
import Derived.Test.YtimklglliffpcaaGreatQZao
import Derived.Test.YtimklglliffpcaaGreatQZOl
namespace Go.Proofs.YtimklglliffpcaaGreat
open Go.RowKit Go.Sort Go.Shelf

theorem gd_small {p:Pd} (h:Gd p):p.small:=⟨Nat.le_trans h.1.2.2.1 (by decide),Nat.le_trans h.1.2.2.2.1 (by decide)⟩
theorem cptD_len (l:List Pd):(cptD l).length≤l.length:=by
 have:∀ (l acc:List Pd),(l.foldl stepD acc).length≤acc.length + l.length:=by
  intro l
  induction l with
  | nil=>intro acc;simp
  | cons x r ih =>
   intro acc
   rw [List.foldl_cons]
   refine Nat.le_trans (ih _) ?_
   have:(stepD acc x).length≤acc.length + 1:=by unfold stepD;split <;> simp
   simp only [List.length_cons]
   omega
 simpa [cptD] using this l []
end Go.Proofs.YtimklglliffpcaaGreat
