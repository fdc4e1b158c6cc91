/- world.do: one call of any kind. -/
import Derived.Test.YtelgpmjafaopmaaDoTA
import Derived.Test.YtelgpmjafaopmaaDoTB
import Derived.Test.YtelgpmjafaopmaaDoFA
import Derived.Test.YtelgpmjafaopmaaDoFB
namespace Go.Proofs.Ytelgpmjafaopmaa
open Go.RowKit Go.Sort Go.Shelf

theorem do_any (B G : Nat) (s : St) (w : World) (h : Wd B w G s) (kind : Int) (sec : Bool) (pp : Option Addr) (cp : Nat) (ps : List Pt) (pi : Option Addr) (ci : Nat) (is : List Int) (id : Int)
    (hps : ∀ W, Below B w W → SlOf encP 2 W pp cp ps) (his : ∀ W, Below B w W → SlOf encI 1 W pi ci is) (hml : s.m = s.l) (hkk : s.kr = s.kc) (hB : B ≤ w.heap.size) (hp : ps.length ≤ 1048576) (hi : is.length ≤ 1048576) (hlc : s.lc.length ≤ 1000000000000) (hll : ∀ b, (s.l b).length ≤ 1000000000000) :
    Calls Try.prog 10 #[.pointer (some ⟨G, 0, none⟩), .agg (opV kind sec pp ps.length cp pi is.length ci id)] w fun e w' => e = .returned (.bool true) ∧ ∃ s', Wd B w' G s' ∧ s'.m = s'.l ∧ s'.kr = s'.kc ∧ Below B w w' ∧ Grew s s' ps.length := by
  by_cases hk : (kind = 1 ∨ kind = 2 ∨ kind = 3 ∨ kind = 4)
  · cases sec
    · exact do_fA B G s w h kind pp cp ps pi ci is id hk hps his hml hkk hB hp hi hlc hll
    · exact do_tA B G s w h kind pp cp ps pi ci is id hk hps his hml hkk hB hp hi hlc hll
  · cases sec
    · exact do_fB B G s w h kind pp cp ps pi ci is id hk hps his hml hkk hB hp hi hlc hll
    · exact do_tB B G s w h kind pp cp ps pi ci is id hk hps his hml hkk hB hp hi hlc hll
end Go.Proofs.Ytelgpmjafaopmaa
