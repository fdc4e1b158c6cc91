/- Helpers for the law PushPlays. -/
import Derived.Test.YtikhopiegaoacabOPushFixed
import Derived.Test.YtikhopiegaoacabOSameNode
import Derived.Lib.QuietBelow
import Derived.BigQuiet
import Derived.Shelf.Abstract
namespace Go.Proofs.Ytikhopiegaoacab
open Go.RowKit Go.Sort

theorem sameTT {t:Nd} (va vb:Nv) (w:World) (ha:NdIn w va t) (hb:NdIn w vb t) (ok:wtN t≤1000000000):Calls Try.prog 10 #[.agg #[.int .i64 va.kind,.string va.attr,.slice va.qi va.ni va.ci,.slice va.qw va.nw va.cw,.int .i64 va.lo,.int .i64 va.hi,.int .i64 va.op,.slice va.qk va.nk va.ck],.agg #[.int .i64 vb.kind,.string vb.attr,.slice vb.qi vb.ni vb.ci,.slice vb.qw vb.nw vb.cw,.int .i64 vb.lo,.int .i64 vb.hi,.int .i64 vb.op,.slice vb.qk vb.nk vb.ck]] w fun e w'=>e=.returned (.bool true)∧Below w.heap.size w w':=by
 have:=sameM_all t t va vb w ha hb (OkN.of_wt t ok)
 rwa [sameT_yes rfl] at this
theorem zero_in (w:World):NdIn w ⟨0,⟨#[]⟩,none,0,0,none,0,0,0,0,0,none,0,0⟩ zeroT :=
 NdIn.make (ints:=[]) (words:=[]) (kids:=[]) (SlOf.none _) (SlOf.none _) ⟨[],SlOf.none _,rfl,fun j v x h=>by simp at h⟩
end Go.Proofs.Ytikhopiegaoacab
