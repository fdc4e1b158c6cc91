/- Contracts of the Go library for strings.Compare, laid at this program. -/
import Derived.Shelf.Small.Strs
import Derived.Test.YtimklglliffpcaaGreatProg
namespace Go.Proofs
open Go.Shelf
def Tryz.cmpStr_ren:Go.Shelf.Ren:=⟨fun | 106=>122 | 213=>164 | 265=>190 | n=>n,fun | 9=>9 | 3=>3 | n=>n,fun | n=>n⟩
theorem Tryz.cmpStr:Go.Proofs.Lays.n106 Tryz.prog Tryz.cmpStr_ren:={
 mixed:=by kernel_rfl
 f106:=Tryz.func122.trans (congrArg some (by kernel_rfl))
 f213:=Tryz.func164.trans (congrArg some (by kernel_rfl))
 f265:=Tryz.func190.trans (congrArg some (by kernel_rfl))
 t3:=Tryz.underlying3
 a3:=Tryz.isAgg3
 z3:=Tryz.sizeOf3
 v3:=Tryz.zeroValue3
 t9:=Tryz.underlying9
 a9:=Tryz.isAgg9
 z9:=Tryz.sizeOf9
 v9:=Tryz.zeroValue9 }
end Go.Proofs
