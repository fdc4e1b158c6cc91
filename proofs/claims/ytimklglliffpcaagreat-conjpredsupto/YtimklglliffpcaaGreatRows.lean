/-
  NARROWER THAN 'FOR EVERY INPUT', by the rows' own cells (each row's printed sentence says how): ConjAlls: loops · ConjTrue: loops · ConjOwns: loops.
  DERIVED. THE GIVEN ROWS OF THIS SEAT. 8 by the template 'for every input the law returns true; each argument reads behind the call as it read before'; 0 by the template 'total and deterministic' (their statements: YtimklglliffpcaaGreatTotals.lean).
  GIVEN WITH THE SEED: the statements are not yours to turn. If you find one false, say at which input.
  Laid BY PROGRAM, IN A SANDBOX (cutbox-rows.mjs): the forced cells as the released guide's own fill.sh prints them over the translation 596416ce20387e07… (all of the seat's roots in one cut). By AI agents, Wed Nov 11 2026. No macro, syntax, notation, axiom, sorry.
-/
import Derived.Test.YtimklglliffpcaaGreatChecked
import GoSem.Claim
import GoSem.ClaimJoined
import GoSem.ClaimMapViews
import Derived.JoinedTies
import Derived.KernelRfl
namespace Go.Proofs.YtimklglliffpcaaGreat
/- THE CELL 'sum', in the pinned program and in every row, IS THE sha256 OF THE DUMP (.gsa) THAT YtimklglliffpcaaGreatProg.lean LOADS. Nothing in Lean hashes anything: it is a label: what it is worth is what the hold of that sum in a sandbox is worth. -/
noncomputable def Tryz.pinned : Pinned := { name := "ytimklglliffpcaagreat", sum := "596416ce20387e0729e5b689f28e933b2ff1af238bd94c768e9c3d873a8ffcf9", checked := Tryz.checked }
namespace Rows
def none {H : Type} : Left H := { results := [], args := [] }

/-- 'trommellaw09.ConjPreds': WHATEVER THE INPUT: true; the input reads as it did. -/
def conjPredsSpec : ChangeSpec := { name := "conjPreds", fn := fun _ => fun
  | [d1, d2] => { results := [.lit (.bool true)], args := [d1, d2] }
  | _ => none }
def conjPredsRow : OpenClaim := { program := "ytimklglliffpcaagreat", sum := "596416ce20387e0729e5b689f28e933b2ff1af238bd94c768e9c3d873a8ffcf9", func := "trommel/trommellaw09.ConjPreds", spec := "conjPreds", inPlace := ["internal/bytealg.abigen_runtime_cmpstring"], unfollowed := true, recurses := true, apart := false }
def ConjPredsSaid : Prop := conjPredsRow.holds Tryz.pinned (OpenSpec.ofChange conjPredsSpec)

/-- ITS FALSE NEIGHBOUR: 'it returns false'. Refute it at one input. -/
def conjPredsWrong : ChangeSpec := { name := "conjPreds", fn := fun _ => fun
  | [d1, d2] => { results := [.lit (.bool false)], args := [d1, d2] }
  | _ => none }
def ConjPredsWrongFalsely : Prop := conjPredsRow.holds Tryz.pinned (OpenSpec.ofChange conjPredsWrong)

/-- 'trommellaw09.ConjPlays': WHATEVER THE INPUT: true; the input reads as it did. -/
def conjPlaysSpec : ChangeSpec := { name := "conjPlays", fn := fun _ => fun
  | [d1, d2, d3] => { results := [.lit (.bool true)], args := [d1, d2, d3] }
  | _ => none }
def conjPlaysRow : OpenClaim := { program := "ytimklglliffpcaagreat", sum := "596416ce20387e0729e5b689f28e933b2ff1af238bd94c768e9c3d873a8ffcf9", func := "trommel/trommellaw09.ConjPlays", spec := "conjPlays", inPlace := ["internal/bytealg.abigen_runtime_cmpstring"], unfollowed := true, recurses := true, apart := false }
def ConjPlaysSaid : Prop := conjPlaysRow.holds Tryz.pinned (OpenSpec.ofChange conjPlaysSpec)

/-- ITS FALSE NEIGHBOUR: 'it returns false'. Refute it at one input. -/
def conjPlaysWrong : ChangeSpec := { name := "conjPlays", fn := fun _ => fun
  | [d1, d2, d3] => { results := [.lit (.bool false)], args := [d1, d2, d3] }
  | _ => none }
def ConjPlaysWrongFalsely : Prop := conjPlaysRow.holds Tryz.pinned (OpenSpec.ofChange conjPlaysWrong)

/-- 'trommellaw09.ConjAlls': WHATEVER THE INPUT: true; the input reads as it did. -/
def conjAllsSpec : ChangeSpec := { name := "conjAlls", fn := fun _ => fun
  | [d1, d2] => { results := [.lit (.bool true)], args := [d1, d2] }
  | _ => none }
def conjAllsRow : OpenClaim := { program := "ytimklglliffpcaagreat", sum := "596416ce20387e0729e5b689f28e933b2ff1af238bd94c768e9c3d873a8ffcf9", func := "trommel/trommellaw09.ConjAlls", spec := "conjAlls", inPlace := ["internal/bytealg.abigen_runtime_cmpstring"], unfollowed := true, recurses := true, loops := true, apart := false }
def ConjAllsSaid : Prop := conjAllsRow.holds Tryz.pinned (OpenSpec.ofChange conjAllsSpec)

/-- ITS FALSE NEIGHBOUR: 'it returns false'. Refute it at one input. -/
def conjAllsWrong : ChangeSpec := { name := "conjAlls", fn := fun _ => fun
  | [d1, d2] => { results := [.lit (.bool false)], args := [d1, d2] }
  | _ => none }
def ConjAllsWrongFalsely : Prop := conjAllsRow.holds Tryz.pinned (OpenSpec.ofChange conjAllsWrong)

/-- 'trommellaw09.ConjMeans': WHATEVER THE INPUT: true; the input reads as it did. -/
def conjMeansSpec : ChangeSpec := { name := "conjMeans", fn := fun _ => fun
  | [d1, d2] => { results := [.lit (.bool true)], args := [d1, d2] }
  | _ => none }
def conjMeansRow : OpenClaim := { program := "ytimklglliffpcaagreat", sum := "596416ce20387e0729e5b689f28e933b2ff1af238bd94c768e9c3d873a8ffcf9", func := "trommel/trommellaw09.ConjMeans", spec := "conjMeans", inPlace := ["internal/bytealg.abigen_runtime_cmpstring"], unfollowed := true, recurses := true, apart := false }
def ConjMeansSaid : Prop := conjMeansRow.holds Tryz.pinned (OpenSpec.ofChange conjMeansSpec)

/-- ITS FALSE NEIGHBOUR: 'it returns false'. Refute it at one input. -/
def conjMeansWrong : ChangeSpec := { name := "conjMeans", fn := fun _ => fun
  | [d1, d2] => { results := [.lit (.bool false)], args := [d1, d2] }
  | _ => none }
def ConjMeansWrongFalsely : Prop := conjMeansRow.holds Tryz.pinned (OpenSpec.ofChange conjMeansWrong)

/-- 'trommellaw09.ConjMeets': WHATEVER THE INPUT: true; the input reads as it did. -/
def conjMeetsSpec : ChangeSpec := { name := "conjMeets", fn := fun _ => fun
  | [d1, d2, d3] => { results := [.lit (.bool true)], args := [d1, d2, d3] }
  | _ => none }
def conjMeetsRow : OpenClaim := { program := "ytimklglliffpcaagreat", sum := "596416ce20387e0729e5b689f28e933b2ff1af238bd94c768e9c3d873a8ffcf9", func := "trommel/trommellaw09.ConjMeets", spec := "conjMeets", inPlace := ["internal/bytealg.abigen_runtime_cmpstring"], unfollowed := true, recurses := true, apart := false }
def ConjMeetsSaid : Prop := conjMeetsRow.holds Tryz.pinned (OpenSpec.ofChange conjMeetsSpec)

/-- ITS FALSE NEIGHBOUR: 'it returns false'. Refute it at one input. -/
def conjMeetsWrong : ChangeSpec := { name := "conjMeets", fn := fun _ => fun
  | [d1, d2, d3] => { results := [.lit (.bool false)], args := [d1, d2, d3] }
  | _ => none }
def ConjMeetsWrongFalsely : Prop := conjMeetsRow.holds Tryz.pinned (OpenSpec.ofChange conjMeetsWrong)

/-- 'trommellaw09.ConjTrue': WHATEVER THE INPUT: true; the input reads as it did. -/
def conjTrueSpec : ChangeSpec := { name := "conjTrue", fn := fun _ => fun
  | [d1, d2, d3] => { results := [.lit (.bool true)], args := [d1, d2, d3] }
  | _ => none }
def conjTrueRow : OpenClaim := { program := "ytimklglliffpcaagreat", sum := "596416ce20387e0729e5b689f28e933b2ff1af238bd94c768e9c3d873a8ffcf9", func := "trommel/trommellaw09.ConjTrue", spec := "conjTrue", inPlace := ["internal/bytealg.abigen_runtime_cmpstring"], unfollowed := true, recurses := true, loops := true, apart := false }
def ConjTrueSaid : Prop := conjTrueRow.holds Tryz.pinned (OpenSpec.ofChange conjTrueSpec)

/-- ITS FALSE NEIGHBOUR: 'it returns false'. Refute it at one input. -/
def conjTrueWrong : ChangeSpec := { name := "conjTrue", fn := fun _ => fun
  | [d1, d2, d3] => { results := [.lit (.bool false)], args := [d1, d2, d3] }
  | _ => none }
def ConjTrueWrongFalsely : Prop := conjTrueRow.holds Tryz.pinned (OpenSpec.ofChange conjTrueWrong)

/-- 'trommellaw09.ConjOwns': WHATEVER THE INPUT: true; the input reads as it did. -/
def conjOwnsSpec : ChangeSpec := { name := "conjOwns", fn := fun _ => fun
  | [d1, d2] => { results := [.lit (.bool true)], args := [d1, d2] }
  | _ => none }
def conjOwnsRow : OpenClaim := { program := "ytimklglliffpcaagreat", sum := "596416ce20387e0729e5b689f28e933b2ff1af238bd94c768e9c3d873a8ffcf9", func := "trommel/trommellaw09.ConjOwns", spec := "conjOwns", inPlace := ["internal/bytealg.abigen_runtime_cmpstring"], unfollowed := true, recurses := true, loops := true, apart := false }
def ConjOwnsSaid : Prop := conjOwnsRow.holds Tryz.pinned (OpenSpec.ofChange conjOwnsSpec)

/-- ITS FALSE NEIGHBOUR: 'it returns false'. Refute it at one input. -/
def conjOwnsWrong : ChangeSpec := { name := "conjOwns", fn := fun _ => fun
  | [d1, d2] => { results := [.lit (.bool false)], args := [d1, d2] }
  | _ => none }
def ConjOwnsWrongFalsely : Prop := conjOwnsRow.holds Tryz.pinned (OpenSpec.ofChange conjOwnsWrong)

/-- 'trommellaw09.ConjOrder': WHATEVER THE INPUT: true; the input reads as it did. -/
def conjOrderSpec : ChangeSpec := { name := "conjOrder", fn := fun _ => fun
  | [d1, d2, d3] => { results := [.lit (.bool true)], args := [d1, d2, d3] }
  | _ => none }
def conjOrderRow : OpenClaim := { program := "ytimklglliffpcaagreat", sum := "596416ce20387e0729e5b689f28e933b2ff1af238bd94c768e9c3d873a8ffcf9", func := "trommel/trommellaw09.ConjOrder", spec := "conjOrder", inPlace := ["internal/bytealg.abigen_runtime_cmpstring"], unfollowed := true, recurses := true, apart := false }
def ConjOrderSaid : Prop := conjOrderRow.holds Tryz.pinned (OpenSpec.ofChange conjOrderSpec)

/-- ITS FALSE NEIGHBOUR: 'it returns false'. Refute it at one input. -/
def conjOrderWrong : ChangeSpec := { name := "conjOrder", fn := fun _ => fun
  | [d1, d2, d3] => { results := [.lit (.bool false)], args := [d1, d2, d3] }
  | _ => none }
def ConjOrderWrongFalsely : Prop := conjOrderRow.holds Tryz.pinned (OpenSpec.ofChange conjOrderWrong)

/- THE SECOND FORM. 'bulk': how many values and letters a reading holds, each counted each time it is reached (what is shared counts as often as it is met; a slice's spare places count too). A statement '..UptoSaid' is the law's where the arguments, and the package variables that the reading takes, are together of bulk at most 1048576: NARROWER than '..Said'. Prove '..Said' where nothing that the law and all that it calls make is longer than what came in: it says more and counts as full. Else prove '..UptoSaid'. A law counts once. -/
mutual
def uptoBulk {H : Type} : DataW H → Nat
  | .lit (.string bytes) => bytes.length + 1
  | .lit _ => 1
  | .nil => 1
  | .ptr d => uptoBulk d + 1
  | .slice elems spare => uptoBulkAll elems + uptoBulkAll spare + 1
  | .agg parts => uptoBulkAll parts + 1
  | .iface _ d => uptoBulk d + 1
  | .map entries => uptoBulkEntries entries + 1
  | .held _ => 1
def uptoBulkAll {H : Type} : List (DataW H) → Nat
  | [] => 0
  | d :: r => uptoBulk d + uptoBulkAll r
def uptoBulkEntries {H : Type} : List (Lit × DataW H) → Nat
  | [] => 0
  | x :: r => uptoBulkEntry x + uptoBulkEntries r
def uptoBulkEntry {H : Type} : Lit × DataW H → Nat
  | (.string bytes, d) => bytes.length + uptoBulk d + 1
  | (_, d) => uptoBulk d + 1
 end
def uptoSmall : (H : Type) → List (DataW H) → Bool := fun _ ds => decide (uptoBulkAll ds ≤ 1048576)
def OpenSpec.upto (s : _root_.Go.ChangeSpec) : _root_.Go.OpenSpec := { _root_.Go.OpenSpec.ofChange s with cond := some uptoSmall }

/-- 'trommellaw09.ConjPreds', WHERE WHAT IT READS IS OF BULK AT MOST 1048576: true; the input reads as it did. -/
def conjPredsUptoRow : OpenClaim := { program := "ytimklglliffpcaagreat", sum := "596416ce20387e0729e5b689f28e933b2ff1af238bd94c768e9c3d873a8ffcf9", func := "trommel/trommellaw09.ConjPreds", spec := "conjPreds", inPlace := ["internal/bytealg.abigen_runtime_cmpstring"], unfollowed := true, recurses := true, apart := false, narrowed := true }
def ConjPredsUptoSaid : Prop := conjPredsUptoRow.holds Tryz.pinned (OpenSpec.upto conjPredsSpec)

/-- 'trommellaw09.ConjPlays', WHERE WHAT IT READS IS OF BULK AT MOST 1048576: true; the input reads as it did. -/
def conjPlaysUptoRow : OpenClaim := { program := "ytimklglliffpcaagreat", sum := "596416ce20387e0729e5b689f28e933b2ff1af238bd94c768e9c3d873a8ffcf9", func := "trommel/trommellaw09.ConjPlays", spec := "conjPlays", inPlace := ["internal/bytealg.abigen_runtime_cmpstring"], unfollowed := true, recurses := true, apart := false, narrowed := true }
def ConjPlaysUptoSaid : Prop := conjPlaysUptoRow.holds Tryz.pinned (OpenSpec.upto conjPlaysSpec)

/-- 'trommellaw09.ConjAlls', WHERE WHAT IT READS IS OF BULK AT MOST 1048576: true; the input reads as it did. -/
def conjAllsUptoRow : OpenClaim := { program := "ytimklglliffpcaagreat", sum := "596416ce20387e0729e5b689f28e933b2ff1af238bd94c768e9c3d873a8ffcf9", func := "trommel/trommellaw09.ConjAlls", spec := "conjAlls", inPlace := ["internal/bytealg.abigen_runtime_cmpstring"], unfollowed := true, recurses := true, loops := true, apart := false, narrowed := true }
def ConjAllsUptoSaid : Prop := conjAllsUptoRow.holds Tryz.pinned (OpenSpec.upto conjAllsSpec)

/-- 'trommellaw09.ConjMeans', WHERE WHAT IT READS IS OF BULK AT MOST 1048576: true; the input reads as it did. -/
def conjMeansUptoRow : OpenClaim := { program := "ytimklglliffpcaagreat", sum := "596416ce20387e0729e5b689f28e933b2ff1af238bd94c768e9c3d873a8ffcf9", func := "trommel/trommellaw09.ConjMeans", spec := "conjMeans", inPlace := ["internal/bytealg.abigen_runtime_cmpstring"], unfollowed := true, recurses := true, apart := false, narrowed := true }
def ConjMeansUptoSaid : Prop := conjMeansUptoRow.holds Tryz.pinned (OpenSpec.upto conjMeansSpec)

/-- 'trommellaw09.ConjMeets', WHERE WHAT IT READS IS OF BULK AT MOST 1048576: true; the input reads as it did. -/
def conjMeetsUptoRow : OpenClaim := { program := "ytimklglliffpcaagreat", sum := "596416ce20387e0729e5b689f28e933b2ff1af238bd94c768e9c3d873a8ffcf9", func := "trommel/trommellaw09.ConjMeets", spec := "conjMeets", inPlace := ["internal/bytealg.abigen_runtime_cmpstring"], unfollowed := true, recurses := true, apart := false, narrowed := true }
def ConjMeetsUptoSaid : Prop := conjMeetsUptoRow.holds Tryz.pinned (OpenSpec.upto conjMeetsSpec)

/-- 'trommellaw09.ConjTrue', WHERE WHAT IT READS IS OF BULK AT MOST 1048576: true; the input reads as it did. -/
def conjTrueUptoRow : OpenClaim := { program := "ytimklglliffpcaagreat", sum := "596416ce20387e0729e5b689f28e933b2ff1af238bd94c768e9c3d873a8ffcf9", func := "trommel/trommellaw09.ConjTrue", spec := "conjTrue", inPlace := ["internal/bytealg.abigen_runtime_cmpstring"], unfollowed := true, recurses := true, loops := true, apart := false, narrowed := true }
def ConjTrueUptoSaid : Prop := conjTrueUptoRow.holds Tryz.pinned (OpenSpec.upto conjTrueSpec)

/-- 'trommellaw09.ConjOwns', WHERE WHAT IT READS IS OF BULK AT MOST 1048576: true; the input reads as it did. -/
def conjOwnsUptoRow : OpenClaim := { program := "ytimklglliffpcaagreat", sum := "596416ce20387e0729e5b689f28e933b2ff1af238bd94c768e9c3d873a8ffcf9", func := "trommel/trommellaw09.ConjOwns", spec := "conjOwns", inPlace := ["internal/bytealg.abigen_runtime_cmpstring"], unfollowed := true, recurses := true, loops := true, apart := false, narrowed := true }
def ConjOwnsUptoSaid : Prop := conjOwnsUptoRow.holds Tryz.pinned (OpenSpec.upto conjOwnsSpec)

/-- 'trommellaw09.ConjOrder', WHERE WHAT IT READS IS OF BULK AT MOST 1048576: true; the input reads as it did. -/
def conjOrderUptoRow : OpenClaim := { program := "ytimklglliffpcaagreat", sum := "596416ce20387e0729e5b689f28e933b2ff1af238bd94c768e9c3d873a8ffcf9", func := "trommel/trommellaw09.ConjOrder", spec := "conjOrder", inPlace := ["internal/bytealg.abigen_runtime_cmpstring"], unfollowed := true, recurses := true, apart := false, narrowed := true }
def ConjOrderUptoSaid : Prop := conjOrderUptoRow.holds Tryz.pinned (OpenSpec.upto conjOrderSpec)

end Rows
end Go.Proofs.YtimklglliffpcaaGreat
