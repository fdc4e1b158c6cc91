/-
  NARROWER THAN 'FOR EVERY INPUT', by the rows' own cells (each row's printed sentence says how): EvalPlays: loops · EvalRules: loops · PushPlays: loops · PushMeans: loops · PushWidths: loops · PushOwns: loops · PushLeaves: loops · DnfExpands: loops · DnfMeans: loops · DnfLiterals: loops · DnfOwns: loops · DnfParts: loops.
  DERIVED. THE GIVEN ROWS OF THIS SEAT. 15 by the template 'for every input the law returns true; each argument reads behind the call as it read before'; 0 by the template 'total and deterministic' (their statements: YtppkjlmdfcifgaaTotals.lean).
  GIVEN WITH THE SEED: the statements are not yours to turn. If you find one false, say at which input.
  Laid BY PROGRAM, IN A SANDBOX (cutbox-rows.mjs): the forced cells as the released guide's own fill.sh prints them over the translation e75c3100ee067757… (all of the seat's roots in one cut). By AI agents, Wed Nov 11 2026. No macro, syntax, notation, axiom, sorry.
-/
import Derived.Test.YtppkjlmdfcifgaaChecked
import GoSem.Claim
import GoSem.ClaimJoined
import GoSem.ClaimMapViews
import Derived.JoinedTies
import Derived.KernelRfl
namespace Go.Proofs.Ytppkjlmdfcifgaa
/- THE CELL 'sum', in the pinned program and in every row, IS THE sha256 OF THE DUMP (.gsa) THAT YtppkjlmdfcifgaaProg.lean LOADS. Nothing in Lean hashes anything: it is a label: what it is worth is what the hold of that sum in a sandbox is worth. -/
noncomputable def Try.pinned : Pinned := { name := "ytppkjlmdfcifgaa", sum := "e75c3100ee067757b7f455566a09f9d842128383cdd98a677fc0e812870821d5", checked := Try.checked }
namespace Rows
def none {H : Type} : Left H := { results := [], args := [] }

/-- 'trommellaw06.EvalPlays': WHATEVER THE INPUT: true; the input reads as it did. -/
def evalPlaysSpec : ChangeSpec := { name := "evalPlays", fn := fun _ => fun
  | [d1, d2] => { results := [.lit (.bool true)], args := [d1, d2] }
  | _ => none }
def evalPlaysRow : OpenClaim := { program := "ytppkjlmdfcifgaa", sum := "e75c3100ee067757b7f455566a09f9d842128383cdd98a677fc0e812870821d5", func := "trommel/trommellaw06.EvalPlays", spec := "evalPlays", unfollowed := true, recurses := true, loops := true, apart := false }
def EvalPlaysSaid : Prop := evalPlaysRow.holds Try.pinned (OpenSpec.ofChange evalPlaysSpec)

/-- ITS FALSE NEIGHBOUR: 'it returns false'. Refute it at one input. -/
def evalPlaysWrong : ChangeSpec := { name := "evalPlays", fn := fun _ => fun
  | [d1, d2] => { results := [.lit (.bool false)], args := [d1, d2] }
  | _ => none }
def EvalPlaysWrongFalsely : Prop := evalPlaysRow.holds Try.pinned (OpenSpec.ofChange evalPlaysWrong)

/-- 'trommellaw06.EvalRules': WHATEVER THE INPUT: true; the input reads as it did. -/
def evalRulesSpec : ChangeSpec := { name := "evalRules", fn := fun _ => fun
  | [d1, d2, d3, d4] => { results := [.lit (.bool true)], args := [d1, d2, d3, d4] }
  | _ => none }
def evalRulesRow : OpenClaim := { program := "ytppkjlmdfcifgaa", sum := "e75c3100ee067757b7f455566a09f9d842128383cdd98a677fc0e812870821d5", func := "trommel/trommellaw06.EvalRules", spec := "evalRules", unfollowed := true, recurses := true, loops := true, apart := false }
def EvalRulesSaid : Prop := evalRulesRow.holds Try.pinned (OpenSpec.ofChange evalRulesSpec)

/-- ITS FALSE NEIGHBOUR: 'it returns false'. Refute it at one input. -/
def evalRulesWrong : ChangeSpec := { name := "evalRules", fn := fun _ => fun
  | [d1, d2, d3, d4] => { results := [.lit (.bool false)], args := [d1, d2, d3, d4] }
  | _ => none }
def EvalRulesWrongFalsely : Prop := evalRulesRow.holds Try.pinned (OpenSpec.ofChange evalRulesWrong)

/-- 'trommellaw07.PushPlays': WHATEVER THE INPUT: true; the input reads as it did. -/
def pushPlaysSpec : ChangeSpec := { name := "pushPlays", fn := fun _ => fun
  | [d1, d2] => { results := [.lit (.bool true)], args := [d1, d2] }
  | _ => none }
def pushPlaysRow : OpenClaim := { program := "ytppkjlmdfcifgaa", sum := "e75c3100ee067757b7f455566a09f9d842128383cdd98a677fc0e812870821d5", func := "trommel/trommellaw07.PushPlays", spec := "pushPlays", unfollowed := true, recurses := true, loops := true, apart := false }
def PushPlaysSaid : Prop := pushPlaysRow.holds Try.pinned (OpenSpec.ofChange pushPlaysSpec)

/-- ITS FALSE NEIGHBOUR: 'it returns false'. Refute it at one input. -/
def pushPlaysWrong : ChangeSpec := { name := "pushPlays", fn := fun _ => fun
  | [d1, d2] => { results := [.lit (.bool false)], args := [d1, d2] }
  | _ => none }
def PushPlaysWrongFalsely : Prop := pushPlaysRow.holds Try.pinned (OpenSpec.ofChange pushPlaysWrong)

/-- 'trommellaw07.PushSums': WHATEVER THE INPUT: true; the input reads as it did. -/
def pushSumsSpec : ChangeSpec := { name := "pushSums", fn := fun _ => fun
  | [d1, d2] => { results := [.lit (.bool true)], args := [d1, d2] }
  | _ => none }
def pushSumsRow : OpenClaim := { program := "ytppkjlmdfcifgaa", sum := "e75c3100ee067757b7f455566a09f9d842128383cdd98a677fc0e812870821d5", func := "trommel/trommellaw07.PushSums", spec := "pushSums", unfollowed := true, recurses := true, apart := false }
def PushSumsSaid : Prop := pushSumsRow.holds Try.pinned (OpenSpec.ofChange pushSumsSpec)

/-- ITS FALSE NEIGHBOUR: 'it returns false'. Refute it at one input. -/
def pushSumsWrong : ChangeSpec := { name := "pushSums", fn := fun _ => fun
  | [d1, d2] => { results := [.lit (.bool false)], args := [d1, d2] }
  | _ => none }
def PushSumsWrongFalsely : Prop := pushSumsRow.holds Try.pinned (OpenSpec.ofChange pushSumsWrong)

/-- 'trommellaw07.PushMeans': WHATEVER THE INPUT: true; the input reads as it did. -/
def pushMeansSpec : ChangeSpec := { name := "pushMeans", fn := fun _ => fun
  | [d1, d2] => { results := [.lit (.bool true)], args := [d1, d2] }
  | _ => none }
def pushMeansRow : OpenClaim := { program := "ytppkjlmdfcifgaa", sum := "e75c3100ee067757b7f455566a09f9d842128383cdd98a677fc0e812870821d5", func := "trommel/trommellaw07.PushMeans", spec := "pushMeans", unfollowed := true, recurses := true, loops := true, apart := false }
def PushMeansSaid : Prop := pushMeansRow.holds Try.pinned (OpenSpec.ofChange pushMeansSpec)

/-- ITS FALSE NEIGHBOUR: 'it returns false'. Refute it at one input. -/
def pushMeansWrong : ChangeSpec := { name := "pushMeans", fn := fun _ => fun
  | [d1, d2] => { results := [.lit (.bool false)], args := [d1, d2] }
  | _ => none }
def PushMeansWrongFalsely : Prop := pushMeansRow.holds Try.pinned (OpenSpec.ofChange pushMeansWrong)

/-- 'trommellaw07.PushWidths': WHATEVER THE INPUT: true; the input reads as it did. -/
def pushWidthsSpec : ChangeSpec := { name := "pushWidths", fn := fun _ => fun
  | [d1, d2, d3] => { results := [.lit (.bool true)], args := [d1, d2, d3] }
  | _ => none }
def pushWidthsRow : OpenClaim := { program := "ytppkjlmdfcifgaa", sum := "e75c3100ee067757b7f455566a09f9d842128383cdd98a677fc0e812870821d5", func := "trommel/trommellaw07.PushWidths", spec := "pushWidths", unfollowed := true, recurses := true, loops := true, apart := false }
def PushWidthsSaid : Prop := pushWidthsRow.holds Try.pinned (OpenSpec.ofChange pushWidthsSpec)

/-- ITS FALSE NEIGHBOUR: 'it returns false'. Refute it at one input. -/
def pushWidthsWrong : ChangeSpec := { name := "pushWidths", fn := fun _ => fun
  | [d1, d2, d3] => { results := [.lit (.bool false)], args := [d1, d2, d3] }
  | _ => none }
def PushWidthsWrongFalsely : Prop := pushWidthsRow.holds Try.pinned (OpenSpec.ofChange pushWidthsWrong)

/-- 'trommellaw07.PushOwns': WHATEVER THE INPUT: true; the input reads as it did. -/
def pushOwnsSpec : ChangeSpec := { name := "pushOwns", fn := fun _ => fun
  | [d] => { results := [.lit (.bool true)], args := [d] }
  | _ => none }
def pushOwnsRow : OpenClaim := { program := "ytppkjlmdfcifgaa", sum := "e75c3100ee067757b7f455566a09f9d842128383cdd98a677fc0e812870821d5", func := "trommel/trommellaw07.PushOwns", spec := "pushOwns", unfollowed := true, recurses := true, loops := true, apart := false }
def PushOwnsSaid : Prop := pushOwnsRow.holds Try.pinned (OpenSpec.ofChange pushOwnsSpec)

/-- ITS FALSE NEIGHBOUR: 'it returns false'. Refute it at one input. -/
def pushOwnsWrong : ChangeSpec := { name := "pushOwns", fn := fun _ => fun
  | [d] => { results := [.lit (.bool false)], args := [d] }
  | _ => none }
def PushOwnsWrongFalsely : Prop := pushOwnsRow.holds Try.pinned (OpenSpec.ofChange pushOwnsWrong)

/-- 'trommellaw07.PushLeaves': WHATEVER THE INPUT: true; the input reads as it did. -/
def pushLeavesSpec : ChangeSpec := { name := "pushLeaves", fn := fun _ => fun
  | [d] => { results := [.lit (.bool true)], args := [d] }
  | _ => none }
def pushLeavesRow : OpenClaim := { program := "ytppkjlmdfcifgaa", sum := "e75c3100ee067757b7f455566a09f9d842128383cdd98a677fc0e812870821d5", func := "trommel/trommellaw07.PushLeaves", spec := "pushLeaves", unfollowed := true, recurses := true, loops := true, apart := false }
def PushLeavesSaid : Prop := pushLeavesRow.holds Try.pinned (OpenSpec.ofChange pushLeavesSpec)

/-- ITS FALSE NEIGHBOUR: 'it returns false'. Refute it at one input. -/
def pushLeavesWrong : ChangeSpec := { name := "pushLeaves", fn := fun _ => fun
  | [d] => { results := [.lit (.bool false)], args := [d] }
  | _ => none }
def PushLeavesWrongFalsely : Prop := pushLeavesRow.holds Try.pinned (OpenSpec.ofChange pushLeavesWrong)

/-- 'trommellaw08.DnfExpands': WHATEVER THE INPUT: true; the input reads as it did. -/
def dnfExpandsSpec : ChangeSpec := { name := "dnfExpands", fn := fun _ => fun
  | [d1, d2] => { results := [.lit (.bool true)], args := [d1, d2] }
  | _ => none }
def dnfExpandsRow : OpenClaim := { program := "ytppkjlmdfcifgaa", sum := "e75c3100ee067757b7f455566a09f9d842128383cdd98a677fc0e812870821d5", func := "trommel/trommellaw08.DnfExpands", spec := "dnfExpands", unfollowed := true, recurses := true, loops := true, apart := false }
def DnfExpandsSaid : Prop := dnfExpandsRow.holds Try.pinned (OpenSpec.ofChange dnfExpandsSpec)

/-- ITS FALSE NEIGHBOUR: 'it returns false'. Refute it at one input. -/
def dnfExpandsWrong : ChangeSpec := { name := "dnfExpands", fn := fun _ => fun
  | [d1, d2] => { results := [.lit (.bool false)], args := [d1, d2] }
  | _ => none }
def DnfExpandsWrongFalsely : Prop := dnfExpandsRow.holds Try.pinned (OpenSpec.ofChange dnfExpandsWrong)

/-- 'trommellaw08.DnfPlays': WHATEVER THE INPUT: true; the input reads as it did. -/
def dnfPlaysSpec : ChangeSpec := { name := "dnfPlays", fn := fun _ => fun
  | [d1, d2] => { results := [.lit (.bool true)], args := [d1, d2] }
  | _ => none }
def dnfPlaysRow : OpenClaim := { program := "ytppkjlmdfcifgaa", sum := "e75c3100ee067757b7f455566a09f9d842128383cdd98a677fc0e812870821d5", func := "trommel/trommellaw08.DnfPlays", spec := "dnfPlays", unfollowed := true, recurses := true, apart := false }
def DnfPlaysSaid : Prop := dnfPlaysRow.holds Try.pinned (OpenSpec.ofChange dnfPlaysSpec)

/-- ITS FALSE NEIGHBOUR: 'it returns false'. Refute it at one input. -/
def dnfPlaysWrong : ChangeSpec := { name := "dnfPlays", fn := fun _ => fun
  | [d1, d2] => { results := [.lit (.bool false)], args := [d1, d2] }
  | _ => none }
def DnfPlaysWrongFalsely : Prop := dnfPlaysRow.holds Try.pinned (OpenSpec.ofChange dnfPlaysWrong)

/-- 'trommellaw08.DnfMeans': WHATEVER THE INPUT: true; the input reads as it did. -/
def dnfMeansSpec : ChangeSpec := { name := "dnfMeans", fn := fun _ => fun
  | [d1, d2, d3] => { results := [.lit (.bool true)], args := [d1, d2, d3] }
  | _ => none }
def dnfMeansRow : OpenClaim := { program := "ytppkjlmdfcifgaa", sum := "e75c3100ee067757b7f455566a09f9d842128383cdd98a677fc0e812870821d5", func := "trommel/trommellaw08.DnfMeans", spec := "dnfMeans", unfollowed := true, recurses := true, loops := true, apart := false }
def DnfMeansSaid : Prop := dnfMeansRow.holds Try.pinned (OpenSpec.ofChange dnfMeansSpec)

/-- ITS FALSE NEIGHBOUR: 'it returns false'. Refute it at one input. -/
def dnfMeansWrong : ChangeSpec := { name := "dnfMeans", fn := fun _ => fun
  | [d1, d2, d3] => { results := [.lit (.bool false)], args := [d1, d2, d3] }
  | _ => none }
def DnfMeansWrongFalsely : Prop := dnfMeansRow.holds Try.pinned (OpenSpec.ofChange dnfMeansWrong)

/-- 'trommellaw08.DnfBack': WHATEVER THE INPUT: true; the input reads as it did. -/
def dnfBackSpec : ChangeSpec := { name := "dnfBack", fn := fun _ => fun
  | [d1, d2] => { results := [.lit (.bool true)], args := [d1, d2] }
  | _ => none }
def dnfBackRow : OpenClaim := { program := "ytppkjlmdfcifgaa", sum := "e75c3100ee067757b7f455566a09f9d842128383cdd98a677fc0e812870821d5", func := "trommel/trommellaw08.DnfBack", spec := "dnfBack", unfollowed := true, recurses := true, apart := false }
def DnfBackSaid : Prop := dnfBackRow.holds Try.pinned (OpenSpec.ofChange dnfBackSpec)

/-- ITS FALSE NEIGHBOUR: 'it returns false'. Refute it at one input. -/
def dnfBackWrong : ChangeSpec := { name := "dnfBack", fn := fun _ => fun
  | [d1, d2] => { results := [.lit (.bool false)], args := [d1, d2] }
  | _ => none }
def DnfBackWrongFalsely : Prop := dnfBackRow.holds Try.pinned (OpenSpec.ofChange dnfBackWrong)

/-- 'trommellaw08.DnfLiterals': WHATEVER THE INPUT: true; the input reads as it did. -/
def dnfLiteralsSpec : ChangeSpec := { name := "dnfLiterals", fn := fun _ => fun
  | [d] => { results := [.lit (.bool true)], args := [d] }
  | _ => none }
def dnfLiteralsRow : OpenClaim := { program := "ytppkjlmdfcifgaa", sum := "e75c3100ee067757b7f455566a09f9d842128383cdd98a677fc0e812870821d5", func := "trommel/trommellaw08.DnfLiterals", spec := "dnfLiterals", unfollowed := true, recurses := true, loops := true, apart := false }
def DnfLiteralsSaid : Prop := dnfLiteralsRow.holds Try.pinned (OpenSpec.ofChange dnfLiteralsSpec)

/-- ITS FALSE NEIGHBOUR: 'it returns false'. Refute it at one input. -/
def dnfLiteralsWrong : ChangeSpec := { name := "dnfLiterals", fn := fun _ => fun
  | [d] => { results := [.lit (.bool false)], args := [d] }
  | _ => none }
def DnfLiteralsWrongFalsely : Prop := dnfLiteralsRow.holds Try.pinned (OpenSpec.ofChange dnfLiteralsWrong)

/-- 'trommellaw08.DnfOwns': WHATEVER THE INPUT: true; the input reads as it did. -/
def dnfOwnsSpec : ChangeSpec := { name := "dnfOwns", fn := fun _ => fun
  | [d1, d2] => { results := [.lit (.bool true)], args := [d1, d2] }
  | _ => none }
def dnfOwnsRow : OpenClaim := { program := "ytppkjlmdfcifgaa", sum := "e75c3100ee067757b7f455566a09f9d842128383cdd98a677fc0e812870821d5", func := "trommel/trommellaw08.DnfOwns", spec := "dnfOwns", unfollowed := true, recurses := true, loops := true, apart := false }
def DnfOwnsSaid : Prop := dnfOwnsRow.holds Try.pinned (OpenSpec.ofChange dnfOwnsSpec)

/-- ITS FALSE NEIGHBOUR: 'it returns false'. Refute it at one input. -/
def dnfOwnsWrong : ChangeSpec := { name := "dnfOwns", fn := fun _ => fun
  | [d1, d2] => { results := [.lit (.bool false)], args := [d1, d2] }
  | _ => none }
def DnfOwnsWrongFalsely : Prop := dnfOwnsRow.holds Try.pinned (OpenSpec.ofChange dnfOwnsWrong)

/-- 'trommellaw08.DnfParts': WHATEVER THE INPUT: true; the input reads as it did. -/
def dnfPartsSpec : ChangeSpec := { name := "dnfParts", fn := fun _ => fun
  | [d1, d2] => { results := [.lit (.bool true)], args := [d1, d2] }
  | _ => none }
def dnfPartsRow : OpenClaim := { program := "ytppkjlmdfcifgaa", sum := "e75c3100ee067757b7f455566a09f9d842128383cdd98a677fc0e812870821d5", func := "trommel/trommellaw08.DnfParts", spec := "dnfParts", unfollowed := true, recurses := true, loops := true, apart := false }
def DnfPartsSaid : Prop := dnfPartsRow.holds Try.pinned (OpenSpec.ofChange dnfPartsSpec)

/-- ITS FALSE NEIGHBOUR: 'it returns false'. Refute it at one input. -/
def dnfPartsWrong : ChangeSpec := { name := "dnfParts", fn := fun _ => fun
  | [d1, d2] => { results := [.lit (.bool false)], args := [d1, d2] }
  | _ => none }
def DnfPartsWrongFalsely : Prop := dnfPartsRow.holds Try.pinned (OpenSpec.ofChange dnfPartsWrong)

/- THE SECOND FORM. 'bulk': how many values and letters a reading holds, each counted each time it is reached (what is shared counts as often as it is met; a slice's spare places count too). A statement '..UptoSaid' is the law's where the arguments, and the package variables that the reading takes, are together of bulk at most 1048576: NARROWER than '..Said'. Prove '..Said' where nothing that the law and all that it calls make is longer than what came in: it says more and counts as full. Else prove '..UptoSaid'. A law counts once. -/
mutual
def uptoBulk {H : Type} : DataW H → Nat
  | .lit (.string bytes) => bytes.length + 1
  | .lit _ => 1
  | .nil => 1
  | .ptr d => uptoBulk d + 1
  | .slice elems spare => uptoBulkAll elems + uptoBulkAll spare + 1
  | .agg parts => uptoBulkAll parts + 1
  | .iface _ d => uptoBulk d + 1
  | .map entries => uptoBulkEntries entries + 1
  | .held _ => 1
def uptoBulkAll {H : Type} : List (DataW H) → Nat
  | [] => 0
  | d :: r => uptoBulk d + uptoBulkAll r
def uptoBulkEntries {H : Type} : List (Lit × DataW H) → Nat
  | [] => 0
  | x :: r => uptoBulkEntry x + uptoBulkEntries r
def uptoBulkEntry {H : Type} : Lit × DataW H → Nat
  | (.string bytes, d) => bytes.length + uptoBulk d + 1
  | (_, d) => uptoBulk d + 1
 end
def uptoSmall : (H : Type) → List (DataW H) → Bool := fun _ ds => decide (uptoBulkAll ds ≤ 1048576)
def OpenSpec.upto (s : _root_.Go.ChangeSpec) : _root_.Go.OpenSpec := { _root_.Go.OpenSpec.ofChange s with cond := some uptoSmall }

/-- 'trommellaw06.EvalPlays', WHERE WHAT IT READS IS OF BULK AT MOST 1048576: true; the input reads as it did. -/
def evalPlaysUptoRow : OpenClaim := { program := "ytppkjlmdfcifgaa", sum := "e75c3100ee067757b7f455566a09f9d842128383cdd98a677fc0e812870821d5", func := "trommel/trommellaw06.EvalPlays", spec := "evalPlays", unfollowed := true, recurses := true, loops := true, apart := false, narrowed := true }
def EvalPlaysUptoSaid : Prop := evalPlaysUptoRow.holds Try.pinned (OpenSpec.upto evalPlaysSpec)

/-- 'trommellaw06.EvalRules', WHERE WHAT IT READS IS OF BULK AT MOST 1048576: true; the input reads as it did. -/
def evalRulesUptoRow : OpenClaim := { program := "ytppkjlmdfcifgaa", sum := "e75c3100ee067757b7f455566a09f9d842128383cdd98a677fc0e812870821d5", func := "trommel/trommellaw06.EvalRules", spec := "evalRules", unfollowed := true, recurses := true, loops := true, apart := false, narrowed := true }
def EvalRulesUptoSaid : Prop := evalRulesUptoRow.holds Try.pinned (OpenSpec.upto evalRulesSpec)

/-- 'trommellaw07.PushPlays', WHERE WHAT IT READS IS OF BULK AT MOST 1048576: true; the input reads as it did. -/
def pushPlaysUptoRow : OpenClaim := { program := "ytppkjlmdfcifgaa", sum := "e75c3100ee067757b7f455566a09f9d842128383cdd98a677fc0e812870821d5", func := "trommel/trommellaw07.PushPlays", spec := "pushPlays", unfollowed := true, recurses := true, loops := true, apart := false, narrowed := true }
def PushPlaysUptoSaid : Prop := pushPlaysUptoRow.holds Try.pinned (OpenSpec.upto pushPlaysSpec)

/-- 'trommellaw07.PushSums', WHERE WHAT IT READS IS OF BULK AT MOST 1048576: true; the input reads as it did. -/
def pushSumsUptoRow : OpenClaim := { program := "ytppkjlmdfcifgaa", sum := "e75c3100ee067757b7f455566a09f9d842128383cdd98a677fc0e812870821d5", func := "trommel/trommellaw07.PushSums", spec := "pushSums", unfollowed := true, recurses := true, apart := false, narrowed := true }
def PushSumsUptoSaid : Prop := pushSumsUptoRow.holds Try.pinned (OpenSpec.upto pushSumsSpec)

/-- 'trommellaw07.PushMeans', WHERE WHAT IT READS IS OF BULK AT MOST 1048576: true; the input reads as it did. -/
def pushMeansUptoRow : OpenClaim := { program := "ytppkjlmdfcifgaa", sum := "e75c3100ee067757b7f455566a09f9d842128383cdd98a677fc0e812870821d5", func := "trommel/trommellaw07.PushMeans", spec := "pushMeans", unfollowed := true, recurses := true, loops := true, apart := false, narrowed := true }
def PushMeansUptoSaid : Prop := pushMeansUptoRow.holds Try.pinned (OpenSpec.upto pushMeansSpec)

/-- 'trommellaw07.PushWidths', WHERE WHAT IT READS IS OF BULK AT MOST 1048576: true; the input reads as it did. -/
def pushWidthsUptoRow : OpenClaim := { program := "ytppkjlmdfcifgaa", sum := "e75c3100ee067757b7f455566a09f9d842128383cdd98a677fc0e812870821d5", func := "trommel/trommellaw07.PushWidths", spec := "pushWidths", unfollowed := true, recurses := true, loops := true, apart := false, narrowed := true }
def PushWidthsUptoSaid : Prop := pushWidthsUptoRow.holds Try.pinned (OpenSpec.upto pushWidthsSpec)

/-- 'trommellaw07.PushOwns', WHERE WHAT IT READS IS OF BULK AT MOST 1048576: true; the input reads as it did. -/
def pushOwnsUptoRow : OpenClaim := { program := "ytppkjlmdfcifgaa", sum := "e75c3100ee067757b7f455566a09f9d842128383cdd98a677fc0e812870821d5", func := "trommel/trommellaw07.PushOwns", spec := "pushOwns", unfollowed := true, recurses := true, loops := true, apart := false, narrowed := true }
def PushOwnsUptoSaid : Prop := pushOwnsUptoRow.holds Try.pinned (OpenSpec.upto pushOwnsSpec)

/-- 'trommellaw07.PushLeaves', WHERE WHAT IT READS IS OF BULK AT MOST 1048576: true; the input reads as it did. -/
def pushLeavesUptoRow : OpenClaim := { program := "ytppkjlmdfcifgaa", sum := "e75c3100ee067757b7f455566a09f9d842128383cdd98a677fc0e812870821d5", func := "trommel/trommellaw07.PushLeaves", spec := "pushLeaves", unfollowed := true, recurses := true, loops := true, apart := false, narrowed := true }
def PushLeavesUptoSaid : Prop := pushLeavesUptoRow.holds Try.pinned (OpenSpec.upto pushLeavesSpec)

/-- 'trommellaw08.DnfExpands', WHERE WHAT IT READS IS OF BULK AT MOST 1048576: true; the input reads as it did. -/
def dnfExpandsUptoRow : OpenClaim := { program := "ytppkjlmdfcifgaa", sum := "e75c3100ee067757b7f455566a09f9d842128383cdd98a677fc0e812870821d5", func := "trommel/trommellaw08.DnfExpands", spec := "dnfExpands", unfollowed := true, recurses := true, loops := true, apart := false, narrowed := true }
def DnfExpandsUptoSaid : Prop := dnfExpandsUptoRow.holds Try.pinned (OpenSpec.upto dnfExpandsSpec)

/-- 'trommellaw08.DnfPlays', WHERE WHAT IT READS IS OF BULK AT MOST 1048576: true; the input reads as it did. -/
def dnfPlaysUptoRow : OpenClaim := { program := "ytppkjlmdfcifgaa", sum := "e75c3100ee067757b7f455566a09f9d842128383cdd98a677fc0e812870821d5", func := "trommel/trommellaw08.DnfPlays", spec := "dnfPlays", unfollowed := true, recurses := true, apart := false, narrowed := true }
def DnfPlaysUptoSaid : Prop := dnfPlaysUptoRow.holds Try.pinned (OpenSpec.upto dnfPlaysSpec)

/-- 'trommellaw08.DnfMeans', WHERE WHAT IT READS IS OF BULK AT MOST 1048576: true; the input reads as it did. -/
def dnfMeansUptoRow : OpenClaim := { program := "ytppkjlmdfcifgaa", sum := "e75c3100ee067757b7f455566a09f9d842128383cdd98a677fc0e812870821d5", func := "trommel/trommellaw08.DnfMeans", spec := "dnfMeans", unfollowed := true, recurses := true, loops := true, apart := false, narrowed := true }
def DnfMeansUptoSaid : Prop := dnfMeansUptoRow.holds Try.pinned (OpenSpec.upto dnfMeansSpec)

/-- 'trommellaw08.DnfBack', WHERE WHAT IT READS IS OF BULK AT MOST 1048576: true; the input reads as it did. -/
def dnfBackUptoRow : OpenClaim := { program := "ytppkjlmdfcifgaa", sum := "e75c3100ee067757b7f455566a09f9d842128383cdd98a677fc0e812870821d5", func := "trommel/trommellaw08.DnfBack", spec := "dnfBack", unfollowed := true, recurses := true, apart := false, narrowed := true }
def DnfBackUptoSaid : Prop := dnfBackUptoRow.holds Try.pinned (OpenSpec.upto dnfBackSpec)

/-- 'trommellaw08.DnfLiterals', WHERE WHAT IT READS IS OF BULK AT MOST 1048576: true; the input reads as it did. -/
def dnfLiteralsUptoRow : OpenClaim := { program := "ytppkjlmdfcifgaa", sum := "e75c3100ee067757b7f455566a09f9d842128383cdd98a677fc0e812870821d5", func := "trommel/trommellaw08.DnfLiterals", spec := "dnfLiterals", unfollowed := true, recurses := true, loops := true, apart := false, narrowed := true }
def DnfLiteralsUptoSaid : Prop := dnfLiteralsUptoRow.holds Try.pinned (OpenSpec.upto dnfLiteralsSpec)

/-- 'trommellaw08.DnfOwns', WHERE WHAT IT READS IS OF BULK AT MOST 1048576: true; the input reads as it did. -/
def dnfOwnsUptoRow : OpenClaim := { program := "ytppkjlmdfcifgaa", sum := "e75c3100ee067757b7f455566a09f9d842128383cdd98a677fc0e812870821d5", func := "trommel/trommellaw08.DnfOwns", spec := "dnfOwns", unfollowed := true, recurses := true, loops := true, apart := false, narrowed := true }
def DnfOwnsUptoSaid : Prop := dnfOwnsUptoRow.holds Try.pinned (OpenSpec.upto dnfOwnsSpec)

/-- 'trommellaw08.DnfParts', WHERE WHAT IT READS IS OF BULK AT MOST 1048576: true; the input reads as it did. -/
def dnfPartsUptoRow : OpenClaim := { program := "ytppkjlmdfcifgaa", sum := "e75c3100ee067757b7f455566a09f9d842128383cdd98a677fc0e812870821d5", func := "trommel/trommellaw08.DnfParts", spec := "dnfParts", unfollowed := true, recurses := true, loops := true, apart := false, narrowed := true }
def DnfPartsUptoSaid : Prop := dnfPartsUptoRow.holds Try.pinned (OpenSpec.upto dnfPartsSpec)

end Rows
end Go.Proofs.Ytppkjlmdfcifgaa
