/-
  No cell of these rows narrows 'for every input' (looked for: loops, veiled, ifaces, maps, wideKeys, modest, calm, conditions, laid).
  DERIVED. THE GIVEN ROWS OF THIS SEAT. 5 by the template 'for every input the law returns true; each argument reads behind the call as it read before'; 0 by the template 'total and deterministic' (their statements: YtojeihchkdkkgabTotals.lean).
  GIVEN WITH THE SEED: the statements are not yours to turn. If you find one false, say at which input.
  Laid BY PROGRAM, IN A SANDBOX (cutbox-rows.mjs): the forced cells as the released guide's own fill.sh prints them over the translation c5b74a7817c249a5… (all of the seat's roots in one cut). By AI agents, Wed Nov 11 2026. No macro, syntax, notation, axiom, sorry.
-/
import Derived.Test.YtojeihchkdkkgabChecked
import GoSem.Claim
import GoSem.ClaimJoined
import GoSem.ClaimMapViews
import Derived.JoinedTies
import Derived.KernelRfl
namespace Go.Proofs.Ytojeihchkdkkgab
/- THE CELL 'sum', in the pinned program and in every row, IS THE sha256 OF THE DUMP (.gsa) THAT YtojeihchkdkkgabProg.lean LOADS. Nothing in Lean hashes anything: it is a label: what it is worth is what the hold of that sum in a sandbox is worth. -/
noncomputable def Try.pinned : Pinned := { name := "ytojeihchkdkkgab", sum := "c5b74a7817c249a5690a4ff9008e0d652f611d0abfe0c9652ca2c394310eb1c8", checked := Try.checked }
namespace Rows
def none {H : Type} : Left H := { results := [], args := [] }

/-- 'trommellaw02.SchemaPlays': WHATEVER THE INPUT: true; the input reads as it did. -/
def schemaPlaysSpec : ChangeSpec := { name := "schemaPlays", fn := fun _ => fun
  | [d1, d2, d3] => { results := [.lit (.bool true)], args := [d1, d2, d3] }
  | _ => none }
def schemaPlaysRow : OpenClaim := { program := "ytojeihchkdkkgab", sum := "c5b74a7817c249a5690a4ff9008e0d652f611d0abfe0c9652ca2c394310eb1c8", func := "trommel/trommellaw02.SchemaPlays", spec := "schemaPlays", unfollowed := true, recurses := true, apart := false }
def SchemaPlaysSaid : Prop := schemaPlaysRow.holds Try.pinned (OpenSpec.ofChange schemaPlaysSpec)

/-- ITS FALSE NEIGHBOUR: 'it returns false'. Refute it at one input. -/
def schemaPlaysWrong : ChangeSpec := { name := "schemaPlays", fn := fun _ => fun
  | [d1, d2, d3] => { results := [.lit (.bool false)], args := [d1, d2, d3] }
  | _ => none }
def SchemaPlaysWrongFalsely : Prop := schemaPlaysRow.holds Try.pinned (OpenSpec.ofChange schemaPlaysWrong)

/-- 'trommellaw02.SchemaNames': WHATEVER THE INPUT: true; the input reads as it did. -/
def schemaNamesSpec : ChangeSpec := { name := "schemaNames", fn := fun _ => fun
  | [d1, d2] => { results := [.lit (.bool true)], args := [d1, d2] }
  | _ => none }
def schemaNamesRow : OpenClaim := { program := "ytojeihchkdkkgab", sum := "c5b74a7817c249a5690a4ff9008e0d652f611d0abfe0c9652ca2c394310eb1c8", func := "trommel/trommellaw02.SchemaNames", spec := "schemaNames", unfollowed := true, recurses := true, apart := false }
def SchemaNamesSaid : Prop := schemaNamesRow.holds Try.pinned (OpenSpec.ofChange schemaNamesSpec)

/-- ITS FALSE NEIGHBOUR: 'it returns false'. Refute it at one input. -/
def schemaNamesWrong : ChangeSpec := { name := "schemaNames", fn := fun _ => fun
  | [d1, d2] => { results := [.lit (.bool false)], args := [d1, d2] }
  | _ => none }
def SchemaNamesWrongFalsely : Prop := schemaNamesRow.holds Try.pinned (OpenSpec.ofChange schemaNamesWrong)

/-- 'trommellaw02.SchemaOrder': WHATEVER THE INPUT: true; the input reads as it did. -/
def schemaOrderSpec : ChangeSpec := { name := "schemaOrder", fn := fun _ => fun
  | [d1, d2, d3] => { results := [.lit (.bool true)], args := [d1, d2, d3] }
  | _ => none }
def schemaOrderRow : OpenClaim := { program := "ytojeihchkdkkgab", sum := "c5b74a7817c249a5690a4ff9008e0d652f611d0abfe0c9652ca2c394310eb1c8", func := "trommel/trommellaw02.SchemaOrder", spec := "schemaOrder", unfollowed := true, recurses := true, apart := false }
def SchemaOrderSaid : Prop := schemaOrderRow.holds Try.pinned (OpenSpec.ofChange schemaOrderSpec)

/-- ITS FALSE NEIGHBOUR: 'it returns false'. Refute it at one input. -/
def schemaOrderWrong : ChangeSpec := { name := "schemaOrder", fn := fun _ => fun
  | [d1, d2, d3] => { results := [.lit (.bool false)], args := [d1, d2, d3] }
  | _ => none }
def SchemaOrderWrongFalsely : Prop := schemaOrderRow.holds Try.pinned (OpenSpec.ofChange schemaOrderWrong)

/-- 'trommellaw02.SchemaKinds': WHATEVER THE INPUT: true; the input reads as it did. -/
def schemaKindsSpec : ChangeSpec := { name := "schemaKinds", fn := fun _ => fun
  | [d1, d2] => { results := [.lit (.bool true)], args := [d1, d2] }
  | _ => none }
def schemaKindsRow : OpenClaim := { program := "ytojeihchkdkkgab", sum := "c5b74a7817c249a5690a4ff9008e0d652f611d0abfe0c9652ca2c394310eb1c8", func := "trommel/trommellaw02.SchemaKinds", spec := "schemaKinds", unfollowed := true, recurses := true, apart := false }
def SchemaKindsSaid : Prop := schemaKindsRow.holds Try.pinned (OpenSpec.ofChange schemaKindsSpec)

/-- ITS FALSE NEIGHBOUR: 'it returns false'. Refute it at one input. -/
def schemaKindsWrong : ChangeSpec := { name := "schemaKinds", fn := fun _ => fun
  | [d1, d2] => { results := [.lit (.bool false)], args := [d1, d2] }
  | _ => none }
def SchemaKindsWrongFalsely : Prop := schemaKindsRow.holds Try.pinned (OpenSpec.ofChange schemaKindsWrong)

/-- 'trommellaw02.SchemaMemory': WHATEVER THE INPUT: true; the input reads as it did. -/
def schemaMemorySpec : ChangeSpec := { name := "schemaMemory", fn := fun _ => fun
  | [d1, d2] => { results := [.lit (.bool true)], args := [d1, d2] }
  | _ => none }
def schemaMemoryRow : OpenClaim := { program := "ytojeihchkdkkgab", sum := "c5b74a7817c249a5690a4ff9008e0d652f611d0abfe0c9652ca2c394310eb1c8", func := "trommel/trommellaw02.SchemaMemory", spec := "schemaMemory", unfollowed := true, recurses := true, apart := false }
def SchemaMemorySaid : Prop := schemaMemoryRow.holds Try.pinned (OpenSpec.ofChange schemaMemorySpec)

/-- ITS FALSE NEIGHBOUR: 'it returns false'. Refute it at one input. -/
def schemaMemoryWrong : ChangeSpec := { name := "schemaMemory", fn := fun _ => fun
  | [d1, d2] => { results := [.lit (.bool false)], args := [d1, d2] }
  | _ => none }
def SchemaMemoryWrongFalsely : Prop := schemaMemoryRow.holds Try.pinned (OpenSpec.ofChange schemaMemoryWrong)

/- THE SECOND FORM. 'bulk': how many values and letters a reading holds, each counted each time it is reached (what is shared counts as often as it is met; a slice's spare places count too). A statement '..UptoSaid' is the law's where the arguments, and the package variables that the reading takes, are together of bulk at most 1048576: NARROWER than '..Said'. Prove '..Said' where nothing that the law and all that it calls make is longer than what came in: it says more and counts as full. Else prove '..UptoSaid'. A law counts once. -/
mutual
def uptoBulk {H : Type} : DataW H → Nat
  | .lit (.string bytes) => bytes.length + 1
  | .lit _ => 1
  | .nil => 1
  | .ptr d => uptoBulk d + 1
  | .slice elems spare => uptoBulkAll elems + uptoBulkAll spare + 1
  | .agg parts => uptoBulkAll parts + 1
  | .iface _ d => uptoBulk d + 1
  | .map entries => uptoBulkEntries entries + 1
  | .held _ => 1
def uptoBulkAll {H : Type} : List (DataW H) → Nat
  | [] => 0
  | d :: r => uptoBulk d + uptoBulkAll r
def uptoBulkEntries {H : Type} : List (Lit × DataW H) → Nat
  | [] => 0
  | x :: r => uptoBulkEntry x + uptoBulkEntries r
def uptoBulkEntry {H : Type} : Lit × DataW H → Nat
  | (.string bytes, d) => bytes.length + uptoBulk d + 1
  | (_, d) => uptoBulk d + 1
 end
def uptoSmall : (H : Type) → List (DataW H) → Bool := fun _ ds => decide (uptoBulkAll ds ≤ 1048576)
def OpenSpec.upto (s : _root_.Go.ChangeSpec) : _root_.Go.OpenSpec := { _root_.Go.OpenSpec.ofChange s with cond := some uptoSmall }

/-- 'trommellaw02.SchemaPlays', WHERE WHAT IT READS IS OF BULK AT MOST 1048576: true; the input reads as it did. -/
def schemaPlaysUptoRow : OpenClaim := { program := "ytojeihchkdkkgab", sum := "c5b74a7817c249a5690a4ff9008e0d652f611d0abfe0c9652ca2c394310eb1c8", func := "trommel/trommellaw02.SchemaPlays", spec := "schemaPlays", unfollowed := true, recurses := true, apart := false, narrowed := true }
def SchemaPlaysUptoSaid : Prop := schemaPlaysUptoRow.holds Try.pinned (OpenSpec.upto schemaPlaysSpec)

/-- 'trommellaw02.SchemaNames', WHERE WHAT IT READS IS OF BULK AT MOST 1048576: true; the input reads as it did. -/
def schemaNamesUptoRow : OpenClaim := { program := "ytojeihchkdkkgab", sum := "c5b74a7817c249a5690a4ff9008e0d652f611d0abfe0c9652ca2c394310eb1c8", func := "trommel/trommellaw02.SchemaNames", spec := "schemaNames", unfollowed := true, recurses := true, apart := false, narrowed := true }
def SchemaNamesUptoSaid : Prop := schemaNamesUptoRow.holds Try.pinned (OpenSpec.upto schemaNamesSpec)

/-- 'trommellaw02.SchemaOrder', WHERE WHAT IT READS IS OF BULK AT MOST 1048576: true; the input reads as it did. -/
def schemaOrderUptoRow : OpenClaim := { program := "ytojeihchkdkkgab", sum := "c5b74a7817c249a5690a4ff9008e0d652f611d0abfe0c9652ca2c394310eb1c8", func := "trommel/trommellaw02.SchemaOrder", spec := "schemaOrder", unfollowed := true, recurses := true, apart := false, narrowed := true }
def SchemaOrderUptoSaid : Prop := schemaOrderUptoRow.holds Try.pinned (OpenSpec.upto schemaOrderSpec)

/-- 'trommellaw02.SchemaKinds', WHERE WHAT IT READS IS OF BULK AT MOST 1048576: true; the input reads as it did. -/
def schemaKindsUptoRow : OpenClaim := { program := "ytojeihchkdkkgab", sum := "c5b74a7817c249a5690a4ff9008e0d652f611d0abfe0c9652ca2c394310eb1c8", func := "trommel/trommellaw02.SchemaKinds", spec := "schemaKinds", unfollowed := true, recurses := true, apart := false, narrowed := true }
def SchemaKindsUptoSaid : Prop := schemaKindsUptoRow.holds Try.pinned (OpenSpec.upto schemaKindsSpec)

/-- 'trommellaw02.SchemaMemory', WHERE WHAT IT READS IS OF BULK AT MOST 1048576: true; the input reads as it did. -/
def schemaMemoryUptoRow : OpenClaim := { program := "ytojeihchkdkkgab", sum := "c5b74a7817c249a5690a4ff9008e0d652f611d0abfe0c9652ca2c394310eb1c8", func := "trommel/trommellaw02.SchemaMemory", spec := "schemaMemory", unfollowed := true, recurses := true, apart := false, narrowed := true }
def SchemaMemoryUptoSaid : Prop := schemaMemoryUptoRow.holds Try.pinned (OpenSpec.upto schemaMemorySpec)

end Rows
end Go.Proofs.Ytojeihchkdkkgab
