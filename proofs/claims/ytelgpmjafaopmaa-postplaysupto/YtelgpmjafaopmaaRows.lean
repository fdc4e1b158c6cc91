/-
  No cell of these rows narrows 'for every input' (looked for: loops, veiled, ifaces, maps, wideKeys, modest, calm, conditions, laid).
  DERIVED. THE GIVEN ROWS OF THIS SEAT. 4 by the template 'for every input the law returns true; each argument reads behind the call as it read before'; 0 by the template 'total and deterministic' (their statements: YtelgpmjafaopmaaTotals.lean).
  GIVEN WITH THE SEED: the statements are not yours to turn. If you find one false, say at which input.
  Laid BY PROGRAM, IN A SANDBOX (cutbox-rows.mjs): the forced cells as the released guide's own fill.sh prints them over the translation 5122ac10eaf335c6… (all of the seat's roots in one cut). By AI agents, Wed Nov 11 2026. No macro, syntax, notation, axiom, sorry.
-/
import Derived.Test.YtelgpmjafaopmaaChecked
import GoSem.Claim
import GoSem.ClaimJoined
import GoSem.ClaimMapViews
import Derived.JoinedTies
import Derived.KernelRfl
namespace Go.Proofs.Ytelgpmjafaopmaa
/- THE CELL 'sum', in the pinned program and in every row, IS THE sha256 OF THE DUMP (.gsa) THAT YtelgpmjafaopmaaProg.lean LOADS. Nothing in Lean hashes anything: it is a label: what it is worth is what the hold of that sum in a sandbox is worth. -/
noncomputable def Try.pinned : Pinned := { name := "ytelgpmjafaopmaa", sum := "5122ac10eaf335c603262b401ecf89c48925bc9ab4c53061caf72625b6eecb24", checked := Try.checked }
namespace Rows
def none {H : Type} : Left H := { results := [], args := [] }

/-- 'trommellaw13.PostPlays': WHATEVER THE INPUT: true; the input reads as it did. -/
def postPlaysSpec : ChangeSpec := { name := "postPlays", fn := fun _ => fun
  | [d] => { results := [.lit (.bool true)], args := [d] }
  | _ => none }
def postPlaysRow : OpenClaim := { program := "ytelgpmjafaopmaa", sum := "5122ac10eaf335c603262b401ecf89c48925bc9ab4c53061caf72625b6eecb24", func := "trommel/trommellaw13.PostPlays", spec := "postPlays", unfollowed := true, recurses := true, apart := false }
def PostPlaysSaid : Prop := postPlaysRow.holds Try.pinned (OpenSpec.ofChange postPlaysSpec)

/-- ITS FALSE NEIGHBOUR: 'it returns false'. Refute it at one input. -/
def postPlaysWrong : ChangeSpec := { name := "postPlays", fn := fun _ => fun
  | [d] => { results := [.lit (.bool false)], args := [d] }
  | _ => none }
def PostPlaysWrongFalsely : Prop := postPlaysRow.holds Try.pinned (OpenSpec.ofChange postPlaysWrong)

/-- 'trommellaw13.PostSkips': WHATEVER THE INPUT: true; the input reads as it did. -/
def postSkipsSpec : ChangeSpec := { name := "postSkips", fn := fun _ => fun
  | [d1, d2] => { results := [.lit (.bool true)], args := [d1, d2] }
  | _ => none }
def postSkipsRow : OpenClaim := { program := "ytelgpmjafaopmaa", sum := "5122ac10eaf335c603262b401ecf89c48925bc9ab4c53061caf72625b6eecb24", func := "trommel/trommellaw13.PostSkips", spec := "postSkips", unfollowed := true, recurses := true, apart := false }
def PostSkipsSaid : Prop := postSkipsRow.holds Try.pinned (OpenSpec.ofChange postSkipsSpec)

/-- ITS FALSE NEIGHBOUR: 'it returns false'. Refute it at one input. -/
def postSkipsWrong : ChangeSpec := { name := "postSkips", fn := fun _ => fun
  | [d1, d2] => { results := [.lit (.bool false)], args := [d1, d2] }
  | _ => none }
def PostSkipsWrongFalsely : Prop := postSkipsRow.holds Try.pinned (OpenSpec.ofChange postSkipsWrong)

/-- 'trommellaw13.PostOrder': WHATEVER THE INPUT: true; the input reads as it did. -/
def postOrderSpec : ChangeSpec := { name := "postOrder", fn := fun _ => fun
  | [d1, d2, d3] => { results := [.lit (.bool true)], args := [d1, d2, d3] }
  | _ => none }
def postOrderRow : OpenClaim := { program := "ytelgpmjafaopmaa", sum := "5122ac10eaf335c603262b401ecf89c48925bc9ab4c53061caf72625b6eecb24", func := "trommel/trommellaw13.PostOrder", spec := "postOrder", unfollowed := true, recurses := true, apart := false }
def PostOrderSaid : Prop := postOrderRow.holds Try.pinned (OpenSpec.ofChange postOrderSpec)

/-- ITS FALSE NEIGHBOUR: 'it returns false'. Refute it at one input. -/
def postOrderWrong : ChangeSpec := { name := "postOrder", fn := fun _ => fun
  | [d1, d2, d3] => { results := [.lit (.bool false)], args := [d1, d2, d3] }
  | _ => none }
def PostOrderWrongFalsely : Prop := postOrderRow.holds Try.pinned (OpenSpec.ofChange postOrderWrong)

/-- 'trommellaw13.PostAsItWas': WHATEVER THE INPUT: true; the input reads as it did. -/
def postAsItWasSpec : ChangeSpec := { name := "postAsItWas", fn := fun _ => fun
  | [d1, d2, d3] => { results := [.lit (.bool true)], args := [d1, d2, d3] }
  | _ => none }
def postAsItWasRow : OpenClaim := { program := "ytelgpmjafaopmaa", sum := "5122ac10eaf335c603262b401ecf89c48925bc9ab4c53061caf72625b6eecb24", func := "trommel/trommellaw13.PostAsItWas", spec := "postAsItWas", unfollowed := true, recurses := true, apart := false }
def PostAsItWasSaid : Prop := postAsItWasRow.holds Try.pinned (OpenSpec.ofChange postAsItWasSpec)

/-- ITS FALSE NEIGHBOUR: 'it returns false'. Refute it at one input. -/
def postAsItWasWrong : ChangeSpec := { name := "postAsItWas", fn := fun _ => fun
  | [d1, d2, d3] => { results := [.lit (.bool false)], args := [d1, d2, d3] }
  | _ => none }
def PostAsItWasWrongFalsely : Prop := postAsItWasRow.holds Try.pinned (OpenSpec.ofChange postAsItWasWrong)

/- THE SECOND FORM. 'bulk': how many values and letters a reading holds, each counted each time it is reached (what is shared counts as often as it is met; a slice's spare places count too). A statement '..UptoSaid' is the law's where the arguments, and the package variables that the reading takes, are together of bulk at most 1048576: NARROWER than '..Said'. Prove '..Said' where nothing that the law and all that it calls make is longer than what came in: it says more and counts as full. Else prove '..UptoSaid'. A law counts once. -/
mutual
def uptoBulk {H : Type} : DataW H → Nat
  | .lit (.string bytes) => bytes.length + 1
  | .lit _ => 1
  | .nil => 1
  | .ptr d => uptoBulk d + 1
  | .slice elems spare => uptoBulkAll elems + uptoBulkAll spare + 1
  | .agg parts => uptoBulkAll parts + 1
  | .iface _ d => uptoBulk d + 1
  | .map entries => uptoBulkEntries entries + 1
  | .held _ => 1
def uptoBulkAll {H : Type} : List (DataW H) → Nat
  | [] => 0
  | d :: r => uptoBulk d + uptoBulkAll r
def uptoBulkEntries {H : Type} : List (Lit × DataW H) → Nat
  | [] => 0
  | x :: r => uptoBulkEntry x + uptoBulkEntries r
def uptoBulkEntry {H : Type} : Lit × DataW H → Nat
  | (.string bytes, d) => bytes.length + uptoBulk d + 1
  | (_, d) => uptoBulk d + 1
 end
def uptoSmall : (H : Type) → List (DataW H) → Bool := fun _ ds => decide (uptoBulkAll ds ≤ 1048576)
def OpenSpec.upto (s : _root_.Go.ChangeSpec) : _root_.Go.OpenSpec := { _root_.Go.OpenSpec.ofChange s with cond := some uptoSmall }

/-- 'trommellaw13.PostPlays', WHERE WHAT IT READS IS OF BULK AT MOST 1048576: true; the input reads as it did. -/
def postPlaysUptoRow : OpenClaim := { program := "ytelgpmjafaopmaa", sum := "5122ac10eaf335c603262b401ecf89c48925bc9ab4c53061caf72625b6eecb24", func := "trommel/trommellaw13.PostPlays", spec := "postPlays", unfollowed := true, recurses := true, apart := false, narrowed := true }
def PostPlaysUptoSaid : Prop := postPlaysUptoRow.holds Try.pinned (OpenSpec.upto postPlaysSpec)

/-- 'trommellaw13.PostSkips', WHERE WHAT IT READS IS OF BULK AT MOST 1048576: true; the input reads as it did. -/
def postSkipsUptoRow : OpenClaim := { program := "ytelgpmjafaopmaa", sum := "5122ac10eaf335c603262b401ecf89c48925bc9ab4c53061caf72625b6eecb24", func := "trommel/trommellaw13.PostSkips", spec := "postSkips", unfollowed := true, recurses := true, apart := false, narrowed := true }
def PostSkipsUptoSaid : Prop := postSkipsUptoRow.holds Try.pinned (OpenSpec.upto postSkipsSpec)

/-- 'trommellaw13.PostOrder', WHERE WHAT IT READS IS OF BULK AT MOST 1048576: true; the input reads as it did. -/
def postOrderUptoRow : OpenClaim := { program := "ytelgpmjafaopmaa", sum := "5122ac10eaf335c603262b401ecf89c48925bc9ab4c53061caf72625b6eecb24", func := "trommel/trommellaw13.PostOrder", spec := "postOrder", unfollowed := true, recurses := true, apart := false, narrowed := true }
def PostOrderUptoSaid : Prop := postOrderUptoRow.holds Try.pinned (OpenSpec.upto postOrderSpec)

/-- 'trommellaw13.PostAsItWas', WHERE WHAT IT READS IS OF BULK AT MOST 1048576: true; the input reads as it did. -/
def postAsItWasUptoRow : OpenClaim := { program := "ytelgpmjafaopmaa", sum := "5122ac10eaf335c603262b401ecf89c48925bc9ab4c53061caf72625b6eecb24", func := "trommel/trommellaw13.PostAsItWas", spec := "postAsItWas", unfollowed := true, recurses := true, apart := false, narrowed := true }
def PostAsItWasUptoSaid : Prop := postAsItWasUptoRow.holds Try.pinned (OpenSpec.upto postAsItWasSpec)

end Rows
end Go.Proofs.Ytelgpmjafaopmaa
