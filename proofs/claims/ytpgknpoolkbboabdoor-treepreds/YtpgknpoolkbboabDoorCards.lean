/-
  DERIVED. GIVEN WITH THE SEED: THE CARDS: each row of YtpgknpoolkbboabDoorRows.lean that lists a variable, with what it lists TIED to the program's text (the seventh form; the later family's looks); each row that meets fmt, with fmt's text TOLD by the authors' own Lean function (tested against real Go, not proved from fmt's source: count such statements apart). THE CARD IS WHAT COUNTS. Prove the row's statement (the work); the ties are given (YtpgknpoolkbboabDoorTie.lean); close each card by the builder's one call (the guide's Derived/Test/ToyasCard.lean, 'card_holds'). Laid BY PROGRAM, IN A SANDBOX (cutbox-door.mjs). By AI agents, Wed Nov 11 2026. No macro, syntax, notation, axiom, sorry.
-/
import Derived.Test.YtpgknpoolkbboabDoorRows
import GoSem.ClaimSeven
namespace Go.Proofs.YtpgknpoolkbboabDoor
namespace Rows

/-- THE TIED CARD OF 'trommellaw04.TreePreds'. -/
def treePredsCard : Claim7 := { stood := { row := treePredsRow, standIns := [], harness := (true, "bf57e978e274dbeaeb607e2579552917d01dddda996786a8b3d5e51b6c4b7640"), looks := false }, kinds := [], alts := [], laidByText := true, laidKinds := [.data, .data, .data], laidTests := true, laidLooks := .later }
def TreePredsCardSaid : Prop := Claim7.holds Tryd.pinned (.plain (OpenSpec.ofChange treePredsSpec)) treePredsCard

/-- THE TIED CARD OF 'trommellaw04.TreeSame'. -/
def treeSameCard : Claim7 := { stood := { row := treeSameRow, standIns := [], harness := (true, "bf57e978e274dbeaeb607e2579552917d01dddda996786a8b3d5e51b6c4b7640"), looks := false }, kinds := [], alts := [], laidByText := true, laidKinds := [.data, .data, .data], laidTests := true, laidLooks := .later }
def TreeSameCardSaid : Prop := Claim7.holds Tryd.pinned (.plain (OpenSpec.ofChange treeSameSpec)) treeSameCard

/-- THE TIED CARD OF 'trommellaw04.TreeLeaves'. -/
def treeLeavesCard : Claim7 := { stood := { row := treeLeavesRow, standIns := [], harness := (true, "bf57e978e274dbeaeb607e2579552917d01dddda996786a8b3d5e51b6c4b7640"), looks := false }, kinds := [], alts := [], laidByText := true, laidKinds := [.data, .data, .data], laidTests := true, laidLooks := .later }
def TreeLeavesCardSaid : Prop := Claim7.holds Tryd.pinned (.plain (OpenSpec.ofChange treeLeavesSpec)) treeLeavesCard

/-- THE TIED CARD OF 'trommellaw04.TreeBuilds'. -/
def treeBuildsCard : Claim7 := { stood := { row := treeBuildsRow, standIns := [], harness := (true, "bf57e978e274dbeaeb607e2579552917d01dddda996786a8b3d5e51b6c4b7640"), looks := false }, kinds := [], alts := [], laidByText := true, laidKinds := [.data, .data, .data], laidTests := true, laidLooks := .later }
def TreeBuildsCardSaid : Prop := Claim7.holds Tryd.pinned (.plain (OpenSpec.ofChange treeBuildsSpec)) treeBuildsCard

/-- THE TIED CARD OF 'trommellaw04.TreeOwns'. -/
def treeOwnsCard : Claim7 := { stood := { row := treeOwnsRow, standIns := [], harness := (true, "bf57e978e274dbeaeb607e2579552917d01dddda996786a8b3d5e51b6c4b7640"), looks := false }, kinds := [], alts := [], laidByText := true, laidKinds := [.data, .data, .data], laidTests := true, laidLooks := .later }
def TreeOwnsCardSaid : Prop := Claim7.holds Tryd.pinned (.plain (OpenSpec.ofChange treeOwnsSpec)) treeOwnsCard

/-- THE TIED CARD OF 'trommellaw04.TreeDepths'. -/
def treeDepthsCard : Claim7 := { stood := { row := treeDepthsRow, standIns := [], harness := (true, "bf57e978e274dbeaeb607e2579552917d01dddda996786a8b3d5e51b6c4b7640"), looks := false }, kinds := [], alts := [], laidByText := true, laidKinds := [.data, .data, .data], laidTests := true, laidLooks := .later }
def TreeDepthsCardSaid : Prop := Claim7.holds Tryd.pinned (.plain (OpenSpec.ofChange treeDepthsSpec)) treeDepthsCard

/-- THE SECOND FORM's CARD OF 'trommellaw04.TreePreds'. -/
def treePredsUptoCard : Claim7 := { stood := { row := treePredsUptoRow, standIns := [], harness := (true, "bf57e978e274dbeaeb607e2579552917d01dddda996786a8b3d5e51b6c4b7640"), looks := false }, kinds := [], alts := [], laidByText := true, laidKinds := [.data, .data, .data], laidTests := true, laidLooks := .later }
def TreePredsUptoCardSaid : Prop := Claim7.holds Tryd.pinned (.plain (OpenSpec.upto treePredsSpec)) treePredsUptoCard

/-- THE SECOND FORM's CARD OF 'trommellaw04.TreeSame'. -/
def treeSameUptoCard : Claim7 := { stood := { row := treeSameUptoRow, standIns := [], harness := (true, "bf57e978e274dbeaeb607e2579552917d01dddda996786a8b3d5e51b6c4b7640"), looks := false }, kinds := [], alts := [], laidByText := true, laidKinds := [.data, .data, .data], laidTests := true, laidLooks := .later }
def TreeSameUptoCardSaid : Prop := Claim7.holds Tryd.pinned (.plain (OpenSpec.upto treeSameSpec)) treeSameUptoCard

/-- THE SECOND FORM's CARD OF 'trommellaw04.TreeLeaves'. -/
def treeLeavesUptoCard : Claim7 := { stood := { row := treeLeavesUptoRow, standIns := [], harness := (true, "bf57e978e274dbeaeb607e2579552917d01dddda996786a8b3d5e51b6c4b7640"), looks := false }, kinds := [], alts := [], laidByText := true, laidKinds := [.data, .data, .data], laidTests := true, laidLooks := .later }
def TreeLeavesUptoCardSaid : Prop := Claim7.holds Tryd.pinned (.plain (OpenSpec.upto treeLeavesSpec)) treeLeavesUptoCard

/-- THE SECOND FORM's CARD OF 'trommellaw04.TreeBuilds'. -/
def treeBuildsUptoCard : Claim7 := { stood := { row := treeBuildsUptoRow, standIns := [], harness := (true, "bf57e978e274dbeaeb607e2579552917d01dddda996786a8b3d5e51b6c4b7640"), looks := false }, kinds := [], alts := [], laidByText := true, laidKinds := [.data, .data, .data], laidTests := true, laidLooks := .later }
def TreeBuildsUptoCardSaid : Prop := Claim7.holds Tryd.pinned (.plain (OpenSpec.upto treeBuildsSpec)) treeBuildsUptoCard

/-- THE SECOND FORM's CARD OF 'trommellaw04.TreeOwns'. -/
def treeOwnsUptoCard : Claim7 := { stood := { row := treeOwnsUptoRow, standIns := [], harness := (true, "bf57e978e274dbeaeb607e2579552917d01dddda996786a8b3d5e51b6c4b7640"), looks := false }, kinds := [], alts := [], laidByText := true, laidKinds := [.data, .data, .data], laidTests := true, laidLooks := .later }
def TreeOwnsUptoCardSaid : Prop := Claim7.holds Tryd.pinned (.plain (OpenSpec.upto treeOwnsSpec)) treeOwnsUptoCard

/-- THE SECOND FORM's CARD OF 'trommellaw04.TreeDepths'. -/
def treeDepthsUptoCard : Claim7 := { stood := { row := treeDepthsUptoRow, standIns := [], harness := (true, "bf57e978e274dbeaeb607e2579552917d01dddda996786a8b3d5e51b6c4b7640"), looks := false }, kinds := [], alts := [], laidByText := true, laidKinds := [.data, .data, .data], laidTests := true, laidLooks := .later }
def TreeDepthsUptoCardSaid : Prop := Claim7.holds Tryd.pinned (.plain (OpenSpec.upto treeDepthsSpec)) treeDepthsUptoCard
end Rows
end Go.Proofs.YtpgknpoolkbboabDoor
