/-
  DERIVED. GIVEN WITH THE SEED: THE CARDS: each row of YtmgdhdekhaohhaaGreatDoorRows.lean that lists a variable, with what it lists TIED to the program's text (the seventh form; the later family's looks); each row that meets fmt, with fmt's text TOLD by the authors' own Lean function (tested against real Go, not proved from fmt's source: count such statements apart). THE CARD IS WHAT COUNTS. Prove the row's statement (the work); the ties are given (YtmgdhdekhaohhaaGreatDoorTie.lean); close each card by the builder's one call (the guide's Derived/Test/ToyasCard.lean, 'card_holds'). Laid BY PROGRAM, IN A SANDBOX (cutbox-door.mjs). By AI agents, Wed Nov 11 2026. No macro, syntax, notation, axiom, sorry.
-/
import Derived.Test.YtmgdhdekhaohhaaGreatDoorRows
import GoSem.ClaimSeven
namespace Go.Proofs.YtmgdhdekhaohhaaGreatDoor
namespace Rows

/-- THE TIED CARD OF 'trommellaw12.KeyLists'. -/
def keyListsCard : Claim7 := { stood := { row := keyListsRow, standIns := [], harness := (true, "e35d7d75478e638aa2eeed48d4cde05d9b7a7042c1c581f6242b2b70de190d50"), looks := false }, kinds := [], alts := [], laidByText := true, laidKinds := [.data, .data], laidTests := true, laidLooks := .later }
def KeyListsCardSaid : Prop := Claim7.holds Tryz.pinned (.plain (OpenSpec.ofChange keyListsSpec)) keyListsCard

/-- THE TIED CARD OF 'trommellaw12.KeyOrder'. -/
def keyOrderCard : Claim7 := { stood := { row := keyOrderRow, standIns := [], harness := (true, "e35d7d75478e638aa2eeed48d4cde05d9b7a7042c1c581f6242b2b70de190d50"), looks := false }, kinds := [], alts := [], laidByText := true, laidKinds := [.data, .data], laidTests := true, laidLooks := .later }
def KeyOrderCardSaid : Prop := Claim7.holds Tryz.pinned (.plain (OpenSpec.ofChange keyOrderSpec)) keyOrderCard

/-- THE SECOND FORM's CARD OF 'trommellaw12.KeyLists'. -/
def keyListsUptoCard : Claim7 := { stood := { row := keyListsUptoRow, standIns := [], harness := (true, "e35d7d75478e638aa2eeed48d4cde05d9b7a7042c1c581f6242b2b70de190d50"), looks := false }, kinds := [], alts := [], laidByText := true, laidKinds := [.data, .data], laidTests := true, laidLooks := .later }
def KeyListsUptoCardSaid : Prop := Claim7.holds Tryz.pinned (.plain (OpenSpec.upto keyListsSpec)) keyListsUptoCard

/-- THE SECOND FORM's CARD OF 'trommellaw12.KeyOrder'. -/
def keyOrderUptoCard : Claim7 := { stood := { row := keyOrderUptoRow, standIns := [], harness := (true, "e35d7d75478e638aa2eeed48d4cde05d9b7a7042c1c581f6242b2b70de190d50"), looks := false }, kinds := [], alts := [], laidByText := true, laidKinds := [.data, .data], laidTests := true, laidLooks := .later }
def KeyOrderUptoCardSaid : Prop := Claim7.holds Tryz.pinned (.plain (OpenSpec.upto keyOrderSpec)) keyOrderUptoCard
end Rows
end Go.Proofs.YtmgdhdekhaohhaaGreatDoor
