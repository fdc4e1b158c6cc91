/-
  DERIVED. GIVEN WITH THE SEED: THE CARDS: each row of YtencibjmiphinaaGreatDoorRows.lean that lists a variable, with what it lists TIED to the program's text (the seventh form; the later family's looks); each row that meets fmt, with fmt's text TOLD by the authors' own Lean function (tested against real Go, not proved from fmt's source: count such statements apart). THE CARD IS WHAT COUNTS. Prove the row's statement (the work); the ties are given (YtencibjmiphinaaGreatDoorTie.lean); close each card by the builder's one call (the guide's Derived/Test/ToyasCard.lean, 'card_holds'). Laid BY PROGRAM, IN A SANDBOX (cutbox-door.mjs). By AI agents, Wed Nov 11 2026. No macro, syntax, notation, axiom, sorry.
-/
import Derived.Test.YtencibjmiphinaaGreatDoorRows
import GoSem.ClaimSeven
namespace Go.Proofs.YtencibjmiphinaaGreatDoor
namespace Rows

/-- THE TIED CARD OF 'trommellaw05.ParsePlays'. -/
def parsePlaysCard : Claim7 := { stood := { row := parsePlaysRow, standIns := [], harness := (true, "643ac5f076bc408cbb1d2c443a70aa1b586b2856c1816996ebeaa713f4dea5e7"), looks := true }, kinds := [], alts := [], laidByText := true, laidKinds := [.data, .data, .data, .sentinel, .sentinel], laidTests := true, laidLooks := .later }
def ParsePlaysCardSaid : Prop := Claim7.holds Tryz.pinned (.plain (OpenSpec.ofChange parsePlaysSpec)) parsePlaysCard

/-- THE TIED CARD OF 'trommellaw05.ParseExprs'. -/
def parseExprsCard : Claim7 := { stood := { row := parseExprsRow, standIns := [], harness := (true, "643ac5f076bc408cbb1d2c443a70aa1b586b2856c1816996ebeaa713f4dea5e7"), looks := true }, kinds := [], alts := [], laidByText := true, laidKinds := [.data, .data, .data, .sentinel, .sentinel], laidTests := true, laidLooks := .later }
def ParseExprsCardSaid : Prop := Claim7.holds Tryz.pinned (.plain (OpenSpec.ofChange parseExprsSpec)) parseExprsCard

/-- THE TIED CARD OF 'trommellaw05.ParseBack'. -/
def parseBackCard : Claim7 := { stood := { row := parseBackRow, standIns := [], harness := (true, "643ac5f076bc408cbb1d2c443a70aa1b586b2856c1816996ebeaa713f4dea5e7"), looks := true }, kinds := [], alts := [], laidByText := true, laidKinds := [.data, .data, .data, .sentinel, .sentinel], laidTests := true, laidLooks := .later }
def ParseBackCardSaid : Prop := Claim7.holds Tryz.pinned (.plain (OpenSpec.ofChange parseBackSpec)) parseBackCard

/-- THE TIED CARD OF 'trommellaw05.ParseForms'. -/
def parseFormsCard : Claim7 := { stood := { row := parseFormsRow, standIns := [], harness := (true, "643ac5f076bc408cbb1d2c443a70aa1b586b2856c1816996ebeaa713f4dea5e7"), looks := true }, kinds := [], alts := [], laidByText := true, laidKinds := [.data, .data, .data, .sentinel, .sentinel], laidTests := true, laidLooks := .later }
def ParseFormsCardSaid : Prop := Claim7.holds Tryz.pinned (.plain (OpenSpec.ofChange parseFormsSpec)) parseFormsCard

/-- THE TIED CARD OF 'trommellaw05.ParsePlaces'. -/
def parsePlacesCard : Claim7 := { stood := { row := parsePlacesRow, standIns := [], harness := (true, "643ac5f076bc408cbb1d2c443a70aa1b586b2856c1816996ebeaa713f4dea5e7"), looks := true }, kinds := [], alts := [], laidByText := true, laidKinds := [.data, .data, .data, .sentinel, .sentinel], laidTests := true, laidLooks := .later }
def ParsePlacesCardSaid : Prop := Claim7.holds Tryz.pinned (.plain (OpenSpec.ofChange parsePlacesSpec)) parsePlacesCard

/-- THE TIED CARD OF 'trommellaw05.ParseOwns'. -/
def parseOwnsCard : Claim7 := { stood := { row := parseOwnsRow, standIns := [], harness := (true, "643ac5f076bc408cbb1d2c443a70aa1b586b2856c1816996ebeaa713f4dea5e7"), looks := true }, kinds := [], alts := [], laidByText := true, laidKinds := [.data, .data, .data, .sentinel, .sentinel], laidTests := true, laidLooks := .later }
def ParseOwnsCardSaid : Prop := Claim7.holds Tryz.pinned (.plain (OpenSpec.ofChange parseOwnsSpec)) parseOwnsCard

/-- THE SECOND FORM's CARD OF 'trommellaw05.ParsePlays'. -/
def parsePlaysUptoCard : Claim7 := { stood := { row := parsePlaysUptoRow, standIns := [], harness := (true, "643ac5f076bc408cbb1d2c443a70aa1b586b2856c1816996ebeaa713f4dea5e7"), looks := true }, kinds := [], alts := [], laidByText := true, laidKinds := [.data, .data, .data, .sentinel, .sentinel], laidTests := true, laidLooks := .later }
def ParsePlaysUptoCardSaid : Prop := Claim7.holds Tryz.pinned (.plain (OpenSpec.upto parsePlaysSpec)) parsePlaysUptoCard

/-- THE SECOND FORM's CARD OF 'trommellaw05.ParseExprs'. -/
def parseExprsUptoCard : Claim7 := { stood := { row := parseExprsUptoRow, standIns := [], harness := (true, "643ac5f076bc408cbb1d2c443a70aa1b586b2856c1816996ebeaa713f4dea5e7"), looks := true }, kinds := [], alts := [], laidByText := true, laidKinds := [.data, .data, .data, .sentinel, .sentinel], laidTests := true, laidLooks := .later }
def ParseExprsUptoCardSaid : Prop := Claim7.holds Tryz.pinned (.plain (OpenSpec.upto parseExprsSpec)) parseExprsUptoCard

/-- THE SECOND FORM's CARD OF 'trommellaw05.ParseBack'. -/
def parseBackUptoCard : Claim7 := { stood := { row := parseBackUptoRow, standIns := [], harness := (true, "643ac5f076bc408cbb1d2c443a70aa1b586b2856c1816996ebeaa713f4dea5e7"), looks := true }, kinds := [], alts := [], laidByText := true, laidKinds := [.data, .data, .data, .sentinel, .sentinel], laidTests := true, laidLooks := .later }
def ParseBackUptoCardSaid : Prop := Claim7.holds Tryz.pinned (.plain (OpenSpec.upto parseBackSpec)) parseBackUptoCard

/-- THE SECOND FORM's CARD OF 'trommellaw05.ParseForms'. -/
def parseFormsUptoCard : Claim7 := { stood := { row := parseFormsUptoRow, standIns := [], harness := (true, "643ac5f076bc408cbb1d2c443a70aa1b586b2856c1816996ebeaa713f4dea5e7"), looks := true }, kinds := [], alts := [], laidByText := true, laidKinds := [.data, .data, .data, .sentinel, .sentinel], laidTests := true, laidLooks := .later }
def ParseFormsUptoCardSaid : Prop := Claim7.holds Tryz.pinned (.plain (OpenSpec.upto parseFormsSpec)) parseFormsUptoCard

/-- THE SECOND FORM's CARD OF 'trommellaw05.ParsePlaces'. -/
def parsePlacesUptoCard : Claim7 := { stood := { row := parsePlacesUptoRow, standIns := [], harness := (true, "643ac5f076bc408cbb1d2c443a70aa1b586b2856c1816996ebeaa713f4dea5e7"), looks := true }, kinds := [], alts := [], laidByText := true, laidKinds := [.data, .data, .data, .sentinel, .sentinel], laidTests := true, laidLooks := .later }
def ParsePlacesUptoCardSaid : Prop := Claim7.holds Tryz.pinned (.plain (OpenSpec.upto parsePlacesSpec)) parsePlacesUptoCard

/-- THE SECOND FORM's CARD OF 'trommellaw05.ParseOwns'. -/
def parseOwnsUptoCard : Claim7 := { stood := { row := parseOwnsUptoRow, standIns := [], harness := (true, "643ac5f076bc408cbb1d2c443a70aa1b586b2856c1816996ebeaa713f4dea5e7"), looks := true }, kinds := [], alts := [], laidByText := true, laidKinds := [.data, .data, .data, .sentinel, .sentinel], laidTests := true, laidLooks := .later }
def ParseOwnsUptoCardSaid : Prop := Claim7.holds Tryz.pinned (.plain (OpenSpec.upto parseOwnsSpec)) parseOwnsUptoCard
end Rows
end Go.Proofs.YtencibjmiphinaaGreatDoor
