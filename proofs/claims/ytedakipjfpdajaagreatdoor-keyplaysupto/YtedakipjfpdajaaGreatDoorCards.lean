/-
  DERIVED. GIVEN WITH THE SEED: THE CARDS: each row of YtedakipjfpdajaaGreatDoorRows.lean that lists a variable, with what it lists TIED to the program's text (the seventh form; the later family's looks); each row that meets fmt, with fmt's text TOLD by the authors' own Lean function (tested against real Go, not proved from fmt's source: count such statements apart). THE CARD IS WHAT COUNTS. Prove the row's statement (the work); the ties are given (YtedakipjfpdajaaGreatDoorTie.lean); close each card by the builder's one call (the guide's Derived/Test/ToyasCard.lean, 'card_holds'). Laid BY PROGRAM, IN A SANDBOX (cutbox-door.mjs). By AI agents, Wed Nov 11 2026. No macro, syntax, notation, axiom, sorry.
-/
import Derived.Test.YtedakipjfpdajaaGreatDoorRows
import GoSem.ClaimSeven
namespace Go.Proofs.YtedakipjfpdajaaGreatDoor
namespace Rows

/-- THE TIED CARD OF 'trommellaw12.KeyPlays'. -/
def keyPlaysCard : Claim7 := { stood := { row := keyPlaysRow, standIns := [], harness := (true, "33a78147275cd211bd40f4f4251c4ebd4f39b3050c4815eee7705a4618528cd6"), looks := false }, kinds := [], alts := [], laidByText := true, laidKinds := [.data, .data], laidTests := true, laidLooks := .later }
def KeyPlaysCardSaid : Prop := Claim7.holds Tryz.pinned (.plain (OpenSpec.ofChange keyPlaysSpec)) keyPlaysCard

/-- THE TIED CARD OF 'trommellaw12.KeyMeets'. -/
def keyMeetsCard : Claim7 := { stood := { row := keyMeetsRow, standIns := [], harness := (true, "33a78147275cd211bd40f4f4251c4ebd4f39b3050c4815eee7705a4618528cd6"), looks := false }, kinds := [], alts := [], laidByText := true, laidKinds := [.data, .data], laidTests := true, laidLooks := .later }
def KeyMeetsCardSaid : Prop := Claim7.holds Tryz.pinned (.plain (OpenSpec.ofChange keyMeetsSpec)) keyMeetsCard

/-- THE TIED CARD OF 'trommellaw12.KeyCounts'. -/
def keyCountsCard : Claim7 := { stood := { row := keyCountsRow, standIns := [], harness := (true, "33a78147275cd211bd40f4f4251c4ebd4f39b3050c4815eee7705a4618528cd6"), looks := false }, kinds := [], alts := [], laidByText := true, laidKinds := [.data, .data], laidTests := true, laidLooks := .later }
def KeyCountsCardSaid : Prop := Claim7.holds Tryz.pinned (.plain (OpenSpec.ofChange keyCountsSpec)) keyCountsCard

/-- THE SECOND FORM's CARD OF 'trommellaw12.KeyPlays'. -/
def keyPlaysUptoCard : Claim7 := { stood := { row := keyPlaysUptoRow, standIns := [], harness := (true, "33a78147275cd211bd40f4f4251c4ebd4f39b3050c4815eee7705a4618528cd6"), looks := false }, kinds := [], alts := [], laidByText := true, laidKinds := [.data, .data], laidTests := true, laidLooks := .later }
def KeyPlaysUptoCardSaid : Prop := Claim7.holds Tryz.pinned (.plain (OpenSpec.upto keyPlaysSpec)) keyPlaysUptoCard

/-- THE SECOND FORM's CARD OF 'trommellaw12.KeyMeets'. -/
def keyMeetsUptoCard : Claim7 := { stood := { row := keyMeetsUptoRow, standIns := [], harness := (true, "33a78147275cd211bd40f4f4251c4ebd4f39b3050c4815eee7705a4618528cd6"), looks := false }, kinds := [], alts := [], laidByText := true, laidKinds := [.data, .data], laidTests := true, laidLooks := .later }
def KeyMeetsUptoCardSaid : Prop := Claim7.holds Tryz.pinned (.plain (OpenSpec.upto keyMeetsSpec)) keyMeetsUptoCard

/-- THE SECOND FORM's CARD OF 'trommellaw12.KeyCounts'. -/
def keyCountsUptoCard : Claim7 := { stood := { row := keyCountsUptoRow, standIns := [], harness := (true, "33a78147275cd211bd40f4f4251c4ebd4f39b3050c4815eee7705a4618528cd6"), looks := false }, kinds := [], alts := [], laidByText := true, laidKinds := [.data, .data], laidTests := true, laidLooks := .later }
def KeyCountsUptoCardSaid : Prop := Claim7.holds Tryz.pinned (.plain (OpenSpec.upto keyCountsSpec)) keyCountsUptoCard
end Rows
end Go.Proofs.YtedakipjfpdajaaGreatDoor
