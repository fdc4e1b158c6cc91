/-
  DERIVED. GIVEN WITH THE SEED: THE CARDS: each row of YtojeihchkdkkgaaDoorRows.lean that lists a variable, with what it lists TIED to the program's text (the seventh form; the later family's looks); each row that meets fmt, with fmt's text TOLD by the authors' own Lean function (tested against real Go, not proved from fmt's source: count such statements apart). THE CARD IS WHAT COUNTS. Prove the row's statement (the work); the ties are given (YtojeihchkdkkgaaDoorTie.lean); close each card by the builder's one call (the guide's Derived/Test/ToyasCard.lean, 'card_holds'). Laid BY PROGRAM, IN A SANDBOX (cutbox-door.mjs). By AI agents, Wed Nov 11 2026. No macro, syntax, notation, axiom, sorry.
-/
import Derived.Test.YtojeihchkdkkgaaDoorRows
import GoSem.ClaimSeven
namespace Go.Proofs.YtojeihchkdkkgaaDoor
namespace Rows

/-- THE TIED CARD OF 'trommellaw01.ValuePlays'. -/
def valuePlaysCard : Claim7 := { stood := { row := valuePlaysRow, standIns := [], harness := (true, "0d0cc7cb8287bf1dd56db1cc21cdf9ea73d08d7fea1b470248f9d5820af85a5f"), looks := true }, kinds := [], alts := [], laidByText := true, laidKinds := [.data, .data, .data, .sentinel, .sentinel], laidTests := true, laidLooks := .later }
def ValuePlaysCardSaid : Prop := Claim7.holds Tryd.pinned (.plain (OpenSpec.ofChange valuePlaysSpec)) valuePlaysCard

/-- THE TIED CARD OF 'trommellaw01.ValueQuotes'. -/
def valueQuotesCard : Claim7 := { stood := { row := valueQuotesRow, standIns := [], harness := (true, "0d0cc7cb8287bf1dd56db1cc21cdf9ea73d08d7fea1b470248f9d5820af85a5f"), looks := true }, kinds := [], alts := [], laidByText := true, laidKinds := [.data, .data, .data, .sentinel, .sentinel], laidTests := true, laidLooks := .later }
def ValueQuotesCardSaid : Prop := Claim7.holds Tryd.pinned (.plain (OpenSpec.ofChange valueQuotesSpec)) valueQuotesCard

/-- THE TIED CARD OF 'trommellaw01.ValueReads'. -/
def valueReadsCard : Claim7 := { stood := { row := valueReadsRow, standIns := [], harness := (true, "0d0cc7cb8287bf1dd56db1cc21cdf9ea73d08d7fea1b470248f9d5820af85a5f"), looks := true }, kinds := [], alts := [], laidByText := true, laidKinds := [.data, .data, .data, .sentinel, .sentinel], laidTests := true, laidLooks := .later }
def ValueReadsCardSaid : Prop := Claim7.holds Tryd.pinned (.plain (OpenSpec.ofChange valueReadsSpec)) valueReadsCard

/-- THE TIED CARD OF 'trommellaw01.ValueBack'. -/
def valueBackCard : Claim7 := { stood := { row := valueBackRow, standIns := [], harness := (true, "0d0cc7cb8287bf1dd56db1cc21cdf9ea73d08d7fea1b470248f9d5820af85a5f"), looks := true }, kinds := [], alts := [], laidByText := true, laidKinds := [.data, .data, .data, .sentinel, .sentinel], laidTests := true, laidLooks := .later }
def ValueBackCardSaid : Prop := Claim7.holds Tryd.pinned (.plain (OpenSpec.ofChange valueBackSpec)) valueBackCard

/-- THE TIED CARD OF 'trommellaw01.ValueOrder'. -/
def valueOrderCard : Claim7 := { stood := { row := valueOrderRow, standIns := [], harness := (true, "0d0cc7cb8287bf1dd56db1cc21cdf9ea73d08d7fea1b470248f9d5820af85a5f"), looks := true }, kinds := [], alts := [], laidByText := true, laidKinds := [.data, .data, .data, .sentinel, .sentinel], laidTests := true, laidLooks := .later }
def ValueOrderCardSaid : Prop := Claim7.holds Tryd.pinned (.plain (OpenSpec.ofChange valueOrderSpec)) valueOrderCard

/-- THE TIED CARD OF 'trommellaw01.ValueLeast'. -/
def valueLeastCard : Claim7 := { stood := { row := valueLeastRow, standIns := [], harness := (true, "0d0cc7cb8287bf1dd56db1cc21cdf9ea73d08d7fea1b470248f9d5820af85a5f"), looks := true }, kinds := [], alts := [], laidByText := true, laidKinds := [.data, .data, .data, .sentinel, .sentinel], laidTests := true, laidLooks := .later }
def ValueLeastCardSaid : Prop := Claim7.holds Tryd.pinned (.plain (OpenSpec.ofChange valueLeastSpec)) valueLeastCard

/-- THE SECOND FORM's CARD OF 'trommellaw01.ValuePlays'. -/
def valuePlaysUptoCard : Claim7 := { stood := { row := valuePlaysUptoRow, standIns := [], harness := (true, "0d0cc7cb8287bf1dd56db1cc21cdf9ea73d08d7fea1b470248f9d5820af85a5f"), looks := true }, kinds := [], alts := [], laidByText := true, laidKinds := [.data, .data, .data, .sentinel, .sentinel], laidTests := true, laidLooks := .later }
def ValuePlaysUptoCardSaid : Prop := Claim7.holds Tryd.pinned (.plain (OpenSpec.upto valuePlaysSpec)) valuePlaysUptoCard

/-- THE SECOND FORM's CARD OF 'trommellaw01.ValueQuotes'. -/
def valueQuotesUptoCard : Claim7 := { stood := { row := valueQuotesUptoRow, standIns := [], harness := (true, "0d0cc7cb8287bf1dd56db1cc21cdf9ea73d08d7fea1b470248f9d5820af85a5f"), looks := true }, kinds := [], alts := [], laidByText := true, laidKinds := [.data, .data, .data, .sentinel, .sentinel], laidTests := true, laidLooks := .later }
def ValueQuotesUptoCardSaid : Prop := Claim7.holds Tryd.pinned (.plain (OpenSpec.upto valueQuotesSpec)) valueQuotesUptoCard

/-- THE SECOND FORM's CARD OF 'trommellaw01.ValueReads'. -/
def valueReadsUptoCard : Claim7 := { stood := { row := valueReadsUptoRow, standIns := [], harness := (true, "0d0cc7cb8287bf1dd56db1cc21cdf9ea73d08d7fea1b470248f9d5820af85a5f"), looks := true }, kinds := [], alts := [], laidByText := true, laidKinds := [.data, .data, .data, .sentinel, .sentinel], laidTests := true, laidLooks := .later }
def ValueReadsUptoCardSaid : Prop := Claim7.holds Tryd.pinned (.plain (OpenSpec.upto valueReadsSpec)) valueReadsUptoCard

/-- THE SECOND FORM's CARD OF 'trommellaw01.ValueBack'. -/
def valueBackUptoCard : Claim7 := { stood := { row := valueBackUptoRow, standIns := [], harness := (true, "0d0cc7cb8287bf1dd56db1cc21cdf9ea73d08d7fea1b470248f9d5820af85a5f"), looks := true }, kinds := [], alts := [], laidByText := true, laidKinds := [.data, .data, .data, .sentinel, .sentinel], laidTests := true, laidLooks := .later }
def ValueBackUptoCardSaid : Prop := Claim7.holds Tryd.pinned (.plain (OpenSpec.upto valueBackSpec)) valueBackUptoCard

/-- THE SECOND FORM's CARD OF 'trommellaw01.ValueOrder'. -/
def valueOrderUptoCard : Claim7 := { stood := { row := valueOrderUptoRow, standIns := [], harness := (true, "0d0cc7cb8287bf1dd56db1cc21cdf9ea73d08d7fea1b470248f9d5820af85a5f"), looks := true }, kinds := [], alts := [], laidByText := true, laidKinds := [.data, .data, .data, .sentinel, .sentinel], laidTests := true, laidLooks := .later }
def ValueOrderUptoCardSaid : Prop := Claim7.holds Tryd.pinned (.plain (OpenSpec.upto valueOrderSpec)) valueOrderUptoCard

/-- THE SECOND FORM's CARD OF 'trommellaw01.ValueLeast'. -/
def valueLeastUptoCard : Claim7 := { stood := { row := valueLeastUptoRow, standIns := [], harness := (true, "0d0cc7cb8287bf1dd56db1cc21cdf9ea73d08d7fea1b470248f9d5820af85a5f"), looks := true }, kinds := [], alts := [], laidByText := true, laidKinds := [.data, .data, .data, .sentinel, .sentinel], laidTests := true, laidLooks := .later }
def ValueLeastUptoCardSaid : Prop := Claim7.holds Tryd.pinned (.plain (OpenSpec.upto valueLeastSpec)) valueLeastUptoCard
end Rows
end Go.Proofs.YtojeihchkdkkgaaDoor
