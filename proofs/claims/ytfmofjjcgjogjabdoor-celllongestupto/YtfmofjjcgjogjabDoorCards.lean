/-
  DERIVED. GIVEN WITH THE SEED: THE CARDS: each row of YtfmofjjcgjogjabDoorRows.lean that lists a variable, with what it lists TIED to the program's text (the seventh form; the later family's looks); each row that meets fmt, with fmt's text TOLD by the authors' own Lean function (tested against real Go, not proved from fmt's source: count such statements apart). THE CARD IS WHAT COUNTS. Prove the row's statement (the work); the ties are given (YtfmofjjcgjogjabDoorTie.lean); close each card by the builder's one call (the guide's Derived/Test/ToyasCard.lean, 'card_holds'). Laid BY PROGRAM, IN A SANDBOX (cutbox-door.mjs). By AI agents, Wed Nov 11 2026. No macro, syntax, notation, axiom, sorry.
-/
import Derived.Test.YtfmofjjcgjogjabDoorRows
import GoSem.ClaimSeven
namespace Go.Proofs.YtfmofjjcgjogjabDoor
namespace Rows

/-- THE TIED CARD OF 'surtitlelaw2.CellNames'. -/
def cellNamesCard : Claim7 := { stood := { row := cellNamesRow, standIns := [], harness := (true, "c4e70357e18a84daefbc5dc0e8c73a612ddd0c6cca885449701075ab01a69dae"), looks := false }, kinds := [], alts := [], laidByText := true, laidKinds := [.data, .data], laidTests := true, laidLooks := .later }
def CellNamesCardSaid : Prop := Claim7.holds Tryd.pinned (.plain (OpenSpec.ofChange cellNamesSpec)) cellNamesCard

/-- THE TIED CARD OF 'surtitlelaw2.CellCovers'. -/
def cellCoversCard : Claim7 := { stood := { row := cellCoversRow, standIns := [], harness := (true, "c4e70357e18a84daefbc5dc0e8c73a612ddd0c6cca885449701075ab01a69dae"), looks := false }, kinds := [], alts := [], laidByText := true, laidKinds := [.data, .data], laidTests := true, laidLooks := .later }
def CellCoversCardSaid : Prop := Claim7.holds Tryd.pinned (.plain (OpenSpec.ofChange cellCoversSpec)) cellCoversCard

/-- THE TIED CARD OF 'surtitlelaw2.CellFirst'. -/
def cellFirstCard : Claim7 := { stood := { row := cellFirstRow, standIns := [], harness := (true, "c4e70357e18a84daefbc5dc0e8c73a612ddd0c6cca885449701075ab01a69dae"), looks := false }, kinds := [], alts := [], laidByText := true, laidKinds := [.data, .data], laidTests := true, laidLooks := .later }
def CellFirstCardSaid : Prop := Claim7.holds Tryd.pinned (.plain (OpenSpec.ofChange cellFirstSpec)) cellFirstCard

/-- THE TIED CARD OF 'surtitlelaw2.CellParts'. -/
def cellPartsCard : Claim7 := { stood := { row := cellPartsRow, standIns := [], harness := (true, "c4e70357e18a84daefbc5dc0e8c73a612ddd0c6cca885449701075ab01a69dae"), looks := false }, kinds := [], alts := [], laidByText := true, laidKinds := [.data, .data], laidTests := true, laidLooks := .later }
def CellPartsCardSaid : Prop := Claim7.holds Tryd.pinned (.plain (OpenSpec.ofChange cellPartsSpec)) cellPartsCard

/-- THE TIED CARD OF 'surtitlelaw2.CellLongest'. -/
def cellLongestCard : Claim7 := { stood := { row := cellLongestRow, standIns := [], harness := (true, "c4e70357e18a84daefbc5dc0e8c73a612ddd0c6cca885449701075ab01a69dae"), looks := false }, kinds := [], alts := [], laidByText := true, laidKinds := [.data, .data], laidTests := true, laidLooks := .later }
def CellLongestCardSaid : Prop := Claim7.holds Tryd.pinned (.plain (OpenSpec.ofChange cellLongestSpec)) cellLongestCard

/-- THE TIED CARD OF 'surtitlelaw2.CellSteps'. -/
def cellStepsCard : Claim7 := { stood := { row := cellStepsRow, standIns := [], harness := (true, "c4e70357e18a84daefbc5dc0e8c73a612ddd0c6cca885449701075ab01a69dae"), looks := false }, kinds := [], alts := [], laidByText := true, laidKinds := [.data, .data], laidTests := true, laidLooks := .later }
def CellStepsCardSaid : Prop := Claim7.holds Tryd.pinned (.plain (OpenSpec.ofChange cellStepsSpec)) cellStepsCard

/-- THE SECOND FORM's CARD OF 'surtitlelaw2.CellNames'. -/
def cellNamesUptoCard : Claim7 := { stood := { row := cellNamesUptoRow, standIns := [], harness := (true, "c4e70357e18a84daefbc5dc0e8c73a612ddd0c6cca885449701075ab01a69dae"), looks := false }, kinds := [], alts := [], laidByText := true, laidKinds := [.data, .data], laidTests := true, laidLooks := .later }
def CellNamesUptoCardSaid : Prop := Claim7.holds Tryd.pinned (.plain (OpenSpec.upto cellNamesSpec)) cellNamesUptoCard

/-- THE SECOND FORM's CARD OF 'surtitlelaw2.CellCovers'. -/
def cellCoversUptoCard : Claim7 := { stood := { row := cellCoversUptoRow, standIns := [], harness := (true, "c4e70357e18a84daefbc5dc0e8c73a612ddd0c6cca885449701075ab01a69dae"), looks := false }, kinds := [], alts := [], laidByText := true, laidKinds := [.data, .data], laidTests := true, laidLooks := .later }
def CellCoversUptoCardSaid : Prop := Claim7.holds Tryd.pinned (.plain (OpenSpec.upto cellCoversSpec)) cellCoversUptoCard

/-- THE SECOND FORM's CARD OF 'surtitlelaw2.CellFirst'. -/
def cellFirstUptoCard : Claim7 := { stood := { row := cellFirstUptoRow, standIns := [], harness := (true, "c4e70357e18a84daefbc5dc0e8c73a612ddd0c6cca885449701075ab01a69dae"), looks := false }, kinds := [], alts := [], laidByText := true, laidKinds := [.data, .data], laidTests := true, laidLooks := .later }
def CellFirstUptoCardSaid : Prop := Claim7.holds Tryd.pinned (.plain (OpenSpec.upto cellFirstSpec)) cellFirstUptoCard

/-- THE SECOND FORM's CARD OF 'surtitlelaw2.CellParts'. -/
def cellPartsUptoCard : Claim7 := { stood := { row := cellPartsUptoRow, standIns := [], harness := (true, "c4e70357e18a84daefbc5dc0e8c73a612ddd0c6cca885449701075ab01a69dae"), looks := false }, kinds := [], alts := [], laidByText := true, laidKinds := [.data, .data], laidTests := true, laidLooks := .later }
def CellPartsUptoCardSaid : Prop := Claim7.holds Tryd.pinned (.plain (OpenSpec.upto cellPartsSpec)) cellPartsUptoCard

/-- THE SECOND FORM's CARD OF 'surtitlelaw2.CellLongest'. -/
def cellLongestUptoCard : Claim7 := { stood := { row := cellLongestUptoRow, standIns := [], harness := (true, "c4e70357e18a84daefbc5dc0e8c73a612ddd0c6cca885449701075ab01a69dae"), looks := false }, kinds := [], alts := [], laidByText := true, laidKinds := [.data, .data], laidTests := true, laidLooks := .later }
def CellLongestUptoCardSaid : Prop := Claim7.holds Tryd.pinned (.plain (OpenSpec.upto cellLongestSpec)) cellLongestUptoCard

/-- THE SECOND FORM's CARD OF 'surtitlelaw2.CellSteps'. -/
def cellStepsUptoCard : Claim7 := { stood := { row := cellStepsUptoRow, standIns := [], harness := (true, "c4e70357e18a84daefbc5dc0e8c73a612ddd0c6cca885449701075ab01a69dae"), looks := false }, kinds := [], alts := [], laidByText := true, laidKinds := [.data, .data], laidTests := true, laidLooks := .later }
def CellStepsUptoCardSaid : Prop := Claim7.holds Tryd.pinned (.plain (OpenSpec.upto cellStepsSpec)) cellStepsUptoCard
end Rows
end Go.Proofs.YtfmofjjcgjogjabDoor
