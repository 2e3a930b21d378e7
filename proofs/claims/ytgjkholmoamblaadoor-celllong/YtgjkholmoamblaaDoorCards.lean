/-
  DERIVED. GIVEN WITH THE SEED: THE CARDS: each row of YtgjkholmoamblaaDoorRows.lean that lists a variable, with what it lists TIED to the program's text (the seventh form; the later family's looks); each row that meets fmt, with fmt's text TOLD by the authors' own Lean function (tested against real Go, not proved from fmt's source: count such statements apart). THE CARD IS WHAT COUNTS. Prove the row's statement (the work); the ties are given (YtgjkholmoamblaaDoorTie.lean); close each card by the builder's one call (the guide's Derived/Test/ToyasCard.lean, 'card_holds'). Laid BY PROGRAM, IN A SANDBOX (cutbox-door.mjs). By AI agents, Wed Nov 11 2026. No macro, syntax, notation, axiom, sorry.
-/
import Derived.Test.YtgjkholmoamblaaDoorRows
import GoSem.ClaimSeven
namespace Go.Proofs.YtgjkholmoamblaaDoor
namespace Rows

/-- THE TIED CARD OF 'surtitlelaw2.CellPads'. -/
def cellPadsCard : Claim7 := { stood := { row := cellPadsRow, standIns := [], harness := (true, "ddc2831a399986071278556a73f86056c156e3cfe1d53d189fe6e65320b3dcd4"), looks := false }, kinds := [], alts := [], laidByText := true, laidKinds := [.data, .data], laidTests := true, laidLooks := .later }
def CellPadsCardSaid : Prop := Claim7.holds Tryd.pinned (.plain (OpenSpec.ofChange cellPadsSpec)) cellPadsCard

/-- THE TIED CARD OF 'surtitlelaw2.CellFirst'. -/
def cellFirstCard : Claim7 := { stood := { row := cellFirstRow, standIns := [], harness := (true, "ddc2831a399986071278556a73f86056c156e3cfe1d53d189fe6e65320b3dcd4"), looks := false }, kinds := [], alts := [], laidByText := true, laidKinds := [.data, .data], laidTests := true, laidLooks := .later }
def CellFirstCardSaid : Prop := Claim7.holds Tryd.pinned (.plain (OpenSpec.ofChange cellFirstSpec)) cellFirstCard

/-- THE TIED CARD OF 'surtitlelaw2.CellParts'. -/
def cellPartsCard : Claim7 := { stood := { row := cellPartsRow, standIns := [], harness := (true, "ddc2831a399986071278556a73f86056c156e3cfe1d53d189fe6e65320b3dcd4"), looks := false }, kinds := [], alts := [], laidByText := true, laidKinds := [.data, .data], laidTests := true, laidLooks := .later }
def CellPartsCardSaid : Prop := Claim7.holds Tryd.pinned (.plain (OpenSpec.ofChange cellPartsSpec)) cellPartsCard

/-- THE TIED CARD OF 'surtitlelaw2.CellFilled'. -/
def cellFilledCard : Claim7 := { stood := { row := cellFilledRow, standIns := [], harness := (true, "ddc2831a399986071278556a73f86056c156e3cfe1d53d189fe6e65320b3dcd4"), looks := false }, kinds := [], alts := [], laidByText := true, laidKinds := [.data, .data], laidTests := true, laidLooks := .later }
def CellFilledCardSaid : Prop := Claim7.holds Tryd.pinned (.plain (OpenSpec.ofChange cellFilledSpec)) cellFilledCard

/-- THE TIED CARD OF 'surtitlelaw2.CellBehind'. -/
def cellBehindCard : Claim7 := { stood := { row := cellBehindRow, standIns := [], harness := (true, "ddc2831a399986071278556a73f86056c156e3cfe1d53d189fe6e65320b3dcd4"), looks := false }, kinds := [], alts := [], laidByText := true, laidKinds := [.data, .data], laidTests := true, laidLooks := .later }
def CellBehindCardSaid : Prop := Claim7.holds Tryd.pinned (.plain (OpenSpec.ofChange cellBehindSpec)) cellBehindCard

/-- THE TIED CARD OF 'surtitlelaw2.CellLong'. -/
def cellLongCard : Claim7 := { stood := { row := cellLongRow, standIns := [], harness := (true, "ddc2831a399986071278556a73f86056c156e3cfe1d53d189fe6e65320b3dcd4"), looks := false }, kinds := [], alts := [], laidByText := true, laidKinds := [.data, .data], laidTests := true, laidLooks := .later }
def CellLongCardSaid : Prop := Claim7.holds Tryd.pinned (.plain (OpenSpec.ofChange cellLongSpec)) cellLongCard

/-- THE TIED CARD OF 'surtitlelaw2.CellSeqs'. -/
def cellSeqsCard : Claim7 := { stood := { row := cellSeqsRow, standIns := [], harness := (true, "ddc2831a399986071278556a73f86056c156e3cfe1d53d189fe6e65320b3dcd4"), looks := false }, kinds := [], alts := [], laidByText := true, laidKinds := [.data, .data], laidTests := true, laidLooks := .later }
def CellSeqsCardSaid : Prop := Claim7.holds Tryd.pinned (.plain (OpenSpec.ofChange cellSeqsSpec)) cellSeqsCard

/-- THE SECOND FORM's CARD OF 'surtitlelaw2.CellPads'. -/
def cellPadsUptoCard : Claim7 := { stood := { row := cellPadsUptoRow, standIns := [], harness := (true, "ddc2831a399986071278556a73f86056c156e3cfe1d53d189fe6e65320b3dcd4"), looks := false }, kinds := [], alts := [], laidByText := true, laidKinds := [.data, .data], laidTests := true, laidLooks := .later }
def CellPadsUptoCardSaid : Prop := Claim7.holds Tryd.pinned (.plain (OpenSpec.upto cellPadsSpec)) cellPadsUptoCard

/-- THE SECOND FORM's CARD OF 'surtitlelaw2.CellFirst'. -/
def cellFirstUptoCard : Claim7 := { stood := { row := cellFirstUptoRow, standIns := [], harness := (true, "ddc2831a399986071278556a73f86056c156e3cfe1d53d189fe6e65320b3dcd4"), looks := false }, kinds := [], alts := [], laidByText := true, laidKinds := [.data, .data], laidTests := true, laidLooks := .later }
def CellFirstUptoCardSaid : Prop := Claim7.holds Tryd.pinned (.plain (OpenSpec.upto cellFirstSpec)) cellFirstUptoCard

/-- THE SECOND FORM's CARD OF 'surtitlelaw2.CellParts'. -/
def cellPartsUptoCard : Claim7 := { stood := { row := cellPartsUptoRow, standIns := [], harness := (true, "ddc2831a399986071278556a73f86056c156e3cfe1d53d189fe6e65320b3dcd4"), looks := false }, kinds := [], alts := [], laidByText := true, laidKinds := [.data, .data], laidTests := true, laidLooks := .later }
def CellPartsUptoCardSaid : Prop := Claim7.holds Tryd.pinned (.plain (OpenSpec.upto cellPartsSpec)) cellPartsUptoCard

/-- THE SECOND FORM's CARD OF 'surtitlelaw2.CellFilled'. -/
def cellFilledUptoCard : Claim7 := { stood := { row := cellFilledUptoRow, standIns := [], harness := (true, "ddc2831a399986071278556a73f86056c156e3cfe1d53d189fe6e65320b3dcd4"), looks := false }, kinds := [], alts := [], laidByText := true, laidKinds := [.data, .data], laidTests := true, laidLooks := .later }
def CellFilledUptoCardSaid : Prop := Claim7.holds Tryd.pinned (.plain (OpenSpec.upto cellFilledSpec)) cellFilledUptoCard

/-- THE SECOND FORM's CARD OF 'surtitlelaw2.CellBehind'. -/
def cellBehindUptoCard : Claim7 := { stood := { row := cellBehindUptoRow, standIns := [], harness := (true, "ddc2831a399986071278556a73f86056c156e3cfe1d53d189fe6e65320b3dcd4"), looks := false }, kinds := [], alts := [], laidByText := true, laidKinds := [.data, .data], laidTests := true, laidLooks := .later }
def CellBehindUptoCardSaid : Prop := Claim7.holds Tryd.pinned (.plain (OpenSpec.upto cellBehindSpec)) cellBehindUptoCard

/-- THE SECOND FORM's CARD OF 'surtitlelaw2.CellLong'. -/
def cellLongUptoCard : Claim7 := { stood := { row := cellLongUptoRow, standIns := [], harness := (true, "ddc2831a399986071278556a73f86056c156e3cfe1d53d189fe6e65320b3dcd4"), looks := false }, kinds := [], alts := [], laidByText := true, laidKinds := [.data, .data], laidTests := true, laidLooks := .later }
def CellLongUptoCardSaid : Prop := Claim7.holds Tryd.pinned (.plain (OpenSpec.upto cellLongSpec)) cellLongUptoCard

/-- THE SECOND FORM's CARD OF 'surtitlelaw2.CellSeqs'. -/
def cellSeqsUptoCard : Claim7 := { stood := { row := cellSeqsUptoRow, standIns := [], harness := (true, "ddc2831a399986071278556a73f86056c156e3cfe1d53d189fe6e65320b3dcd4"), looks := false }, kinds := [], alts := [], laidByText := true, laidKinds := [.data, .data], laidTests := true, laidLooks := .later }
def CellSeqsUptoCardSaid : Prop := Claim7.holds Tryd.pinned (.plain (OpenSpec.upto cellSeqsSpec)) cellSeqsUptoCard
end Rows
end Go.Proofs.YtgjkholmoamblaaDoor
