/-
  DERIVED. GIVEN WITH THE SEED: THE CARDS: each row of YtfkoebbpdnleeabDoorRows.lean that lists a variable, with what it lists TIED to the program's text (the seventh form; the later family's looks); each row that meets fmt, with fmt's text TOLD by the authors' own Lean function (tested against real Go, not proved from fmt's source: count such statements apart). THE CARD IS WHAT COUNTS. Prove the row's statement (the work); the ties are given (YtfkoebbpdnleeabDoorTie.lean); close each card by the builder's one call (the guide's Derived/Test/ToyasCard.lean, 'card_holds'). Laid BY PROGRAM, IN A SANDBOX (cutbox-door.mjs). By AI agents, Wed Nov 11 2026. No macro, syntax, notation, axiom, sorry.
-/
import Derived.Test.YtfkoebbpdnleeabDoorRows
import GoSem.ClaimSeven
namespace Go.Proofs.YtfkoebbpdnleeabDoor
namespace Rows

/-- THE TIED CARD OF 'surtitlelaw1.UtfMelts'. -/
def utfMeltsCard : Claim7 := { stood := { row := utfMeltsRow, standIns := [], harness := (true, "31ae91a9dcbc206876ebfbcad50a9b2d1de6287c607a8362f561f56d73bc1b13"), looks := false }, kinds := [], alts := [], laidByText := true, laidKinds := [.data, .pinned], laidTests := true, laidLooks := .later }
def UtfMeltsCardSaid : Prop := Claim7.holds Tryd.pinned (.plain (OpenSpec.ofChange utfMeltsSpec)) utfMeltsCard

/-- THE TIED CARD OF 'surtitlelaw1.UtfLines'. -/
def utfLinesCard : Claim7 := { stood := { row := utfLinesRow, standIns := [], harness := (true, "31ae91a9dcbc206876ebfbcad50a9b2d1de6287c607a8362f561f56d73bc1b13"), looks := false }, kinds := [], alts := [], laidByText := true, laidKinds := [.data, .pinned], laidTests := true, laidLooks := .later }
def UtfLinesCardSaid : Prop := Claim7.holds Tryd.pinned (.plain (OpenSpec.ofChange utfLinesSpec)) utfLinesCard

/-- THE TIED CARD OF 'surtitlelaw1.UtfPieces'. -/
def utfPiecesCard : Claim7 := { stood := { row := utfPiecesRow, standIns := [], harness := (true, "31ae91a9dcbc206876ebfbcad50a9b2d1de6287c607a8362f561f56d73bc1b13"), looks := false }, kinds := [], alts := [], laidByText := true, laidKinds := [.data, .pinned], laidTests := true, laidLooks := .later }
def UtfPiecesCardSaid : Prop := Claim7.holds Tryd.pinned (.plain (OpenSpec.ofChange utfPiecesSpec)) utfPiecesCard

/-- THE TIED CARD OF 'surtitlelaw1.UtfParts'. -/
def utfPartsCard : Claim7 := { stood := { row := utfPartsRow, standIns := [], harness := (true, "31ae91a9dcbc206876ebfbcad50a9b2d1de6287c607a8362f561f56d73bc1b13"), looks := false }, kinds := [], alts := [], laidByText := true, laidKinds := [.data, .pinned], laidTests := true, laidLooks := .later }
def UtfPartsCardSaid : Prop := Claim7.holds Tryd.pinned (.plain (OpenSpec.ofChange utfPartsSpec)) utfPartsCard

/-- THE TIED CARD OF 'surtitlelaw1.UtfBack'. -/
def utfBackCard : Claim7 := { stood := { row := utfBackRow, standIns := [], harness := (true, "31ae91a9dcbc206876ebfbcad50a9b2d1de6287c607a8362f561f56d73bc1b13"), looks := false }, kinds := [], alts := [], laidByText := true, laidKinds := [.data, .pinned], laidTests := true, laidLooks := .later }
def UtfBackCardSaid : Prop := Claim7.holds Tryd.pinned (.plain (OpenSpec.ofChange utfBackSpec)) utfBackCard

/-- THE TIED CARD OF 'surtitlelaw1.UtfCutOf'. -/
def utfCutOfCard : Claim7 := { stood := { row := utfCutOfRow, standIns := [], harness := (true, "31ae91a9dcbc206876ebfbcad50a9b2d1de6287c607a8362f561f56d73bc1b13"), looks := false }, kinds := [], alts := [], laidByText := true, laidKinds := [.data, .pinned], laidTests := true, laidLooks := .later }
def UtfCutOfCardSaid : Prop := Claim7.holds Tryd.pinned (.plain (OpenSpec.ofChange utfCutOfSpec)) utfCutOfCard

/-- THE SECOND FORM's CARD OF 'surtitlelaw1.UtfMelts'. -/
def utfMeltsUptoCard : Claim7 := { stood := { row := utfMeltsUptoRow, standIns := [], harness := (true, "31ae91a9dcbc206876ebfbcad50a9b2d1de6287c607a8362f561f56d73bc1b13"), looks := false }, kinds := [], alts := [], laidByText := true, laidKinds := [.data, .pinned], laidTests := true, laidLooks := .later }
def UtfMeltsUptoCardSaid : Prop := Claim7.holds Tryd.pinned (.plain (OpenSpec.upto utfMeltsSpec)) utfMeltsUptoCard

/-- THE SECOND FORM's CARD OF 'surtitlelaw1.UtfLines'. -/
def utfLinesUptoCard : Claim7 := { stood := { row := utfLinesUptoRow, standIns := [], harness := (true, "31ae91a9dcbc206876ebfbcad50a9b2d1de6287c607a8362f561f56d73bc1b13"), looks := false }, kinds := [], alts := [], laidByText := true, laidKinds := [.data, .pinned], laidTests := true, laidLooks := .later }
def UtfLinesUptoCardSaid : Prop := Claim7.holds Tryd.pinned (.plain (OpenSpec.upto utfLinesSpec)) utfLinesUptoCard

/-- THE SECOND FORM's CARD OF 'surtitlelaw1.UtfPieces'. -/
def utfPiecesUptoCard : Claim7 := { stood := { row := utfPiecesUptoRow, standIns := [], harness := (true, "31ae91a9dcbc206876ebfbcad50a9b2d1de6287c607a8362f561f56d73bc1b13"), looks := false }, kinds := [], alts := [], laidByText := true, laidKinds := [.data, .pinned], laidTests := true, laidLooks := .later }
def UtfPiecesUptoCardSaid : Prop := Claim7.holds Tryd.pinned (.plain (OpenSpec.upto utfPiecesSpec)) utfPiecesUptoCard

/-- THE SECOND FORM's CARD OF 'surtitlelaw1.UtfParts'. -/
def utfPartsUptoCard : Claim7 := { stood := { row := utfPartsUptoRow, standIns := [], harness := (true, "31ae91a9dcbc206876ebfbcad50a9b2d1de6287c607a8362f561f56d73bc1b13"), looks := false }, kinds := [], alts := [], laidByText := true, laidKinds := [.data, .pinned], laidTests := true, laidLooks := .later }
def UtfPartsUptoCardSaid : Prop := Claim7.holds Tryd.pinned (.plain (OpenSpec.upto utfPartsSpec)) utfPartsUptoCard

/-- THE SECOND FORM's CARD OF 'surtitlelaw1.UtfBack'. -/
def utfBackUptoCard : Claim7 := { stood := { row := utfBackUptoRow, standIns := [], harness := (true, "31ae91a9dcbc206876ebfbcad50a9b2d1de6287c607a8362f561f56d73bc1b13"), looks := false }, kinds := [], alts := [], laidByText := true, laidKinds := [.data, .pinned], laidTests := true, laidLooks := .later }
def UtfBackUptoCardSaid : Prop := Claim7.holds Tryd.pinned (.plain (OpenSpec.upto utfBackSpec)) utfBackUptoCard

/-- THE SECOND FORM's CARD OF 'surtitlelaw1.UtfCutOf'. -/
def utfCutOfUptoCard : Claim7 := { stood := { row := utfCutOfUptoRow, standIns := [], harness := (true, "31ae91a9dcbc206876ebfbcad50a9b2d1de6287c607a8362f561f56d73bc1b13"), looks := false }, kinds := [], alts := [], laidByText := true, laidKinds := [.data, .pinned], laidTests := true, laidLooks := .later }
def UtfCutOfUptoCardSaid : Prop := Claim7.holds Tryd.pinned (.plain (OpenSpec.upto utfCutOfSpec)) utfCutOfUptoCard
end Rows
end Go.Proofs.YtfkoebbpdnleeabDoor
