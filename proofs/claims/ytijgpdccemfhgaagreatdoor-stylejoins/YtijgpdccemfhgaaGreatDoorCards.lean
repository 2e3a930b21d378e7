/-
  DERIVED. GIVEN WITH THE SEED: THE CARDS: each row of YtijgpdccemfhgaaGreatDoorRows.lean that lists a variable, with what it lists TIED to the program's text (the seventh form; the later family's looks); each row that meets fmt, with fmt's text TOLD by the authors' own Lean function (tested against real Go, not proved from fmt's source: count such statements apart). THE CARD IS WHAT COUNTS. Prove the row's statement (the work); the ties are given (YtijgpdccemfhgaaGreatDoorTie.lean); close each card by the builder's one call (the guide's Derived/Test/ToyasCard.lean, 'card_holds'). Laid BY PROGRAM, IN A SANDBOX (cutbox-door.mjs). By AI agents, Wed Nov 11 2026. No macro, syntax, notation, axiom, sorry.
-/
import Derived.Test.YtijgpdccemfhgaaGreatDoorRows
import GoSem.ClaimSeven
namespace Go.Proofs.YtijgpdccemfhgaaGreatDoor
namespace Rows

/-- THE TIED CARD OF 'surtitlelaw7.StyleJoins'. -/
def styleJoinsCard : Claim7 := { stood := { row := styleJoinsRow, standIns := [], harness := (true, "63e1211782e67fd59d33934716092b54513bc6d2a2112c516bef58baba02b162"), looks := false }, kinds := [], alts := [], laidByText := true, laidKinds := [.data, .pinned], laidTests := true, laidLooks := .later }
def StyleJoinsCardSaid : Prop := Claim7.holds Tryz.pinned (.plain (OpenSpec.ofChange styleJoinsSpec)) styleJoinsCard

/-- THE TIED CARD OF 'surtitlelaw7.StyleSplices'. -/
def styleSplicesCard : Claim7 := { stood := { row := styleSplicesRow, standIns := [], harness := (true, "63e1211782e67fd59d33934716092b54513bc6d2a2112c516bef58baba02b162"), looks := false }, kinds := [], alts := [], laidByText := true, laidKinds := [.data, .pinned], laidTests := true, laidLooks := .later }
def StyleSplicesCardSaid : Prop := Claim7.holds Tryz.pinned (.plain (OpenSpec.ofChange styleSplicesSpec)) styleSplicesCard

/-- THE SECOND FORM's CARD OF 'surtitlelaw7.StyleJoins'. -/
def styleJoinsUptoCard : Claim7 := { stood := { row := styleJoinsUptoRow, standIns := [], harness := (true, "63e1211782e67fd59d33934716092b54513bc6d2a2112c516bef58baba02b162"), looks := false }, kinds := [], alts := [], laidByText := true, laidKinds := [.data, .pinned], laidTests := true, laidLooks := .later }
def StyleJoinsUptoCardSaid : Prop := Claim7.holds Tryz.pinned (.plain (OpenSpec.upto styleJoinsSpec)) styleJoinsUptoCard

/-- THE SECOND FORM's CARD OF 'surtitlelaw7.StyleSplices'. -/
def styleSplicesUptoCard : Claim7 := { stood := { row := styleSplicesUptoRow, standIns := [], harness := (true, "63e1211782e67fd59d33934716092b54513bc6d2a2112c516bef58baba02b162"), looks := false }, kinds := [], alts := [], laidByText := true, laidKinds := [.data, .pinned], laidTests := true, laidLooks := .later }
def StyleSplicesUptoCardSaid : Prop := Claim7.holds Tryz.pinned (.plain (OpenSpec.upto styleSplicesSpec)) styleSplicesUptoCard
end Rows
end Go.Proofs.YtijgpdccemfhgaaGreatDoor
