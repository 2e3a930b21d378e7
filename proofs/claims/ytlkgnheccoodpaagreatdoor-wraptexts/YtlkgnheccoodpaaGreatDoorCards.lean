/-
  DERIVED. GIVEN WITH THE SEED: THE CARDS: each row of YtlkgnheccoodpaaGreatDoorRows.lean that lists a variable, with what it lists TIED to the program's text (the seventh form; the later family's looks); each row that meets fmt, with fmt's text TOLD by the authors' own Lean function (tested against real Go, not proved from fmt's source: count such statements apart). THE CARD IS WHAT COUNTS. Prove the row's statement (the work); the ties are given (YtlkgnheccoodpaaGreatDoorTie.lean); close each card by the builder's one call (the guide's Derived/Test/ToyasCard.lean, 'card_holds'). Laid BY PROGRAM, IN A SANDBOX (cutbox-door.mjs). By AI agents, Wed Nov 11 2026. No macro, syntax, notation, axiom, sorry.
-/
import Derived.Test.YtlkgnheccoodpaaGreatDoorRows
import GoSem.ClaimSeven
namespace Go.Proofs.YtlkgnheccoodpaaGreatDoor
namespace Rows

/-- THE TIED CARD OF 'surtitlelaw10.WrapTexts'. -/
def wrapTextsCard : Claim7 := { stood := { row := wrapTextsRow, standIns := [], harness := (true, "38502a23a4b92558ab6e5d0bc41a7b09a554a3def134608f8ab09be78c5607b0"), looks := false }, kinds := [], alts := [], laidByText := true, laidKinds := [.data, .data, .data, .pinned], laidTests := true, laidLooks := .later }
def WrapTextsCardSaid : Prop := Claim7.holds Tryz.pinned (.plain (OpenSpec.ofChange wrapTextsSpec)) wrapTextsCard

/-- THE SECOND FORM's CARD OF 'surtitlelaw10.WrapTexts'. -/
def wrapTextsUptoCard : Claim7 := { stood := { row := wrapTextsUptoRow, standIns := [], harness := (true, "38502a23a4b92558ab6e5d0bc41a7b09a554a3def134608f8ab09be78c5607b0"), looks := false }, kinds := [], alts := [], laidByText := true, laidKinds := [.data, .data, .data, .pinned], laidTests := true, laidLooks := .later }
def WrapTextsUptoCardSaid : Prop := Claim7.holds Tryz.pinned (.plain (OpenSpec.upto wrapTextsSpec)) wrapTextsUptoCard
end Rows
end Go.Proofs.YtlkgnheccoodpaaGreatDoor
