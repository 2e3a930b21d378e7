/-
  DERIVED. GIVEN WITH THE SEED: THE CARDS: each row of YtgkkmkalpcpkaaaGreatDoorRows.lean that lists a variable, with what it lists TIED to the program's text (the seventh form; the later family's looks); each row that meets fmt, with fmt's text TOLD by the authors' own Lean function (tested against real Go, not proved from fmt's source: count such statements apart). THE CARD IS WHAT COUNTS. Prove the row's statement (the work); the ties are given (YtgkkmkalpcpkaaaGreatDoorTie.lean); close each card by the builder's one call (the guide's Derived/Test/ToyasCard.lean, 'card_holds'). Laid BY PROGRAM, IN A SANDBOX (cutbox-door.mjs). By AI agents, Wed Nov 11 2026. No macro, syntax, notation, axiom, sorry.
-/
import Derived.Test.YtgkkmkalpcpkaaaGreatDoorRows
import GoSem.ClaimSeven
namespace Go.Proofs.YtgkkmkalpcpkaaaGreatDoor
namespace Rows

/-- THE TIED CARD OF 'surtitlelaw7.StyleCuts'. -/
def styleCutsCard : Claim7 := { stood := { row := styleCutsRow, standIns := [], harness := (true, "8e23246c388b39407e61b801beb4f7c033821946ca6255fa01888f269de731a8"), looks := false }, kinds := [], alts := [], laidByText := true, laidKinds := [.data, .pinned], laidTests := true, laidLooks := .later }
def StyleCutsCardSaid : Prop := Claim7.holds Tryz.pinned (.plain (OpenSpec.ofChange styleCutsSpec)) styleCutsCard

/-- THE SECOND FORM's CARD OF 'surtitlelaw7.StyleCuts'. -/
def styleCutsUptoCard : Claim7 := { stood := { row := styleCutsUptoRow, standIns := [], harness := (true, "8e23246c388b39407e61b801beb4f7c033821946ca6255fa01888f269de731a8"), looks := false }, kinds := [], alts := [], laidByText := true, laidKinds := [.data, .pinned], laidTests := true, laidLooks := .later }
def StyleCutsUptoCardSaid : Prop := Claim7.holds Tryz.pinned (.plain (OpenSpec.upto styleCutsSpec)) styleCutsUptoCard
end Rows
end Go.Proofs.YtgkkmkalpcpkaaaGreatDoor
