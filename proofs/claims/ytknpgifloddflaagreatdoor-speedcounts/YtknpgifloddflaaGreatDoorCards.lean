/-
  DERIVED. GIVEN WITH THE SEED: THE CARDS: each row of YtknpgifloddflaaGreatDoorRows.lean that lists a variable, with what it lists TIED to the program's text (the seventh form; the later family's looks); each row that meets fmt, with fmt's text TOLD by the authors' own Lean function (tested against real Go, not proved from fmt's source: count such statements apart). THE CARD IS WHAT COUNTS. Prove the row's statement (the work); the ties are given (YtknpgifloddflaaGreatDoorTie.lean); close each card by the builder's one call (the guide's Derived/Test/ToyasCard.lean, 'card_holds'). Laid BY PROGRAM, IN A SANDBOX (cutbox-door.mjs). By AI agents, Wed Nov 11 2026. No macro, syntax, notation, axiom, sorry.
-/
import Derived.Test.YtknpgifloddflaaGreatDoorRows
import GoSem.ClaimSeven
namespace Go.Proofs.YtknpgifloddflaaGreatDoor
namespace Rows

/-- THE TIED CARD OF 'surtitlelaw11.SpeedCounts'. -/
def speedCountsCard : Claim7 := { stood := { row := speedCountsRow, standIns := [], harness := (true, "cbac303e10355d1d140a5f0beb75fa7363136462a9d10740f391e71af21f4c1c"), looks := false }, kinds := [], alts := [], laidByText := true, laidKinds := [.data, .data], laidTests := true, laidLooks := .later }
def SpeedCountsCardSaid : Prop := Claim7.holds Tryz.pinned (.plain (OpenSpec.ofChange speedCountsSpec)) speedCountsCard

/-- THE SECOND FORM's CARD OF 'surtitlelaw11.SpeedCounts'. -/
def speedCountsUptoCard : Claim7 := { stood := { row := speedCountsUptoRow, standIns := [], harness := (true, "cbac303e10355d1d140a5f0beb75fa7363136462a9d10740f391e71af21f4c1c"), looks := false }, kinds := [], alts := [], laidByText := true, laidKinds := [.data, .data], laidTests := true, laidLooks := .later }
def SpeedCountsUptoCardSaid : Prop := Claim7.holds Tryz.pinned (.plain (OpenSpec.upto speedCountsSpec)) speedCountsUptoCard
end Rows
end Go.Proofs.YtknpgifloddflaaGreatDoor
