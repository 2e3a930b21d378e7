/-
  DERIVED. GIVEN WITH THE SEED: THE CARDS: each row of YtifkoffjmdpgkaaDoorRows.lean that lists a variable, with what it lists TIED to the program's text (the seventh form; the later family's looks); each row that meets fmt, with fmt's text TOLD by the authors' own Lean function (tested against real Go, not proved from fmt's source: count such statements apart). THE CARD IS WHAT COUNTS. Prove the row's statement (the work); the ties are given (YtifkoffjmdpgkaaDoorTie.lean); close each card by the builder's one call (the guide's Derived/Test/ToyasCard.lean, 'card_holds'). Laid BY PROGRAM, IN A SANDBOX (cutbox-door.mjs). By AI agents, Wed Nov 11 2026. No macro, syntax, notation, axiom, sorry.
-/
import Derived.Test.YtifkoffjmdpgkaaDoorRows
import GoSem.ClaimSeven
namespace Go.Proofs.YtifkoffjmdpgkaaDoor
namespace Rows

/-- THE TIED CARD OF 'surtitlelaw11.SpeedNames'. -/
def speedNamesCard : Claim7 := { stood := { row := speedNamesRow, standIns := [], harness := (true, "8af6477f61015373c51fc0ff7645b502be7ff098058d23903d2fc5d7f1bee417"), looks := false }, kinds := [], alts := [], laidByText := true, laidKinds := [.data, .data], laidTests := true, laidLooks := .later }
def SpeedNamesCardSaid : Prop := Claim7.holds Tryd.pinned (.plain (OpenSpec.ofChange speedNamesSpec)) speedNamesCard

/-- THE TIED CARD OF 'surtitlelaw11.SpeedParts'. -/
def speedPartsCard : Claim7 := { stood := { row := speedPartsRow, standIns := [], harness := (true, "8af6477f61015373c51fc0ff7645b502be7ff098058d23903d2fc5d7f1bee417"), looks := false }, kinds := [], alts := [], laidByText := true, laidKinds := [.data, .data], laidTests := true, laidLooks := .later }
def SpeedPartsCardSaid : Prop := Claim7.holds Tryd.pinned (.plain (OpenSpec.ofChange speedPartsSpec)) speedPartsCard

/-- THE SECOND FORM's CARD OF 'surtitlelaw11.SpeedNames'. -/
def speedNamesUptoCard : Claim7 := { stood := { row := speedNamesUptoRow, standIns := [], harness := (true, "8af6477f61015373c51fc0ff7645b502be7ff098058d23903d2fc5d7f1bee417"), looks := false }, kinds := [], alts := [], laidByText := true, laidKinds := [.data, .data], laidTests := true, laidLooks := .later }
def SpeedNamesUptoCardSaid : Prop := Claim7.holds Tryd.pinned (.plain (OpenSpec.upto speedNamesSpec)) speedNamesUptoCard

/-- THE SECOND FORM's CARD OF 'surtitlelaw11.SpeedParts'. -/
def speedPartsUptoCard : Claim7 := { stood := { row := speedPartsUptoRow, standIns := [], harness := (true, "8af6477f61015373c51fc0ff7645b502be7ff098058d23903d2fc5d7f1bee417"), looks := false }, kinds := [], alts := [], laidByText := true, laidKinds := [.data, .data], laidTests := true, laidLooks := .later }
def SpeedPartsUptoCardSaid : Prop := Claim7.holds Tryd.pinned (.plain (OpenSpec.upto speedPartsSpec)) speedPartsUptoCard
end Rows
end Go.Proofs.YtifkoffjmdpgkaaDoor
