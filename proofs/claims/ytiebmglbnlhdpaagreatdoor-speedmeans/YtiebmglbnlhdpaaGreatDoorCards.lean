/-
  DERIVED. GIVEN WITH THE SEED: THE CARDS: each row of YtiebmglbnlhdpaaGreatDoorRows.lean that lists a variable, with what it lists TIED to the program's text (the seventh form; the later family's looks); each row that meets fmt, with fmt's text TOLD by the authors' own Lean function (tested against real Go, not proved from fmt's source: count such statements apart). THE CARD IS WHAT COUNTS. Prove the row's statement (the work); the ties are given (YtiebmglbnlhdpaaGreatDoorTie.lean); close each card by the builder's one call (the guide's Derived/Test/ToyasCard.lean, 'card_holds'). Laid BY PROGRAM, IN A SANDBOX (cutbox-door.mjs). By AI agents, Wed Nov 11 2026. No macro, syntax, notation, axiom, sorry.
-/
import Derived.Test.YtiebmglbnlhdpaaGreatDoorRows
import GoSem.ClaimSeven
namespace Go.Proofs.YtiebmglbnlhdpaaGreatDoor
namespace Rows

/-- THE TIED CARD OF 'surtitlelaw11.SpeedMeans'. -/
def speedMeansCard : Claim7 := { stood := { row := speedMeansRow, standIns := [], harness := (true, "9ea83d3d813217dd0416c4e83015feff33443faa4461fc97b5e94fa4a2cb5845"), looks := true }, kinds := [], alts := [], laidByText := true, laidKinds := [.handle, .data, .data], laidTests := true, laidLooks := .later }
def SpeedMeansCardSaid : Prop := Claim7.holds Tryz.pinned (.plain (OpenSpec.ofChange speedMeansSpec)) speedMeansCard

/-- THE SECOND FORM's CARD OF 'surtitlelaw11.SpeedMeans'. -/
def speedMeansUptoCard : Claim7 := { stood := { row := speedMeansUptoRow, standIns := [], harness := (true, "9ea83d3d813217dd0416c4e83015feff33443faa4461fc97b5e94fa4a2cb5845"), looks := true }, kinds := [], alts := [], laidByText := true, laidKinds := [.handle, .data, .data], laidTests := true, laidLooks := .later }
def SpeedMeansUptoCardSaid : Prop := Claim7.holds Tryz.pinned (.plain (OpenSpec.upto speedMeansSpec)) speedMeansUptoCard
end Rows
end Go.Proofs.YtiebmglbnlhdpaaGreatDoor
