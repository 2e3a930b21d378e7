/-
  DERIVED. GIVEN WITH THE SEED: THE CARDS: each row of YthhhglfcacoejabDoorRows.lean that lists a variable, with what it lists TIED to the program's text (the seventh form; the later family's looks); each row that meets fmt, with fmt's text TOLD by the authors' own Lean function (tested against real Go, not proved from fmt's source: count such statements apart). THE CARD IS WHAT COUNTS. Prove the row's statement (the work); the ties are given (YthhhglfcacoejabDoorTie.lean); close each card by the builder's one call (the guide's Derived/Test/ToyasCard.lean, 'card_holds'). Laid BY PROGRAM, IN A SANDBOX (cutbox-door.mjs). By AI agents, Wed Nov 11 2026. No macro, syntax, notation, axiom, sorry.
-/
import Derived.Test.YthhhglfcacoejabDoorRows
import GoSem.ClaimSeven
namespace Go.Proofs.YthhhglfcacoejabDoor
namespace Rows

/-- THE TIED CARD OF 'surtitlelaw11.SpeedMore'. -/
def speedMoreCard : Claim7 := { stood := { row := speedMoreRow, standIns := [], harness := (true, "815fd783fcaffbe2ce1232acfb5091f72690e49e71d16c36e4a9fc7a49940e71"), looks := false }, kinds := [], alts := [], laidByText := true, laidKinds := [.data, .data], laidTests := true, laidLooks := .later }
def SpeedMoreCardSaid : Prop := Claim7.holds Tryd.pinned (.plain (OpenSpec.ofChange speedMoreSpec)) speedMoreCard

/-- THE SECOND FORM's CARD OF 'surtitlelaw11.SpeedMore'. -/
def speedMoreUptoCard : Claim7 := { stood := { row := speedMoreUptoRow, standIns := [], harness := (true, "815fd783fcaffbe2ce1232acfb5091f72690e49e71d16c36e4a9fc7a49940e71"), looks := false }, kinds := [], alts := [], laidByText := true, laidKinds := [.data, .data], laidTests := true, laidLooks := .later }
def SpeedMoreUptoCardSaid : Prop := Claim7.holds Tryd.pinned (.plain (OpenSpec.upto speedMoreSpec)) speedMoreUptoCard
end Rows
end Go.Proofs.YthhhglfcacoejabDoor
