/-
  DERIVED. GIVEN WITH THE SEED: THE CARDS: each row of YthhhglfcacoejaaGreatDoorRows.lean that lists a variable, with what it lists TIED to the program's text (the seventh form; the later family's looks); each row that meets fmt, with fmt's text TOLD by the authors' own Lean function (tested against real Go, not proved from fmt's source: count such statements apart). THE CARD IS WHAT COUNTS. Prove the row's statement (the work); the ties are given (YthhhglfcacoejaaGreatDoorTie.lean); close each card by the builder's one call (the guide's Derived/Test/ToyasCard.lean, 'card_holds'). Laid BY PROGRAM, IN A SANDBOX (cutbox-door.mjs). By AI agents, Wed Nov 11 2026. No macro, syntax, notation, axiom, sorry.
-/
import Derived.Test.YthhhglfcacoejaaGreatDoorRows
import GoSem.ClaimSeven
namespace Go.Proofs.YthhhglfcacoejaaGreatDoor
namespace Rows

/-- THE TIED CARD OF 'surtitlelaw11.SpeedLooks'. -/
def speedLooksCard : Claim7 := { stood := { row := speedLooksRow, standIns := [], harness := (true, "5bc2ee2891e0218a30156146c04d742ff5e6e2f54da5accf23dc796dceb903cc"), looks := true }, kinds := [], alts := [], laidByText := true, laidKinds := [.handle, .data, .data], laidTests := true, laidLooks := .later }
def SpeedLooksCardSaid : Prop := Claim7.holds Tryz.pinned (.plain (OpenSpec.ofChange speedLooksSpec)) speedLooksCard

/-- THE SECOND FORM's CARD OF 'surtitlelaw11.SpeedLooks'. -/
def speedLooksUptoCard : Claim7 := { stood := { row := speedLooksUptoRow, standIns := [], harness := (true, "5bc2ee2891e0218a30156146c04d742ff5e6e2f54da5accf23dc796dceb903cc"), looks := true }, kinds := [], alts := [], laidByText := true, laidKinds := [.handle, .data, .data], laidTests := true, laidLooks := .later }
def SpeedLooksUptoCardSaid : Prop := Claim7.holds Tryz.pinned (.plain (OpenSpec.upto speedLooksSpec)) speedLooksUptoCard
end Rows
end Go.Proofs.YthhhglfcacoejaaGreatDoor
