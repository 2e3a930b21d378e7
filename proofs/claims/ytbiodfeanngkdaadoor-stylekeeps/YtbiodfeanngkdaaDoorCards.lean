/-
  DERIVED. GIVEN WITH THE SEED: THE CARDS: each row of YtbiodfeanngkdaaDoorRows.lean that lists a variable, with what it lists TIED to the program's text (the seventh form; the later family's looks); each row that meets fmt, with fmt's text TOLD by the authors' own Lean function (tested against real Go, not proved from fmt's source: count such statements apart). THE CARD IS WHAT COUNTS. Prove the row's statement (the work); the ties are given (YtbiodfeanngkdaaDoorTie.lean); close each card by the builder's one call (the guide's Derived/Test/ToyasCard.lean, 'card_holds'). Laid BY PROGRAM, IN A SANDBOX (cutbox-door.mjs). By AI agents, Wed Nov 11 2026. No macro, syntax, notation, axiom, sorry.
-/
import Derived.Test.YtbiodfeanngkdaaDoorRows
import GoSem.ClaimSeven
namespace Go.Proofs.YtbiodfeanngkdaaDoor
namespace Rows

/-- THE TIED CARD OF 'surtitlelaw7.StyleKeeps'. -/
def styleKeepsCard : Claim7 := { stood := { row := styleKeepsRow, standIns := [], harness := (true, "834190c506cb6c70f577d17cb6217c2aa39e5c891949f3d1d74780f0e10f8a7f"), looks := false }, kinds := [], alts := [], laidByText := true, laidKinds := [.data, .pinned], laidTests := true, laidLooks := .later }
def StyleKeepsCardSaid : Prop := Claim7.holds Tryd.pinned (.plain (OpenSpec.ofChange styleKeepsSpec)) styleKeepsCard

/-- THE SECOND FORM's CARD OF 'surtitlelaw7.StyleKeeps'. -/
def styleKeepsUptoCard : Claim7 := { stood := { row := styleKeepsUptoRow, standIns := [], harness := (true, "834190c506cb6c70f577d17cb6217c2aa39e5c891949f3d1d74780f0e10f8a7f"), looks := false }, kinds := [], alts := [], laidByText := true, laidKinds := [.data, .pinned], laidTests := true, laidLooks := .later }
def StyleKeepsUptoCardSaid : Prop := Claim7.holds Tryd.pinned (.plain (OpenSpec.upto styleKeepsSpec)) styleKeepsUptoCard
end Rows
end Go.Proofs.YtbiodfeanngkdaaDoor
