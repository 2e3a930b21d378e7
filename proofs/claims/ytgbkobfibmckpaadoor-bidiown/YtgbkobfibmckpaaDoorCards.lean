/-
  DERIVED. GIVEN WITH THE SEED: THE CARDS: each row of YtgbkobfibmckpaaDoorRows.lean that lists a variable, with what it lists TIED to the program's text (the seventh form; the later family's looks); each row that meets fmt, with fmt's text TOLD by the authors' own Lean function (tested against real Go, not proved from fmt's source: count such statements apart). THE CARD IS WHAT COUNTS. Prove the row's statement (the work); the ties are given (YtgbkobfibmckpaaDoorTie.lean); close each card by the builder's one call (the guide's Derived/Test/ToyasCard.lean, 'card_holds'). Laid BY PROGRAM, IN A SANDBOX (cutbox-door.mjs). By AI agents, Wed Nov 11 2026. No macro, syntax, notation, axiom, sorry.
-/
import Derived.Test.YtgbkobfibmckpaaDoorRows
import GoSem.ClaimSeven
namespace Go.Proofs.YtgbkobfibmckpaaDoor
namespace Rows

/-- THE TIED CARD OF 'surtitlelaw4.BidiOwn'. -/
def bidiOwnCard : Claim7 := { stood := { row := bidiOwnRow, standIns := [], harness := (true, "f0ed9bad9351b625b1e08ead09ec034e88542135d79b51d98bbd9269ee03fe9e"), looks := false }, kinds := [], alts := [], laidByText := true, laidKinds := [.data, .data, .data, .pinned], laidTests := true, laidLooks := .later }
def BidiOwnCardSaid : Prop := Claim7.holds Tryd.pinned (.plain (OpenSpec.ofChange bidiOwnSpec)) bidiOwnCard

/-- THE SECOND FORM's CARD OF 'surtitlelaw4.BidiOwn'. -/
def bidiOwnUptoCard : Claim7 := { stood := { row := bidiOwnUptoRow, standIns := [], harness := (true, "f0ed9bad9351b625b1e08ead09ec034e88542135d79b51d98bbd9269ee03fe9e"), looks := false }, kinds := [], alts := [], laidByText := true, laidKinds := [.data, .data, .data, .pinned], laidTests := true, laidLooks := .later }
def BidiOwnUptoCardSaid : Prop := Claim7.holds Tryd.pinned (.plain (OpenSpec.upto bidiOwnSpec)) bidiOwnUptoCard
end Rows
end Go.Proofs.YtgbkobfibmckpaaDoor
