/-
  DERIVED. GIVEN WITH THE SEED: THE CARDS: each row of YtbbkfelkkciacaaDoorRows.lean that lists a variable, with what it lists TIED to the program's text (the seventh form; the later family's looks); each row that meets fmt, with fmt's text TOLD by the authors' own Lean function (tested against real Go, not proved from fmt's source: count such statements apart). THE CARD IS WHAT COUNTS. Prove the row's statement (the work); the ties are given (YtbbkfelkkciacaaDoorTie.lean); close each card by the builder's one call (the guide's Derived/Test/ToyasCard.lean, 'card_holds'). Laid BY PROGRAM, IN A SANDBOX (cutbox-door.mjs). By AI agents, Wed Nov 11 2026. No macro, syntax, notation, axiom, sorry.
-/
import Derived.Test.YtbbkfelkkciacaaDoorRows
import GoSem.ClaimSeven
namespace Go.Proofs.YtbbkfelkkciacaaDoor
namespace Rows

/-- THE TIED CARD OF 'surtitlelaw7.StyleParts'. -/
def stylePartsCard : Claim7 := { stood := { row := stylePartsRow, standIns := [], harness := (true, "c3957d2f1bc8f6ee93ef56c97ce709954d7e0f50efc6628159c7a0669f60d9b5"), looks := false }, kinds := [], alts := [], laidByText := true, laidKinds := [.data, .pinned], laidTests := true, laidLooks := .later }
def StylePartsCardSaid : Prop := Claim7.holds Tryd.pinned (.plain (OpenSpec.ofChange stylePartsSpec)) stylePartsCard

/-- THE SECOND FORM's CARD OF 'surtitlelaw7.StyleParts'. -/
def stylePartsUptoCard : Claim7 := { stood := { row := stylePartsUptoRow, standIns := [], harness := (true, "c3957d2f1bc8f6ee93ef56c97ce709954d7e0f50efc6628159c7a0669f60d9b5"), looks := false }, kinds := [], alts := [], laidByText := true, laidKinds := [.data, .pinned], laidTests := true, laidLooks := .later }
def StylePartsUptoCardSaid : Prop := Claim7.holds Tryd.pinned (.plain (OpenSpec.upto stylePartsSpec)) stylePartsUptoCard
end Rows
end Go.Proofs.YtbbkfelkkciacaaDoor
