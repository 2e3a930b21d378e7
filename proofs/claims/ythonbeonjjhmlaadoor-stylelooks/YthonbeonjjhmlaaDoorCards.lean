/-
  DERIVED. GIVEN WITH THE SEED: THE CARDS: each row of YthonbeonjjhmlaaDoorRows.lean that lists a variable, with what it lists TIED to the program's text (the seventh form; the later family's looks); each row that meets fmt, with fmt's text TOLD by the authors' own Lean function (tested against real Go, not proved from fmt's source: count such statements apart). THE CARD IS WHAT COUNTS. Prove the row's statement (the work); the ties are given (YthonbeonjjhmlaaDoorTie.lean); close each card by the builder's one call (the guide's Derived/Test/ToyasCard.lean, 'card_holds'). Laid BY PROGRAM, IN A SANDBOX (cutbox-door.mjs). By AI agents, Wed Nov 11 2026. No macro, syntax, notation, axiom, sorry.
-/
import Derived.Test.YthonbeonjjhmlaaDoorRows
import GoSem.ClaimSeven
namespace Go.Proofs.YthonbeonjjhmlaaDoor
namespace Rows

/-- THE TIED CARD OF 'surtitlelaw7.StyleLooks'. -/
def styleLooksCard : Claim7 := { stood := { row := styleLooksRow, standIns := [], harness := (true, "ddda706d622a9c8eff871e282d3c24957b97ac2c59f5098fd2d076e90475695f"), looks := false }, kinds := [], alts := [], laidByText := true, laidKinds := [.data, .pinned], laidTests := true, laidLooks := .later }
def StyleLooksCardSaid : Prop := Claim7.holds Tryd.pinned (.plain (OpenSpec.ofChange styleLooksSpec)) styleLooksCard

/-- THE TIED CARD OF 'surtitlelaw7.StyleSames'. -/
def styleSamesCard : Claim7 := { stood := { row := styleSamesRow, standIns := [], harness := (true, "ddda706d622a9c8eff871e282d3c24957b97ac2c59f5098fd2d076e90475695f"), looks := false }, kinds := [], alts := [], laidByText := true, laidKinds := [.data, .pinned], laidTests := true, laidLooks := .later }
def StyleSamesCardSaid : Prop := Claim7.holds Tryd.pinned (.plain (OpenSpec.ofChange styleSamesSpec)) styleSamesCard

/-- THE SECOND FORM's CARD OF 'surtitlelaw7.StyleLooks'. -/
def styleLooksUptoCard : Claim7 := { stood := { row := styleLooksUptoRow, standIns := [], harness := (true, "ddda706d622a9c8eff871e282d3c24957b97ac2c59f5098fd2d076e90475695f"), looks := false }, kinds := [], alts := [], laidByText := true, laidKinds := [.data, .pinned], laidTests := true, laidLooks := .later }
def StyleLooksUptoCardSaid : Prop := Claim7.holds Tryd.pinned (.plain (OpenSpec.upto styleLooksSpec)) styleLooksUptoCard

/-- THE SECOND FORM's CARD OF 'surtitlelaw7.StyleSames'. -/
def styleSamesUptoCard : Claim7 := { stood := { row := styleSamesUptoRow, standIns := [], harness := (true, "ddda706d622a9c8eff871e282d3c24957b97ac2c59f5098fd2d076e90475695f"), looks := false }, kinds := [], alts := [], laidByText := true, laidKinds := [.data, .pinned], laidTests := true, laidLooks := .later }
def StyleSamesUptoCardSaid : Prop := Claim7.holds Tryd.pinned (.plain (OpenSpec.upto styleSamesSpec)) styleSamesUptoCard
end Rows
end Go.Proofs.YthonbeonjjhmlaaDoor
