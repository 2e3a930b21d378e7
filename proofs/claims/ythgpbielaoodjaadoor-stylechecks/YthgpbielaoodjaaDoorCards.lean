/-
  DERIVED. GIVEN WITH THE SEED: THE CARDS: each row of YthgpbielaoodjaaDoorRows.lean that lists a variable, with what it lists TIED to the program's text (the seventh form; the later family's looks); each row that meets fmt, with fmt's text TOLD by the authors' own Lean function (tested against real Go, not proved from fmt's source: count such statements apart). THE CARD IS WHAT COUNTS. Prove the row's statement (the work); the ties are given (YthgpbielaoodjaaDoorTie.lean); close each card by the builder's one call (the guide's Derived/Test/ToyasCard.lean, 'card_holds'). Laid BY PROGRAM, IN A SANDBOX (cutbox-door.mjs). By AI agents, Wed Nov 11 2026. No macro, syntax, notation, axiom, sorry.
-/
import Derived.Test.YthgpbielaoodjaaDoorRows
import GoSem.ClaimSeven
namespace Go.Proofs.YthgpbielaoodjaaDoor
namespace Rows

/-- THE TIED CARD OF 'surtitlelaw7.StyleNames'. -/
def styleNamesCard : Claim7 := { stood := { row := styleNamesRow, standIns := [], harness := (true, "02e3a62a138701e0c665177590cd5cb63631efd9c5faf64809e30f0955454b7d"), looks := false }, kinds := [], alts := [], laidByText := true, laidKinds := [.data, .pinned], laidTests := true, laidLooks := .later }
def StyleNamesCardSaid : Prop := Claim7.holds Tryd.pinned (.plain (OpenSpec.ofChange styleNamesSpec)) styleNamesCard

/-- THE TIED CARD OF 'surtitlelaw7.StyleChecks'. -/
def styleChecksCard : Claim7 := { stood := { row := styleChecksRow, standIns := [], harness := (true, "02e3a62a138701e0c665177590cd5cb63631efd9c5faf64809e30f0955454b7d"), looks := false }, kinds := [], alts := [], laidByText := true, laidKinds := [.data, .pinned], laidTests := true, laidLooks := .later }
def StyleChecksCardSaid : Prop := Claim7.holds Tryd.pinned (.plain (OpenSpec.ofChange styleChecksSpec)) styleChecksCard

/-- THE SECOND FORM's CARD OF 'surtitlelaw7.StyleNames'. -/
def styleNamesUptoCard : Claim7 := { stood := { row := styleNamesUptoRow, standIns := [], harness := (true, "02e3a62a138701e0c665177590cd5cb63631efd9c5faf64809e30f0955454b7d"), looks := false }, kinds := [], alts := [], laidByText := true, laidKinds := [.data, .pinned], laidTests := true, laidLooks := .later }
def StyleNamesUptoCardSaid : Prop := Claim7.holds Tryd.pinned (.plain (OpenSpec.upto styleNamesSpec)) styleNamesUptoCard

/-- THE SECOND FORM's CARD OF 'surtitlelaw7.StyleChecks'. -/
def styleChecksUptoCard : Claim7 := { stood := { row := styleChecksUptoRow, standIns := [], harness := (true, "02e3a62a138701e0c665177590cd5cb63631efd9c5faf64809e30f0955454b7d"), looks := false }, kinds := [], alts := [], laidByText := true, laidKinds := [.data, .pinned], laidTests := true, laidLooks := .later }
def StyleChecksUptoCardSaid : Prop := Claim7.holds Tryd.pinned (.plain (OpenSpec.upto styleChecksSpec)) styleChecksUptoCard
end Rows
end Go.Proofs.YthgpbielaoodjaaDoor
