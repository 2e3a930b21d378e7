/-
  DERIVED. GIVEN WITH THE SEED: THE CARDS: each row of YtjfhlddbkdkjbaaGreatDoorRows.lean that lists a variable, with what it lists TIED to the program's text (the seventh form; the later family's looks); each row that meets fmt, with fmt's text TOLD by the authors' own Lean function (tested against real Go, not proved from fmt's source: count such statements apart). THE CARD IS WHAT COUNTS. Prove the row's statement (the work); the ties are given (YtjfhlddbkdkjbaaGreatDoorTie.lean); close each card by the builder's one call (the guide's Derived/Test/ToyasCard.lean, 'card_holds'). Laid BY PROGRAM, IN A SANDBOX (cutbox-door.mjs). By AI agents, Wed Nov 11 2026. No macro, syntax, notation, axiom, sorry.
-/
import Derived.Test.YtjfhlddbkdkjbaaGreatDoorRows
import GoSem.ClaimSeven
namespace Go.Proofs.YtjfhlddbkdkjbaaGreatDoor
namespace Rows

/-- THE TIED CARD OF 'surtitlelaw7.StyleMakes'. -/
def styleMakesCard : Claim7 := { stood := { row := styleMakesRow, standIns := [], harness := (true, "a9eb1b32731ebc8b99d7d7e75f58d6718305fdee86100dbf0d4de42cc856ff7a"), looks := false }, kinds := [], alts := [], laidByText := true, laidKinds := [.data, .pinned], laidTests := true, laidLooks := .later }
def StyleMakesCardSaid : Prop := Claim7.holds Tryz.pinned (.plain (OpenSpec.ofChange styleMakesSpec)) styleMakesCard

/-- THE TIED CARD OF 'surtitlelaw7.StyleNorms'. -/
def styleNormsCard : Claim7 := { stood := { row := styleNormsRow, standIns := [], harness := (true, "a9eb1b32731ebc8b99d7d7e75f58d6718305fdee86100dbf0d4de42cc856ff7a"), looks := false }, kinds := [], alts := [], laidByText := true, laidKinds := [.data, .pinned], laidTests := true, laidLooks := .later }
def StyleNormsCardSaid : Prop := Claim7.holds Tryz.pinned (.plain (OpenSpec.ofChange styleNormsSpec)) styleNormsCard

/-- THE TIED CARD OF 'surtitlelaw7.StyleSets'. -/
def styleSetsCard : Claim7 := { stood := { row := styleSetsRow, standIns := [], harness := (true, "a9eb1b32731ebc8b99d7d7e75f58d6718305fdee86100dbf0d4de42cc856ff7a"), looks := false }, kinds := [], alts := [], laidByText := true, laidKinds := [.data, .pinned], laidTests := true, laidLooks := .later }
def StyleSetsCardSaid : Prop := Claim7.holds Tryz.pinned (.plain (OpenSpec.ofChange styleSetsSpec)) styleSetsCard

/-- THE SECOND FORM's CARD OF 'surtitlelaw7.StyleMakes'. -/
def styleMakesUptoCard : Claim7 := { stood := { row := styleMakesUptoRow, standIns := [], harness := (true, "a9eb1b32731ebc8b99d7d7e75f58d6718305fdee86100dbf0d4de42cc856ff7a"), looks := false }, kinds := [], alts := [], laidByText := true, laidKinds := [.data, .pinned], laidTests := true, laidLooks := .later }
def StyleMakesUptoCardSaid : Prop := Claim7.holds Tryz.pinned (.plain (OpenSpec.upto styleMakesSpec)) styleMakesUptoCard

/-- THE SECOND FORM's CARD OF 'surtitlelaw7.StyleNorms'. -/
def styleNormsUptoCard : Claim7 := { stood := { row := styleNormsUptoRow, standIns := [], harness := (true, "a9eb1b32731ebc8b99d7d7e75f58d6718305fdee86100dbf0d4de42cc856ff7a"), looks := false }, kinds := [], alts := [], laidByText := true, laidKinds := [.data, .pinned], laidTests := true, laidLooks := .later }
def StyleNormsUptoCardSaid : Prop := Claim7.holds Tryz.pinned (.plain (OpenSpec.upto styleNormsSpec)) styleNormsUptoCard

/-- THE SECOND FORM's CARD OF 'surtitlelaw7.StyleSets'. -/
def styleSetsUptoCard : Claim7 := { stood := { row := styleSetsUptoRow, standIns := [], harness := (true, "a9eb1b32731ebc8b99d7d7e75f58d6718305fdee86100dbf0d4de42cc856ff7a"), looks := false }, kinds := [], alts := [], laidByText := true, laidKinds := [.data, .pinned], laidTests := true, laidLooks := .later }
def StyleSetsUptoCardSaid : Prop := Claim7.holds Tryz.pinned (.plain (OpenSpec.upto styleSetsSpec)) styleSetsUptoCard
end Rows
end Go.Proofs.YtjfhlddbkdkjbaaGreatDoor
