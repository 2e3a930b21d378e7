/-
  DERIVED. GIVEN WITH THE SEED: THE CARDS: each row of YtojcfofhenfnkaaDoorRows.lean that lists a variable, with what it lists TIED to the program's text (the seventh form; the later family's looks); each row that meets fmt, with fmt's text TOLD by the authors' own Lean function (tested against real Go, not proved from fmt's source: count such statements apart). THE CARD IS WHAT COUNTS. Prove the row's statement (the work); the ties are given (YtojcfofhenfnkaaDoorTie.lean); close each card by the builder's one call (the guide's Derived/Test/ToyasCard.lean, 'card_holds'). Laid BY PROGRAM, IN A SANDBOX (cutbox-door.mjs). By AI agents, Wed Nov 11 2026. No macro, syntax, notation, axiom, sorry.
-/
import Derived.Test.YtojcfofhenfnkaaDoorRows
import GoSem.ClaimSeven
namespace Go.Proofs.YtojcfofhenfnkaaDoor
namespace Rows

/-- THE TIED CARD OF 'surtitlelaw10.WrapNames'. -/
def wrapNamesCard : Claim7 := { stood := { row := wrapNamesRow, standIns := [], harness := (true, "31262b5a48f2241978ce605b9c91ef6b0d82afa3ec87bf353c96bcd6f3c9ee03"), looks := false }, kinds := [], alts := [], laidByText := true, laidKinds := [.data, .data], laidTests := true, laidLooks := .later }
def WrapNamesCardSaid : Prop := Claim7.holds Tryd.pinned (.plain (OpenSpec.ofChange wrapNamesSpec)) wrapNamesCard

/-- THE TIED CARD OF 'surtitlelaw10.WrapPlaces'. -/
def wrapPlacesCard : Claim7 := { stood := { row := wrapPlacesRow, standIns := [], harness := (true, "31262b5a48f2241978ce605b9c91ef6b0d82afa3ec87bf353c96bcd6f3c9ee03"), looks := false }, kinds := [], alts := [], laidByText := true, laidKinds := [.data, .data], laidTests := true, laidLooks := .later }
def WrapPlacesCardSaid : Prop := Claim7.holds Tryd.pinned (.plain (OpenSpec.ofChange wrapPlacesSpec)) wrapPlacesCard

/-- THE SECOND FORM's CARD OF 'surtitlelaw10.WrapNames'. -/
def wrapNamesUptoCard : Claim7 := { stood := { row := wrapNamesUptoRow, standIns := [], harness := (true, "31262b5a48f2241978ce605b9c91ef6b0d82afa3ec87bf353c96bcd6f3c9ee03"), looks := false }, kinds := [], alts := [], laidByText := true, laidKinds := [.data, .data], laidTests := true, laidLooks := .later }
def WrapNamesUptoCardSaid : Prop := Claim7.holds Tryd.pinned (.plain (OpenSpec.upto wrapNamesSpec)) wrapNamesUptoCard

/-- THE SECOND FORM's CARD OF 'surtitlelaw10.WrapPlaces'. -/
def wrapPlacesUptoCard : Claim7 := { stood := { row := wrapPlacesUptoRow, standIns := [], harness := (true, "31262b5a48f2241978ce605b9c91ef6b0d82afa3ec87bf353c96bcd6f3c9ee03"), looks := false }, kinds := [], alts := [], laidByText := true, laidKinds := [.data, .data], laidTests := true, laidLooks := .later }
def WrapPlacesUptoCardSaid : Prop := Claim7.holds Tryd.pinned (.plain (OpenSpec.upto wrapPlacesSpec)) wrapPlacesUptoCard
end Rows
end Go.Proofs.YtojcfofhenfnkaaDoor
