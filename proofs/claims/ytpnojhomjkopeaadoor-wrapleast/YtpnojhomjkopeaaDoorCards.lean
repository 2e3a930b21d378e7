/-
  DERIVED. GIVEN WITH THE SEED: THE CARDS: each row of YtpnojhomjkopeaaDoorRows.lean that lists a variable, with what it lists TIED to the program's text (the seventh form; the later family's looks); each row that meets fmt, with fmt's text TOLD by the authors' own Lean function (tested against real Go, not proved from fmt's source: count such statements apart). THE CARD IS WHAT COUNTS. Prove the row's statement (the work); the ties are given (YtpnojhomjkopeaaDoorTie.lean); close each card by the builder's one call (the guide's Derived/Test/ToyasCard.lean, 'card_holds'). Laid BY PROGRAM, IN A SANDBOX (cutbox-door.mjs). By AI agents, Wed Nov 11 2026. No macro, syntax, notation, axiom, sorry.
-/
import Derived.Test.YtpnojhomjkopeaaDoorRows
import GoSem.ClaimSeven
namespace Go.Proofs.YtpnojhomjkopeaaDoor
namespace Rows

/-- THE TIED CARD OF 'surtitlelaw10.WrapLeast'. -/
def wrapLeastCard : Claim7 := { stood := { row := wrapLeastRow, standIns := [], harness := (true, "df8f241f2347048c43dd126bd7ebcefbde69bf9b8e7f19ceb8f42e078a6797b8"), looks := false }, kinds := [], alts := [], laidByText := true, laidKinds := [.data, .data], laidTests := true, laidLooks := .later }
def WrapLeastCardSaid : Prop := Claim7.holds Tryd.pinned (.plain (OpenSpec.ofChange wrapLeastSpec)) wrapLeastCard

/-- THE TIED CARD OF 'surtitlelaw10.WrapNoLess'. -/
def wrapNoLessCard : Claim7 := { stood := { row := wrapNoLessRow, standIns := [], harness := (true, "df8f241f2347048c43dd126bd7ebcefbde69bf9b8e7f19ceb8f42e078a6797b8"), looks := false }, kinds := [], alts := [], laidByText := true, laidKinds := [.data, .data], laidTests := true, laidLooks := .later }
def WrapNoLessCardSaid : Prop := Claim7.holds Tryd.pinned (.plain (OpenSpec.ofChange wrapNoLessSpec)) wrapNoLessCard

/-- THE TIED CARD OF 'surtitlelaw10.WrapAll'. -/
def wrapAllCard : Claim7 := { stood := { row := wrapAllRow, standIns := [], harness := (true, "df8f241f2347048c43dd126bd7ebcefbde69bf9b8e7f19ceb8f42e078a6797b8"), looks := false }, kinds := [], alts := [], laidByText := true, laidKinds := [.data, .data], laidTests := true, laidLooks := .later }
def WrapAllCardSaid : Prop := Claim7.holds Tryd.pinned (.plain (OpenSpec.ofChange wrapAllSpec)) wrapAllCard

/-- THE TIED CARD OF 'surtitlelaw10.WrapPlaced'. -/
def wrapPlacedCard : Claim7 := { stood := { row := wrapPlacedRow, standIns := [], harness := (true, "df8f241f2347048c43dd126bd7ebcefbde69bf9b8e7f19ceb8f42e078a6797b8"), looks := false }, kinds := [], alts := [], laidByText := true, laidKinds := [.data, .data], laidTests := true, laidLooks := .later }
def WrapPlacedCardSaid : Prop := Claim7.holds Tryd.pinned (.plain (OpenSpec.ofChange wrapPlacedSpec)) wrapPlacedCard

/-- THE SECOND FORM's CARD OF 'surtitlelaw10.WrapLeast'. -/
def wrapLeastUptoCard : Claim7 := { stood := { row := wrapLeastUptoRow, standIns := [], harness := (true, "df8f241f2347048c43dd126bd7ebcefbde69bf9b8e7f19ceb8f42e078a6797b8"), looks := false }, kinds := [], alts := [], laidByText := true, laidKinds := [.data, .data], laidTests := true, laidLooks := .later }
def WrapLeastUptoCardSaid : Prop := Claim7.holds Tryd.pinned (.plain (OpenSpec.upto wrapLeastSpec)) wrapLeastUptoCard

/-- THE SECOND FORM's CARD OF 'surtitlelaw10.WrapNoLess'. -/
def wrapNoLessUptoCard : Claim7 := { stood := { row := wrapNoLessUptoRow, standIns := [], harness := (true, "df8f241f2347048c43dd126bd7ebcefbde69bf9b8e7f19ceb8f42e078a6797b8"), looks := false }, kinds := [], alts := [], laidByText := true, laidKinds := [.data, .data], laidTests := true, laidLooks := .later }
def WrapNoLessUptoCardSaid : Prop := Claim7.holds Tryd.pinned (.plain (OpenSpec.upto wrapNoLessSpec)) wrapNoLessUptoCard

/-- THE SECOND FORM's CARD OF 'surtitlelaw10.WrapAll'. -/
def wrapAllUptoCard : Claim7 := { stood := { row := wrapAllUptoRow, standIns := [], harness := (true, "df8f241f2347048c43dd126bd7ebcefbde69bf9b8e7f19ceb8f42e078a6797b8"), looks := false }, kinds := [], alts := [], laidByText := true, laidKinds := [.data, .data], laidTests := true, laidLooks := .later }
def WrapAllUptoCardSaid : Prop := Claim7.holds Tryd.pinned (.plain (OpenSpec.upto wrapAllSpec)) wrapAllUptoCard

/-- THE SECOND FORM's CARD OF 'surtitlelaw10.WrapPlaced'. -/
def wrapPlacedUptoCard : Claim7 := { stood := { row := wrapPlacedUptoRow, standIns := [], harness := (true, "df8f241f2347048c43dd126bd7ebcefbde69bf9b8e7f19ceb8f42e078a6797b8"), looks := false }, kinds := [], alts := [], laidByText := true, laidKinds := [.data, .data], laidTests := true, laidLooks := .later }
def WrapPlacedUptoCardSaid : Prop := Claim7.holds Tryd.pinned (.plain (OpenSpec.upto wrapPlacedSpec)) wrapPlacedUptoCard
end Rows
end Go.Proofs.YtpnojhomjkopeaaDoor
