/-
  DERIVED. GIVEN WITH THE SEED: THE CARDS: each row of YteignefcijmmeaaDoorRows.lean that lists a variable, with what it lists TIED to the program's text (the seventh form; the later family's looks); each row that meets fmt, with fmt's text TOLD by the authors' own Lean function (tested against real Go, not proved from fmt's source: count such statements apart). THE CARD IS WHAT COUNTS. Prove the row's statement (the work); the ties are given (YteignefcijmmeaaDoorTie.lean); close each card by the builder's one call (the guide's Derived/Test/ToyasCard.lean, 'card_holds'). Laid BY PROGRAM, IN A SANDBOX (cutbox-door.mjs). By AI agents, Wed Nov 11 2026. No macro, syntax, notation, axiom, sorry.
-/
import Derived.Test.YteignefcijmmeaaDoorRows
import GoSem.ClaimSeven
namespace Go.Proofs.YteignefcijmmeaaDoor
namespace Rows

/-- THE TIED CARD OF 'surtitlelaw10.WrapBadness'. -/
def wrapBadnessCard : Claim7 := { stood := { row := wrapBadnessRow, standIns := [], harness := (true, "b3e92fb0ec2567e32988f7005b87422b97e53e142554601c9dc6e72e4a8b79f6"), looks := false }, kinds := [], alts := [], laidByText := true, laidKinds := [.data, .data], laidTests := true, laidLooks := .later }
def WrapBadnessCardSaid : Prop := Claim7.holds Tryd.pinned (.plain (OpenSpec.ofChange wrapBadnessSpec)) wrapBadnessCard

/-- THE TIED CARD OF 'surtitlelaw10.WrapLines'. -/
def wrapLinesCard : Claim7 := { stood := { row := wrapLinesRow, standIns := [], harness := (true, "b3e92fb0ec2567e32988f7005b87422b97e53e142554601c9dc6e72e4a8b79f6"), looks := false }, kinds := [], alts := [], laidByText := true, laidKinds := [.data, .data], laidTests := true, laidLooks := .later }
def WrapLinesCardSaid : Prop := Claim7.holds Tryd.pinned (.plain (OpenSpec.ofChange wrapLinesSpec)) wrapLinesCard

/-- THE TIED CARD OF 'surtitlelaw10.WrapCounts'. -/
def wrapCountsCard : Claim7 := { stood := { row := wrapCountsRow, standIns := [], harness := (true, "b3e92fb0ec2567e32988f7005b87422b97e53e142554601c9dc6e72e4a8b79f6"), looks := false }, kinds := [], alts := [], laidByText := true, laidKinds := [.data, .data], laidTests := true, laidLooks := .later }
def WrapCountsCardSaid : Prop := Claim7.holds Tryd.pinned (.plain (OpenSpec.ofChange wrapCountsSpec)) wrapCountsCard

/-- THE TIED CARD OF 'surtitlelaw10.WrapWide'. -/
def wrapWideCard : Claim7 := { stood := { row := wrapWideRow, standIns := [], harness := (true, "b3e92fb0ec2567e32988f7005b87422b97e53e142554601c9dc6e72e4a8b79f6"), looks := false }, kinds := [], alts := [], laidByText := true, laidKinds := [.data, .data], laidTests := true, laidLooks := .later }
def WrapWideCardSaid : Prop := Claim7.holds Tryd.pinned (.plain (OpenSpec.ofChange wrapWideSpec)) wrapWideCard

/-- THE SECOND FORM's CARD OF 'surtitlelaw10.WrapBadness'. -/
def wrapBadnessUptoCard : Claim7 := { stood := { row := wrapBadnessUptoRow, standIns := [], harness := (true, "b3e92fb0ec2567e32988f7005b87422b97e53e142554601c9dc6e72e4a8b79f6"), looks := false }, kinds := [], alts := [], laidByText := true, laidKinds := [.data, .data], laidTests := true, laidLooks := .later }
def WrapBadnessUptoCardSaid : Prop := Claim7.holds Tryd.pinned (.plain (OpenSpec.upto wrapBadnessSpec)) wrapBadnessUptoCard

/-- THE SECOND FORM's CARD OF 'surtitlelaw10.WrapLines'. -/
def wrapLinesUptoCard : Claim7 := { stood := { row := wrapLinesUptoRow, standIns := [], harness := (true, "b3e92fb0ec2567e32988f7005b87422b97e53e142554601c9dc6e72e4a8b79f6"), looks := false }, kinds := [], alts := [], laidByText := true, laidKinds := [.data, .data], laidTests := true, laidLooks := .later }
def WrapLinesUptoCardSaid : Prop := Claim7.holds Tryd.pinned (.plain (OpenSpec.upto wrapLinesSpec)) wrapLinesUptoCard

/-- THE SECOND FORM's CARD OF 'surtitlelaw10.WrapCounts'. -/
def wrapCountsUptoCard : Claim7 := { stood := { row := wrapCountsUptoRow, standIns := [], harness := (true, "b3e92fb0ec2567e32988f7005b87422b97e53e142554601c9dc6e72e4a8b79f6"), looks := false }, kinds := [], alts := [], laidByText := true, laidKinds := [.data, .data], laidTests := true, laidLooks := .later }
def WrapCountsUptoCardSaid : Prop := Claim7.holds Tryd.pinned (.plain (OpenSpec.upto wrapCountsSpec)) wrapCountsUptoCard

/-- THE SECOND FORM's CARD OF 'surtitlelaw10.WrapWide'. -/
def wrapWideUptoCard : Claim7 := { stood := { row := wrapWideUptoRow, standIns := [], harness := (true, "b3e92fb0ec2567e32988f7005b87422b97e53e142554601c9dc6e72e4a8b79f6"), looks := false }, kinds := [], alts := [], laidByText := true, laidKinds := [.data, .data], laidTests := true, laidLooks := .later }
def WrapWideUptoCardSaid : Prop := Claim7.holds Tryd.pinned (.plain (OpenSpec.upto wrapWideSpec)) wrapWideUptoCard
end Rows
end Go.Proofs.YteignefcijmmeaaDoor
