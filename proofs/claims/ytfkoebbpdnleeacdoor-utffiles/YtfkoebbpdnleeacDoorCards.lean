/-
  DERIVED. GIVEN WITH THE SEED: THE CARDS: each row of YtfkoebbpdnleeacDoorRows.lean that lists a variable, with what it lists TIED to the program's text (the seventh form; the later family's looks); each row that meets fmt, with fmt's text TOLD by the authors' own Lean function (tested against real Go, not proved from fmt's source: count such statements apart). THE CARD IS WHAT COUNTS. Prove the row's statement (the work); the ties are given (YtfkoebbpdnleeacDoorTie.lean); close each card by the builder's one call (the guide's Derived/Test/ToyasCard.lean, 'card_holds'). Laid BY PROGRAM, IN A SANDBOX (cutbox-door.mjs). By AI agents, Wed Nov 11 2026. No macro, syntax, notation, axiom, sorry.
-/
import Derived.Test.YtfkoebbpdnleeacDoorRows
import GoSem.ClaimSeven
namespace Go.Proofs.YtfkoebbpdnleeacDoor
namespace Rows

/-- THE TIED CARD OF 'surtitlelaw1.UtfRepairs'. -/
def utfRepairsCard : Claim7 := { stood := { row := utfRepairsRow, standIns := [], harness := (true, "a799f0001632ccff3567cb2e8b06e80e8066613adb2853143e83bff677bf9d6e"), looks := false }, kinds := [], alts := [], laidByText := true, laidKinds := [.data, .pinned], laidTests := true, laidLooks := .later }
def UtfRepairsCardSaid : Prop := Claim7.holds Tryd.pinned (.plain (OpenSpec.ofChange utfRepairsSpec)) utfRepairsCard

/-- THE TIED CARD OF 'surtitlelaw1.UtfRound'. -/
def utfRoundCard : Claim7 := { stood := { row := utfRoundRow, standIns := [], harness := (true, "a799f0001632ccff3567cb2e8b06e80e8066613adb2853143e83bff677bf9d6e"), looks := false }, kinds := [], alts := [], laidByText := true, laidKinds := [.data, .pinned], laidTests := true, laidLooks := .later }
def UtfRoundCardSaid : Prop := Claim7.holds Tryd.pinned (.plain (OpenSpec.ofChange utfRoundSpec)) utfRoundCard

/-- THE TIED CARD OF 'surtitlelaw1.UtfStream'. -/
def utfStreamCard : Claim7 := { stood := { row := utfStreamRow, standIns := [], harness := (true, "a799f0001632ccff3567cb2e8b06e80e8066613adb2853143e83bff677bf9d6e"), looks := false }, kinds := [], alts := [], laidByText := true, laidKinds := [.data, .pinned], laidTests := true, laidLooks := .later }
def UtfStreamCardSaid : Prop := Claim7.holds Tryd.pinned (.plain (OpenSpec.ofChange utfStreamSpec)) utfStreamCard

/-- THE TIED CARD OF 'surtitlelaw1.UtfSeams'. -/
def utfSeamsCard : Claim7 := { stood := { row := utfSeamsRow, standIns := [], harness := (true, "a799f0001632ccff3567cb2e8b06e80e8066613adb2853143e83bff677bf9d6e"), looks := false }, kinds := [], alts := [], laidByText := true, laidKinds := [.data, .pinned], laidTests := true, laidLooks := .later }
def UtfSeamsCardSaid : Prop := Claim7.holds Tryd.pinned (.plain (OpenSpec.ofChange utfSeamsSpec)) utfSeamsCard

/-- THE TIED CARD OF 'surtitlelaw1.UtfFiles'. -/
def utfFilesCard : Claim7 := { stood := { row := utfFilesRow, standIns := [], harness := (true, "a799f0001632ccff3567cb2e8b06e80e8066613adb2853143e83bff677bf9d6e"), looks := false }, kinds := [], alts := [], laidByText := true, laidKinds := [.data, .pinned], laidTests := true, laidLooks := .later }
def UtfFilesCardSaid : Prop := Claim7.holds Tryd.pinned (.plain (OpenSpec.ofChange utfFilesSpec)) utfFilesCard

/-- THE TIED CARD OF 'surtitlelaw1.UtfSeqs'. -/
def utfSeqsCard : Claim7 := { stood := { row := utfSeqsRow, standIns := [], harness := (true, "a799f0001632ccff3567cb2e8b06e80e8066613adb2853143e83bff677bf9d6e"), looks := false }, kinds := [], alts := [], laidByText := true, laidKinds := [.data, .pinned], laidTests := true, laidLooks := .later }
def UtfSeqsCardSaid : Prop := Claim7.holds Tryd.pinned (.plain (OpenSpec.ofChange utfSeqsSpec)) utfSeqsCard

/-- THE SECOND FORM's CARD OF 'surtitlelaw1.UtfRepairs'. -/
def utfRepairsUptoCard : Claim7 := { stood := { row := utfRepairsUptoRow, standIns := [], harness := (true, "a799f0001632ccff3567cb2e8b06e80e8066613adb2853143e83bff677bf9d6e"), looks := false }, kinds := [], alts := [], laidByText := true, laidKinds := [.data, .pinned], laidTests := true, laidLooks := .later }
def UtfRepairsUptoCardSaid : Prop := Claim7.holds Tryd.pinned (.plain (OpenSpec.upto utfRepairsSpec)) utfRepairsUptoCard

/-- THE SECOND FORM's CARD OF 'surtitlelaw1.UtfRound'. -/
def utfRoundUptoCard : Claim7 := { stood := { row := utfRoundUptoRow, standIns := [], harness := (true, "a799f0001632ccff3567cb2e8b06e80e8066613adb2853143e83bff677bf9d6e"), looks := false }, kinds := [], alts := [], laidByText := true, laidKinds := [.data, .pinned], laidTests := true, laidLooks := .later }
def UtfRoundUptoCardSaid : Prop := Claim7.holds Tryd.pinned (.plain (OpenSpec.upto utfRoundSpec)) utfRoundUptoCard

/-- THE SECOND FORM's CARD OF 'surtitlelaw1.UtfStream'. -/
def utfStreamUptoCard : Claim7 := { stood := { row := utfStreamUptoRow, standIns := [], harness := (true, "a799f0001632ccff3567cb2e8b06e80e8066613adb2853143e83bff677bf9d6e"), looks := false }, kinds := [], alts := [], laidByText := true, laidKinds := [.data, .pinned], laidTests := true, laidLooks := .later }
def UtfStreamUptoCardSaid : Prop := Claim7.holds Tryd.pinned (.plain (OpenSpec.upto utfStreamSpec)) utfStreamUptoCard

/-- THE SECOND FORM's CARD OF 'surtitlelaw1.UtfSeams'. -/
def utfSeamsUptoCard : Claim7 := { stood := { row := utfSeamsUptoRow, standIns := [], harness := (true, "a799f0001632ccff3567cb2e8b06e80e8066613adb2853143e83bff677bf9d6e"), looks := false }, kinds := [], alts := [], laidByText := true, laidKinds := [.data, .pinned], laidTests := true, laidLooks := .later }
def UtfSeamsUptoCardSaid : Prop := Claim7.holds Tryd.pinned (.plain (OpenSpec.upto utfSeamsSpec)) utfSeamsUptoCard

/-- THE SECOND FORM's CARD OF 'surtitlelaw1.UtfFiles'. -/
def utfFilesUptoCard : Claim7 := { stood := { row := utfFilesUptoRow, standIns := [], harness := (true, "a799f0001632ccff3567cb2e8b06e80e8066613adb2853143e83bff677bf9d6e"), looks := false }, kinds := [], alts := [], laidByText := true, laidKinds := [.data, .pinned], laidTests := true, laidLooks := .later }
def UtfFilesUptoCardSaid : Prop := Claim7.holds Tryd.pinned (.plain (OpenSpec.upto utfFilesSpec)) utfFilesUptoCard

/-- THE SECOND FORM's CARD OF 'surtitlelaw1.UtfSeqs'. -/
def utfSeqsUptoCard : Claim7 := { stood := { row := utfSeqsUptoRow, standIns := [], harness := (true, "a799f0001632ccff3567cb2e8b06e80e8066613adb2853143e83bff677bf9d6e"), looks := false }, kinds := [], alts := [], laidByText := true, laidKinds := [.data, .pinned], laidTests := true, laidLooks := .later }
def UtfSeqsUptoCardSaid : Prop := Claim7.holds Tryd.pinned (.plain (OpenSpec.upto utfSeqsSpec)) utfSeqsUptoCard
end Rows
end Go.Proofs.YtfkoebbpdnleeacDoor
