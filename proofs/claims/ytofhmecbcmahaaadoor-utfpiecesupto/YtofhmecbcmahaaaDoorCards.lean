/-
  DERIVED. GIVEN WITH THE SEED: THE CARDS: each row of YtofhmecbcmahaaaDoorRows.lean that lists a variable, with what it lists TIED to the program's text (the seventh form; the later family's looks); each row that meets fmt, with fmt's text TOLD by the authors' own Lean function (tested against real Go, not proved from fmt's source: count such statements apart). THE CARD IS WHAT COUNTS. Prove the row's statement (the work); the ties are given (YtofhmecbcmahaaaDoorTie.lean); close each card by the builder's one call (the guide's Derived/Test/ToyasCard.lean, 'card_holds'). Laid BY PROGRAM, IN A SANDBOX (cutbox-door.mjs). By AI agents, Wed Nov 11 2026. No macro, syntax, notation, axiom, sorry.
-/
import Derived.Test.YtofhmecbcmahaaaDoorRows
import GoSem.ClaimSeven
namespace Go.Proofs.YtofhmecbcmahaaaDoor
namespace Rows

/-- THE TIED CARD OF 'surtitlelaw1.UtfSigns'. -/
def utfSignsCard : Claim7 := { stood := { row := utfSignsRow, standIns := [], harness := (true, "9572992923a927f83896c36c3a47adc9357751acfebccc369600a6ff0e063f16"), looks := false }, kinds := [], alts := [], laidByText := true, laidKinds := [.data, .pinned], laidTests := true, laidLooks := .later }
def UtfSignsCardSaid : Prop := Claim7.holds Tryd.pinned (.plain (OpenSpec.ofChange utfSignsSpec)) utfSignsCard

/-- THE TIED CARD OF 'surtitlelaw1.UtfPlaces'. -/
def utfPlacesCard : Claim7 := { stood := { row := utfPlacesRow, standIns := [], harness := (true, "9572992923a927f83896c36c3a47adc9357751acfebccc369600a6ff0e063f16"), looks := false }, kinds := [], alts := [], laidByText := true, laidKinds := [.data, .pinned], laidTests := true, laidLooks := .later }
def UtfPlacesCardSaid : Prop := Claim7.holds Tryd.pinned (.plain (OpenSpec.ofChange utfPlacesSpec)) utfPlacesCard

/-- THE TIED CARD OF 'surtitlelaw1.UtfCuts'. -/
def utfCutsCard : Claim7 := { stood := { row := utfCutsRow, standIns := [], harness := (true, "9572992923a927f83896c36c3a47adc9357751acfebccc369600a6ff0e063f16"), looks := false }, kinds := [], alts := [], laidByText := true, laidKinds := [.data, .pinned], laidTests := true, laidLooks := .later }
def UtfCutsCardSaid : Prop := Claim7.holds Tryd.pinned (.plain (OpenSpec.ofChange utfCutsSpec)) utfCutsCard

/-- THE TIED CARD OF 'surtitlelaw1.UtfRunes'. -/
def utfRunesCard : Claim7 := { stood := { row := utfRunesRow, standIns := [], harness := (true, "9572992923a927f83896c36c3a47adc9357751acfebccc369600a6ff0e063f16"), looks := false }, kinds := [], alts := [], laidByText := true, laidKinds := [.data, .pinned], laidTests := true, laidLooks := .later }
def UtfRunesCardSaid : Prop := Claim7.holds Tryd.pinned (.plain (OpenSpec.ofChange utfRunesSpec)) utfRunesCard

/-- THE TIED CARD OF 'surtitlelaw1.UtfTexts'. -/
def utfTextsCard : Claim7 := { stood := { row := utfTextsRow, standIns := [], harness := (true, "9572992923a927f83896c36c3a47adc9357751acfebccc369600a6ff0e063f16"), looks := false }, kinds := [], alts := [], laidByText := true, laidKinds := [.data, .pinned], laidTests := true, laidLooks := .later }
def UtfTextsCardSaid : Prop := Claim7.holds Tryd.pinned (.plain (OpenSpec.ofChange utfTextsSpec)) utfTextsCard

/-- THE TIED CARD OF 'surtitlelaw1.UtfMelts'. -/
def utfMeltsCard : Claim7 := { stood := { row := utfMeltsRow, standIns := [], harness := (true, "9572992923a927f83896c36c3a47adc9357751acfebccc369600a6ff0e063f16"), looks := false }, kinds := [], alts := [], laidByText := true, laidKinds := [.data, .pinned], laidTests := true, laidLooks := .later }
def UtfMeltsCardSaid : Prop := Claim7.holds Tryd.pinned (.plain (OpenSpec.ofChange utfMeltsSpec)) utfMeltsCard

/-- THE TIED CARD OF 'surtitlelaw1.UtfPieces'. -/
def utfPiecesCard : Claim7 := { stood := { row := utfPiecesRow, standIns := [], harness := (true, "9572992923a927f83896c36c3a47adc9357751acfebccc369600a6ff0e063f16"), looks := false }, kinds := [], alts := [], laidByText := true, laidKinds := [.data, .pinned], laidTests := true, laidLooks := .later }
def UtfPiecesCardSaid : Prop := Claim7.holds Tryd.pinned (.plain (OpenSpec.ofChange utfPiecesSpec)) utfPiecesCard

/-- THE TIED CARD OF 'surtitlelaw1.UtfParts'. -/
def utfPartsCard : Claim7 := { stood := { row := utfPartsRow, standIns := [], harness := (true, "9572992923a927f83896c36c3a47adc9357751acfebccc369600a6ff0e063f16"), looks := false }, kinds := [], alts := [], laidByText := true, laidKinds := [.data, .pinned], laidTests := true, laidLooks := .later }
def UtfPartsCardSaid : Prop := Claim7.holds Tryd.pinned (.plain (OpenSpec.ofChange utfPartsSpec)) utfPartsCard

/-- THE TIED CARD OF 'surtitlelaw1.UtfBack'. -/
def utfBackCard : Claim7 := { stood := { row := utfBackRow, standIns := [], harness := (true, "9572992923a927f83896c36c3a47adc9357751acfebccc369600a6ff0e063f16"), looks := false }, kinds := [], alts := [], laidByText := true, laidKinds := [.data, .pinned], laidTests := true, laidLooks := .later }
def UtfBackCardSaid : Prop := Claim7.holds Tryd.pinned (.plain (OpenSpec.ofChange utfBackSpec)) utfBackCard

/-- THE TIED CARD OF 'surtitlelaw1.UtfCutOf'. -/
def utfCutOfCard : Claim7 := { stood := { row := utfCutOfRow, standIns := [], harness := (true, "9572992923a927f83896c36c3a47adc9357751acfebccc369600a6ff0e063f16"), looks := false }, kinds := [], alts := [], laidByText := true, laidKinds := [.data, .pinned], laidTests := true, laidLooks := .later }
def UtfCutOfCardSaid : Prop := Claim7.holds Tryd.pinned (.plain (OpenSpec.ofChange utfCutOfSpec)) utfCutOfCard

/-- THE TIED CARD OF 'surtitlelaw1.UtfRepairs'. -/
def utfRepairsCard : Claim7 := { stood := { row := utfRepairsRow, standIns := [], harness := (true, "9572992923a927f83896c36c3a47adc9357751acfebccc369600a6ff0e063f16"), looks := false }, kinds := [], alts := [], laidByText := true, laidKinds := [.data, .pinned], laidTests := true, laidLooks := .later }
def UtfRepairsCardSaid : Prop := Claim7.holds Tryd.pinned (.plain (OpenSpec.ofChange utfRepairsSpec)) utfRepairsCard

/-- THE TIED CARD OF 'surtitlelaw1.UtfStream'. -/
def utfStreamCard : Claim7 := { stood := { row := utfStreamRow, standIns := [], harness := (true, "9572992923a927f83896c36c3a47adc9357751acfebccc369600a6ff0e063f16"), looks := false }, kinds := [], alts := [], laidByText := true, laidKinds := [.data, .pinned], laidTests := true, laidLooks := .later }
def UtfStreamCardSaid : Prop := Claim7.holds Tryd.pinned (.plain (OpenSpec.ofChange utfStreamSpec)) utfStreamCard

/-- THE TIED CARD OF 'surtitlelaw1.UtfSeams'. -/
def utfSeamsCard : Claim7 := { stood := { row := utfSeamsRow, standIns := [], harness := (true, "9572992923a927f83896c36c3a47adc9357751acfebccc369600a6ff0e063f16"), looks := false }, kinds := [], alts := [], laidByText := true, laidKinds := [.data, .pinned], laidTests := true, laidLooks := .later }
def UtfSeamsCardSaid : Prop := Claim7.holds Tryd.pinned (.plain (OpenSpec.ofChange utfSeamsSpec)) utfSeamsCard

/-- THE TIED CARD OF 'surtitlelaw1.UtfSeqs'. -/
def utfSeqsCard : Claim7 := { stood := { row := utfSeqsRow, standIns := [], harness := (true, "9572992923a927f83896c36c3a47adc9357751acfebccc369600a6ff0e063f16"), looks := false }, kinds := [], alts := [], laidByText := true, laidKinds := [.data, .pinned], laidTests := true, laidLooks := .later }
def UtfSeqsCardSaid : Prop := Claim7.holds Tryd.pinned (.plain (OpenSpec.ofChange utfSeqsSpec)) utfSeqsCard

/-- THE TIED CARD OF 'surtitlelaw1.UtfOwn'. -/
def utfOwnCard : Claim7 := { stood := { row := utfOwnRow, standIns := [], harness := (true, "9572992923a927f83896c36c3a47adc9357751acfebccc369600a6ff0e063f16"), looks := false }, kinds := [], alts := [], laidByText := true, laidKinds := [.data, .pinned], laidTests := true, laidLooks := .later }
def UtfOwnCardSaid : Prop := Claim7.holds Tryd.pinned (.plain (OpenSpec.ofChange utfOwnSpec)) utfOwnCard

/-- THE SECOND FORM's CARD OF 'surtitlelaw1.UtfSigns'. -/
def utfSignsUptoCard : Claim7 := { stood := { row := utfSignsUptoRow, standIns := [], harness := (true, "9572992923a927f83896c36c3a47adc9357751acfebccc369600a6ff0e063f16"), looks := false }, kinds := [], alts := [], laidByText := true, laidKinds := [.data, .pinned], laidTests := true, laidLooks := .later }
def UtfSignsUptoCardSaid : Prop := Claim7.holds Tryd.pinned (.plain (OpenSpec.upto utfSignsSpec)) utfSignsUptoCard

/-- THE SECOND FORM's CARD OF 'surtitlelaw1.UtfPlaces'. -/
def utfPlacesUptoCard : Claim7 := { stood := { row := utfPlacesUptoRow, standIns := [], harness := (true, "9572992923a927f83896c36c3a47adc9357751acfebccc369600a6ff0e063f16"), looks := false }, kinds := [], alts := [], laidByText := true, laidKinds := [.data, .pinned], laidTests := true, laidLooks := .later }
def UtfPlacesUptoCardSaid : Prop := Claim7.holds Tryd.pinned (.plain (OpenSpec.upto utfPlacesSpec)) utfPlacesUptoCard

/-- THE SECOND FORM's CARD OF 'surtitlelaw1.UtfCuts'. -/
def utfCutsUptoCard : Claim7 := { stood := { row := utfCutsUptoRow, standIns := [], harness := (true, "9572992923a927f83896c36c3a47adc9357751acfebccc369600a6ff0e063f16"), looks := false }, kinds := [], alts := [], laidByText := true, laidKinds := [.data, .pinned], laidTests := true, laidLooks := .later }
def UtfCutsUptoCardSaid : Prop := Claim7.holds Tryd.pinned (.plain (OpenSpec.upto utfCutsSpec)) utfCutsUptoCard

/-- THE SECOND FORM's CARD OF 'surtitlelaw1.UtfRunes'. -/
def utfRunesUptoCard : Claim7 := { stood := { row := utfRunesUptoRow, standIns := [], harness := (true, "9572992923a927f83896c36c3a47adc9357751acfebccc369600a6ff0e063f16"), looks := false }, kinds := [], alts := [], laidByText := true, laidKinds := [.data, .pinned], laidTests := true, laidLooks := .later }
def UtfRunesUptoCardSaid : Prop := Claim7.holds Tryd.pinned (.plain (OpenSpec.upto utfRunesSpec)) utfRunesUptoCard

/-- THE SECOND FORM's CARD OF 'surtitlelaw1.UtfTexts'. -/
def utfTextsUptoCard : Claim7 := { stood := { row := utfTextsUptoRow, standIns := [], harness := (true, "9572992923a927f83896c36c3a47adc9357751acfebccc369600a6ff0e063f16"), looks := false }, kinds := [], alts := [], laidByText := true, laidKinds := [.data, .pinned], laidTests := true, laidLooks := .later }
def UtfTextsUptoCardSaid : Prop := Claim7.holds Tryd.pinned (.plain (OpenSpec.upto utfTextsSpec)) utfTextsUptoCard

/-- THE SECOND FORM's CARD OF 'surtitlelaw1.UtfMelts'. -/
def utfMeltsUptoCard : Claim7 := { stood := { row := utfMeltsUptoRow, standIns := [], harness := (true, "9572992923a927f83896c36c3a47adc9357751acfebccc369600a6ff0e063f16"), looks := false }, kinds := [], alts := [], laidByText := true, laidKinds := [.data, .pinned], laidTests := true, laidLooks := .later }
def UtfMeltsUptoCardSaid : Prop := Claim7.holds Tryd.pinned (.plain (OpenSpec.upto utfMeltsSpec)) utfMeltsUptoCard

/-- THE SECOND FORM's CARD OF 'surtitlelaw1.UtfPieces'. -/
def utfPiecesUptoCard : Claim7 := { stood := { row := utfPiecesUptoRow, standIns := [], harness := (true, "9572992923a927f83896c36c3a47adc9357751acfebccc369600a6ff0e063f16"), looks := false }, kinds := [], alts := [], laidByText := true, laidKinds := [.data, .pinned], laidTests := true, laidLooks := .later }
def UtfPiecesUptoCardSaid : Prop := Claim7.holds Tryd.pinned (.plain (OpenSpec.upto utfPiecesSpec)) utfPiecesUptoCard

/-- THE SECOND FORM's CARD OF 'surtitlelaw1.UtfParts'. -/
def utfPartsUptoCard : Claim7 := { stood := { row := utfPartsUptoRow, standIns := [], harness := (true, "9572992923a927f83896c36c3a47adc9357751acfebccc369600a6ff0e063f16"), looks := false }, kinds := [], alts := [], laidByText := true, laidKinds := [.data, .pinned], laidTests := true, laidLooks := .later }
def UtfPartsUptoCardSaid : Prop := Claim7.holds Tryd.pinned (.plain (OpenSpec.upto utfPartsSpec)) utfPartsUptoCard

/-- THE SECOND FORM's CARD OF 'surtitlelaw1.UtfBack'. -/
def utfBackUptoCard : Claim7 := { stood := { row := utfBackUptoRow, standIns := [], harness := (true, "9572992923a927f83896c36c3a47adc9357751acfebccc369600a6ff0e063f16"), looks := false }, kinds := [], alts := [], laidByText := true, laidKinds := [.data, .pinned], laidTests := true, laidLooks := .later }
def UtfBackUptoCardSaid : Prop := Claim7.holds Tryd.pinned (.plain (OpenSpec.upto utfBackSpec)) utfBackUptoCard

/-- THE SECOND FORM's CARD OF 'surtitlelaw1.UtfCutOf'. -/
def utfCutOfUptoCard : Claim7 := { stood := { row := utfCutOfUptoRow, standIns := [], harness := (true, "9572992923a927f83896c36c3a47adc9357751acfebccc369600a6ff0e063f16"), looks := false }, kinds := [], alts := [], laidByText := true, laidKinds := [.data, .pinned], laidTests := true, laidLooks := .later }
def UtfCutOfUptoCardSaid : Prop := Claim7.holds Tryd.pinned (.plain (OpenSpec.upto utfCutOfSpec)) utfCutOfUptoCard

/-- THE SECOND FORM's CARD OF 'surtitlelaw1.UtfRepairs'. -/
def utfRepairsUptoCard : Claim7 := { stood := { row := utfRepairsUptoRow, standIns := [], harness := (true, "9572992923a927f83896c36c3a47adc9357751acfebccc369600a6ff0e063f16"), looks := false }, kinds := [], alts := [], laidByText := true, laidKinds := [.data, .pinned], laidTests := true, laidLooks := .later }
def UtfRepairsUptoCardSaid : Prop := Claim7.holds Tryd.pinned (.plain (OpenSpec.upto utfRepairsSpec)) utfRepairsUptoCard

/-- THE SECOND FORM's CARD OF 'surtitlelaw1.UtfStream'. -/
def utfStreamUptoCard : Claim7 := { stood := { row := utfStreamUptoRow, standIns := [], harness := (true, "9572992923a927f83896c36c3a47adc9357751acfebccc369600a6ff0e063f16"), looks := false }, kinds := [], alts := [], laidByText := true, laidKinds := [.data, .pinned], laidTests := true, laidLooks := .later }
def UtfStreamUptoCardSaid : Prop := Claim7.holds Tryd.pinned (.plain (OpenSpec.upto utfStreamSpec)) utfStreamUptoCard

/-- THE SECOND FORM's CARD OF 'surtitlelaw1.UtfSeams'. -/
def utfSeamsUptoCard : Claim7 := { stood := { row := utfSeamsUptoRow, standIns := [], harness := (true, "9572992923a927f83896c36c3a47adc9357751acfebccc369600a6ff0e063f16"), looks := false }, kinds := [], alts := [], laidByText := true, laidKinds := [.data, .pinned], laidTests := true, laidLooks := .later }
def UtfSeamsUptoCardSaid : Prop := Claim7.holds Tryd.pinned (.plain (OpenSpec.upto utfSeamsSpec)) utfSeamsUptoCard

/-- THE SECOND FORM's CARD OF 'surtitlelaw1.UtfSeqs'. -/
def utfSeqsUptoCard : Claim7 := { stood := { row := utfSeqsUptoRow, standIns := [], harness := (true, "9572992923a927f83896c36c3a47adc9357751acfebccc369600a6ff0e063f16"), looks := false }, kinds := [], alts := [], laidByText := true, laidKinds := [.data, .pinned], laidTests := true, laidLooks := .later }
def UtfSeqsUptoCardSaid : Prop := Claim7.holds Tryd.pinned (.plain (OpenSpec.upto utfSeqsSpec)) utfSeqsUptoCard

/-- THE SECOND FORM's CARD OF 'surtitlelaw1.UtfOwn'. -/
def utfOwnUptoCard : Claim7 := { stood := { row := utfOwnUptoRow, standIns := [], harness := (true, "9572992923a927f83896c36c3a47adc9357751acfebccc369600a6ff0e063f16"), looks := false }, kinds := [], alts := [], laidByText := true, laidKinds := [.data, .pinned], laidTests := true, laidLooks := .later }
def UtfOwnUptoCardSaid : Prop := Claim7.holds Tryd.pinned (.plain (OpenSpec.upto utfOwnSpec)) utfOwnUptoCard
end Rows
end Go.Proofs.YtofhmecbcmahaaaDoor
