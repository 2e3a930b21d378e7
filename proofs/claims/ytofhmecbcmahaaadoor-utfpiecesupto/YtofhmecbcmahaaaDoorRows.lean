/-
  NARROWER THAN 'FOR EVERY INPUT', by the rows' own cells (each row's printed sentence says how): UtfSigns: laid · UtfPlaces: laid · UtfCuts: laid · UtfRunes: laid · UtfTexts: laid · UtfMelts: laid · UtfPieces: laid · UtfParts: laid · UtfBack: laid · UtfCutOf: laid · UtfRepairs: laid · UtfStream: laid · UtfSeams: laid · UtfSeqs: laid · UtfOwn: laid.
  DERIVED. THE GIVEN ROWS OF THIS SEAT. 15 by the template 'for every input the law returns true; each argument reads behind the call as it read before'; 0 by the template 'total and deterministic' (their statements: YtofhmecbcmahaaaDoorTotals.lean).
  GIVEN WITH THE SEED: the statements are not yours to turn. If you find one false, say at which input.
  Laid BY PROGRAM, IN A SANDBOX (cutbox-rows.mjs): the forced cells as the released guide's own fill.sh prints them over the translation 20e2388edd0b58bc… (all of the seat's roots in one cut). By AI agents, Wed Nov 11 2026. No macro, syntax, notation, axiom, sorry.
-/
import Derived.Test.YtofhmecbcmahaaaDoorChecked
import GoSem.PinnedTables
import GoSem.Claim
import GoSem.ClaimJoined
import GoSem.ClaimMapViews
import Derived.JoinedTies
import Derived.KernelRfl
namespace Go.Proofs.YtofhmecbcmahaaaDoor
/- THE CELL 'sum', in the pinned program and in every row, IS THE sha256 OF THE DUMP (.gsa) THAT YtofhmecbcmahaaaDoorProg.lean LOADS. Nothing in Lean hashes anything: it is a label: what it is worth is what the hold of that sum in a sandbox is worth. -/
noncomputable def Tryd.pinned : Pinned := { name := "ytofhmecbcmahaaadoor", sum := "20e2388edd0b58bc3dd5c847fb1d8ac48081328b5be1aa06ec30eb62f45876de", checked := Tryd.checked }
namespace Rows
def none {H : Type} : Left H := { results := [], args := [] }

/- WHAT THE LISTED PACKAGE-LEVEL VARIABLES READ AS WHEN THE CALL BEGINS. Each datum BY PROGRAM (the guide's laid-datum.mjs) off the statement by which the dump's own 'gosem.cut.vars' lays the variable. In a bare row this is a premise. The card (YtofhmecbcmahaaaDoorCards.lean) ties it to the program's text. -/
def laid_unicode_utf8_acceptRanges {H : Type} : DataW H := .agg [.agg [.lit (.int .u8 128), .lit (.int .u8 191)], .agg [.lit (.int .u8 160), .lit (.int .u8 191)], .agg [.lit (.int .u8 128), .lit (.int .u8 159)], .agg [.lit (.int .u8 144), .lit (.int .u8 191)], .agg [.lit (.int .u8 128), .lit (.int .u8 143)], .agg [.lit (.int .u8 0), .lit (.int .u8 0)], .agg [.lit (.int .u8 0), .lit (.int .u8 0)], .agg [.lit (.int .u8 0), .lit (.int .u8 0)], .agg [.lit (.int .u8 0), .lit (.int .u8 0)], .agg [.lit (.int .u8 0), .lit (.int .u8 0)], .agg [.lit (.int .u8 0), .lit (.int .u8 0)], .agg [.lit (.int .u8 0), .lit (.int .u8 0)], .agg [.lit (.int .u8 0), .lit (.int .u8 0)], .agg [.lit (.int .u8 0), .lit (.int .u8 0)], .agg [.lit (.int .u8 0), .lit (.int .u8 0)], .agg [.lit (.int .u8 0), .lit (.int .u8 0)]]
/-- One of Go's own tables, pinned by name: the form's constant. -/
def laid_unicode_utf8_first : DataW Unit := Go.Pinned.utf8First

/-- 'surtitlelaw1.UtfSigns': WHATEVER THE INPUT: true; the input reads as it did. -/
def utfSignsSpec : ChangeSpec := { name := "utfSigns", fn := fun _ => fun
  | [d] => { results := [.lit (.bool true)], args := [d] }
  | _ => none }
def utfSignsRow : OpenClaim := { program := "ytofhmecbcmahaaadoor", sum := "20e2388edd0b58bc3dd5c847fb1d8ac48081328b5be1aa06ec30eb62f45876de", func := "surtitle/surtitlelaw1.UtfSigns", spec := "utfSigns", unfollowed := true, recurses := true, named := ["unicode/utf8.first", "unicode/utf8.acceptRanges"], apart := false, laid := [("unicode/utf8.acceptRanges", laid_unicode_utf8_acceptRanges), ("unicode/utf8.first", laid_unicode_utf8_first)] }
def UtfSignsSaid : Prop := utfSignsRow.holds Tryd.pinned (OpenSpec.ofChange utfSignsSpec)

/-- ITS FALSE NEIGHBOUR: 'it returns false'. Refute it at one input. -/
def utfSignsWrong : ChangeSpec := { name := "utfSigns", fn := fun _ => fun
  | [d] => { results := [.lit (.bool false)], args := [d] }
  | _ => none }
def UtfSignsWrongFalsely : Prop := utfSignsRow.holds Tryd.pinned (OpenSpec.ofChange utfSignsWrong)

/-- 'surtitlelaw1.UtfPlaces': WHATEVER THE INPUT: true; the input reads as it did. -/
def utfPlacesSpec : ChangeSpec := { name := "utfPlaces", fn := fun _ => fun
  | [d1, d2, d3, d4] => { results := [.lit (.bool true)], args := [d1, d2, d3, d4] }
  | _ => none }
def utfPlacesRow : OpenClaim := { program := "ytofhmecbcmahaaadoor", sum := "20e2388edd0b58bc3dd5c847fb1d8ac48081328b5be1aa06ec30eb62f45876de", func := "surtitle/surtitlelaw1.UtfPlaces", spec := "utfPlaces", unfollowed := true, recurses := true, named := ["unicode/utf8.first", "unicode/utf8.acceptRanges"], apart := false, laid := [("unicode/utf8.acceptRanges", laid_unicode_utf8_acceptRanges), ("unicode/utf8.first", laid_unicode_utf8_first)] }
def UtfPlacesSaid : Prop := utfPlacesRow.holds Tryd.pinned (OpenSpec.ofChange utfPlacesSpec)

/-- ITS FALSE NEIGHBOUR: 'it returns false'. Refute it at one input. -/
def utfPlacesWrong : ChangeSpec := { name := "utfPlaces", fn := fun _ => fun
  | [d1, d2, d3, d4] => { results := [.lit (.bool false)], args := [d1, d2, d3, d4] }
  | _ => none }
def UtfPlacesWrongFalsely : Prop := utfPlacesRow.holds Tryd.pinned (OpenSpec.ofChange utfPlacesWrong)

/-- 'surtitlelaw1.UtfCuts': WHATEVER THE INPUT: true; the input reads as it did. -/
def utfCutsSpec : ChangeSpec := { name := "utfCuts", fn := fun _ => fun
  | [d1, d2, d3, d4] => { results := [.lit (.bool true)], args := [d1, d2, d3, d4] }
  | _ => none }
def utfCutsRow : OpenClaim := { program := "ytofhmecbcmahaaadoor", sum := "20e2388edd0b58bc3dd5c847fb1d8ac48081328b5be1aa06ec30eb62f45876de", func := "surtitle/surtitlelaw1.UtfCuts", spec := "utfCuts", unfollowed := true, recurses := true, named := ["unicode/utf8.first", "unicode/utf8.acceptRanges"], apart := false, laid := [("unicode/utf8.acceptRanges", laid_unicode_utf8_acceptRanges), ("unicode/utf8.first", laid_unicode_utf8_first)] }
def UtfCutsSaid : Prop := utfCutsRow.holds Tryd.pinned (OpenSpec.ofChange utfCutsSpec)

/-- ITS FALSE NEIGHBOUR: 'it returns false'. Refute it at one input. -/
def utfCutsWrong : ChangeSpec := { name := "utfCuts", fn := fun _ => fun
  | [d1, d2, d3, d4] => { results := [.lit (.bool false)], args := [d1, d2, d3, d4] }
  | _ => none }
def UtfCutsWrongFalsely : Prop := utfCutsRow.holds Tryd.pinned (OpenSpec.ofChange utfCutsWrong)

/-- 'surtitlelaw1.UtfRunes': WHATEVER THE INPUT: true; the input reads as it did. -/
def utfRunesSpec : ChangeSpec := { name := "utfRunes", fn := fun _ => fun
  | [d] => { results := [.lit (.bool true)], args := [d] }
  | _ => none }
def utfRunesRow : OpenClaim := { program := "ytofhmecbcmahaaadoor", sum := "20e2388edd0b58bc3dd5c847fb1d8ac48081328b5be1aa06ec30eb62f45876de", func := "surtitle/surtitlelaw1.UtfRunes", spec := "utfRunes", inPlace := ["internal/abi.NoEscape"], unfollowed := true, recurses := true, named := ["unicode/utf8.first", "unicode/utf8.acceptRanges"], apart := false, laid := [("unicode/utf8.acceptRanges", laid_unicode_utf8_acceptRanges), ("unicode/utf8.first", laid_unicode_utf8_first)] }
def UtfRunesSaid : Prop := utfRunesRow.holds Tryd.pinned (OpenSpec.ofChange utfRunesSpec)

/-- ITS FALSE NEIGHBOUR: 'it returns false'. Refute it at one input. -/
def utfRunesWrong : ChangeSpec := { name := "utfRunes", fn := fun _ => fun
  | [d] => { results := [.lit (.bool false)], args := [d] }
  | _ => none }
def UtfRunesWrongFalsely : Prop := utfRunesRow.holds Tryd.pinned (OpenSpec.ofChange utfRunesWrong)

/-- 'surtitlelaw1.UtfTexts': WHATEVER THE INPUT: true; the input reads as it did. -/
def utfTextsSpec : ChangeSpec := { name := "utfTexts", fn := fun _ => fun
  | [d] => { results := [.lit (.bool true)], args := [d] }
  | _ => none }
def utfTextsRow : OpenClaim := { program := "ytofhmecbcmahaaadoor", sum := "20e2388edd0b58bc3dd5c847fb1d8ac48081328b5be1aa06ec30eb62f45876de", func := "surtitle/surtitlelaw1.UtfTexts", spec := "utfTexts", unfollowed := true, recurses := true, named := ["unicode/utf8.first", "unicode/utf8.acceptRanges"], apart := false, laid := [("unicode/utf8.acceptRanges", laid_unicode_utf8_acceptRanges), ("unicode/utf8.first", laid_unicode_utf8_first)] }
def UtfTextsSaid : Prop := utfTextsRow.holds Tryd.pinned (OpenSpec.ofChange utfTextsSpec)

/-- ITS FALSE NEIGHBOUR: 'it returns false'. Refute it at one input. -/
def utfTextsWrong : ChangeSpec := { name := "utfTexts", fn := fun _ => fun
  | [d] => { results := [.lit (.bool false)], args := [d] }
  | _ => none }
def UtfTextsWrongFalsely : Prop := utfTextsRow.holds Tryd.pinned (OpenSpec.ofChange utfTextsWrong)

/-- 'surtitlelaw1.UtfMelts': WHATEVER THE INPUT: true; the input reads as it did. -/
def utfMeltsSpec : ChangeSpec := { name := "utfMelts", fn := fun _ => fun
  | [d1, d2] => { results := [.lit (.bool true)], args := [d1, d2] }
  | _ => none }
def utfMeltsRow : OpenClaim := { program := "ytofhmecbcmahaaadoor", sum := "20e2388edd0b58bc3dd5c847fb1d8ac48081328b5be1aa06ec30eb62f45876de", func := "surtitle/surtitlelaw1.UtfMelts", spec := "utfMelts", unfollowed := true, recurses := true, named := ["unicode/utf8.first", "unicode/utf8.acceptRanges"], apart := false, laid := [("unicode/utf8.acceptRanges", laid_unicode_utf8_acceptRanges), ("unicode/utf8.first", laid_unicode_utf8_first)] }
def UtfMeltsSaid : Prop := utfMeltsRow.holds Tryd.pinned (OpenSpec.ofChange utfMeltsSpec)

/-- ITS FALSE NEIGHBOUR: 'it returns false'. Refute it at one input. -/
def utfMeltsWrong : ChangeSpec := { name := "utfMelts", fn := fun _ => fun
  | [d1, d2] => { results := [.lit (.bool false)], args := [d1, d2] }
  | _ => none }
def UtfMeltsWrongFalsely : Prop := utfMeltsRow.holds Tryd.pinned (OpenSpec.ofChange utfMeltsWrong)

/-- 'surtitlelaw1.UtfPieces': WHATEVER THE INPUT: true; the input reads as it did. -/
def utfPiecesSpec : ChangeSpec := { name := "utfPieces", fn := fun _ => fun
  | [d1, d2] => { results := [.lit (.bool true)], args := [d1, d2] }
  | _ => none }
def utfPiecesRow : OpenClaim := { program := "ytofhmecbcmahaaadoor", sum := "20e2388edd0b58bc3dd5c847fb1d8ac48081328b5be1aa06ec30eb62f45876de", func := "surtitle/surtitlelaw1.UtfPieces", spec := "utfPieces", unfollowed := true, recurses := true, named := ["unicode/utf8.first", "unicode/utf8.acceptRanges"], apart := false, laid := [("unicode/utf8.acceptRanges", laid_unicode_utf8_acceptRanges), ("unicode/utf8.first", laid_unicode_utf8_first)] }
def UtfPiecesSaid : Prop := utfPiecesRow.holds Tryd.pinned (OpenSpec.ofChange utfPiecesSpec)

/-- ITS FALSE NEIGHBOUR: 'it returns false'. Refute it at one input. -/
def utfPiecesWrong : ChangeSpec := { name := "utfPieces", fn := fun _ => fun
  | [d1, d2] => { results := [.lit (.bool false)], args := [d1, d2] }
  | _ => none }
def UtfPiecesWrongFalsely : Prop := utfPiecesRow.holds Tryd.pinned (OpenSpec.ofChange utfPiecesWrong)

/-- 'surtitlelaw1.UtfParts': WHATEVER THE INPUT: true; the input reads as it did. -/
def utfPartsSpec : ChangeSpec := { name := "utfParts", fn := fun _ => fun
  | [d] => { results := [.lit (.bool true)], args := [d] }
  | _ => none }
def utfPartsRow : OpenClaim := { program := "ytofhmecbcmahaaadoor", sum := "20e2388edd0b58bc3dd5c847fb1d8ac48081328b5be1aa06ec30eb62f45876de", func := "surtitle/surtitlelaw1.UtfParts", spec := "utfParts", unfollowed := true, recurses := true, named := ["unicode/utf8.first", "unicode/utf8.acceptRanges"], apart := false, laid := [("unicode/utf8.acceptRanges", laid_unicode_utf8_acceptRanges), ("unicode/utf8.first", laid_unicode_utf8_first)] }
def UtfPartsSaid : Prop := utfPartsRow.holds Tryd.pinned (OpenSpec.ofChange utfPartsSpec)

/-- ITS FALSE NEIGHBOUR: 'it returns false'. Refute it at one input. -/
def utfPartsWrong : ChangeSpec := { name := "utfParts", fn := fun _ => fun
  | [d] => { results := [.lit (.bool false)], args := [d] }
  | _ => none }
def UtfPartsWrongFalsely : Prop := utfPartsRow.holds Tryd.pinned (OpenSpec.ofChange utfPartsWrong)

/-- 'surtitlelaw1.UtfBack': WHATEVER THE INPUT: true; the input reads as it did. -/
def utfBackSpec : ChangeSpec := { name := "utfBack", fn := fun _ => fun
  | [d1, d2, d3, d4] => { results := [.lit (.bool true)], args := [d1, d2, d3, d4] }
  | _ => none }
def utfBackRow : OpenClaim := { program := "ytofhmecbcmahaaadoor", sum := "20e2388edd0b58bc3dd5c847fb1d8ac48081328b5be1aa06ec30eb62f45876de", func := "surtitle/surtitlelaw1.UtfBack", spec := "utfBack", unfollowed := true, recurses := true, named := ["unicode/utf8.first", "unicode/utf8.acceptRanges"], apart := false, laid := [("unicode/utf8.acceptRanges", laid_unicode_utf8_acceptRanges), ("unicode/utf8.first", laid_unicode_utf8_first)] }
def UtfBackSaid : Prop := utfBackRow.holds Tryd.pinned (OpenSpec.ofChange utfBackSpec)

/-- ITS FALSE NEIGHBOUR: 'it returns false'. Refute it at one input. -/
def utfBackWrong : ChangeSpec := { name := "utfBack", fn := fun _ => fun
  | [d1, d2, d3, d4] => { results := [.lit (.bool false)], args := [d1, d2, d3, d4] }
  | _ => none }
def UtfBackWrongFalsely : Prop := utfBackRow.holds Tryd.pinned (OpenSpec.ofChange utfBackWrong)

/-- 'surtitlelaw1.UtfCutOf': WHATEVER THE INPUT: true; the input reads as it did. -/
def utfCutOfSpec : ChangeSpec := { name := "utfCutOf", fn := fun _ => fun
  | [d1, d2, d3, d4, d5, d6] => { results := [.lit (.bool true)], args := [d1, d2, d3, d4, d5, d6] }
  | _ => none }
def utfCutOfRow : OpenClaim := { program := "ytofhmecbcmahaaadoor", sum := "20e2388edd0b58bc3dd5c847fb1d8ac48081328b5be1aa06ec30eb62f45876de", func := "surtitle/surtitlelaw1.UtfCutOf", spec := "utfCutOf", unfollowed := true, recurses := true, named := ["unicode/utf8.first", "unicode/utf8.acceptRanges"], apart := false, laid := [("unicode/utf8.acceptRanges", laid_unicode_utf8_acceptRanges), ("unicode/utf8.first", laid_unicode_utf8_first)] }
def UtfCutOfSaid : Prop := utfCutOfRow.holds Tryd.pinned (OpenSpec.ofChange utfCutOfSpec)

/-- ITS FALSE NEIGHBOUR: 'it returns false'. Refute it at one input. -/
def utfCutOfWrong : ChangeSpec := { name := "utfCutOf", fn := fun _ => fun
  | [d1, d2, d3, d4, d5, d6] => { results := [.lit (.bool false)], args := [d1, d2, d3, d4, d5, d6] }
  | _ => none }
def UtfCutOfWrongFalsely : Prop := utfCutOfRow.holds Tryd.pinned (OpenSpec.ofChange utfCutOfWrong)

/-- 'surtitlelaw1.UtfRepairs': WHATEVER THE INPUT: true; the input reads as it did. -/
def utfRepairsSpec : ChangeSpec := { name := "utfRepairs", fn := fun _ => fun
  | [d] => { results := [.lit (.bool true)], args := [d] }
  | _ => none }
def utfRepairsRow : OpenClaim := { program := "ytofhmecbcmahaaadoor", sum := "20e2388edd0b58bc3dd5c847fb1d8ac48081328b5be1aa06ec30eb62f45876de", func := "surtitle/surtitlelaw1.UtfRepairs", spec := "utfRepairs", inPlace := ["internal/abi.NoEscape"], unfollowed := true, recurses := true, named := ["unicode/utf8.first", "unicode/utf8.acceptRanges"], apart := false, laid := [("unicode/utf8.acceptRanges", laid_unicode_utf8_acceptRanges), ("unicode/utf8.first", laid_unicode_utf8_first)] }
def UtfRepairsSaid : Prop := utfRepairsRow.holds Tryd.pinned (OpenSpec.ofChange utfRepairsSpec)

/-- ITS FALSE NEIGHBOUR: 'it returns false'. Refute it at one input. -/
def utfRepairsWrong : ChangeSpec := { name := "utfRepairs", fn := fun _ => fun
  | [d] => { results := [.lit (.bool false)], args := [d] }
  | _ => none }
def UtfRepairsWrongFalsely : Prop := utfRepairsRow.holds Tryd.pinned (OpenSpec.ofChange utfRepairsWrong)

/-- 'surtitlelaw1.UtfStream': WHATEVER THE INPUT: true; the input reads as it did. -/
def utfStreamSpec : ChangeSpec := { name := "utfStream", fn := fun _ => fun
  | [d1, d2] => { results := [.lit (.bool true)], args := [d1, d2] }
  | _ => none }
def utfStreamRow : OpenClaim := { program := "ytofhmecbcmahaaadoor", sum := "20e2388edd0b58bc3dd5c847fb1d8ac48081328b5be1aa06ec30eb62f45876de", func := "surtitle/surtitlelaw1.UtfStream", spec := "utfStream", inPlace := ["internal/abi.NoEscape"], unfollowed := true, recurses := true, named := ["unicode/utf8.first", "unicode/utf8.acceptRanges"], apart := false, laid := [("unicode/utf8.acceptRanges", laid_unicode_utf8_acceptRanges), ("unicode/utf8.first", laid_unicode_utf8_first)] }
def UtfStreamSaid : Prop := utfStreamRow.holds Tryd.pinned (OpenSpec.ofChange utfStreamSpec)

/-- ITS FALSE NEIGHBOUR: 'it returns false'. Refute it at one input. -/
def utfStreamWrong : ChangeSpec := { name := "utfStream", fn := fun _ => fun
  | [d1, d2] => { results := [.lit (.bool false)], args := [d1, d2] }
  | _ => none }
def UtfStreamWrongFalsely : Prop := utfStreamRow.holds Tryd.pinned (OpenSpec.ofChange utfStreamWrong)

/-- 'surtitlelaw1.UtfSeams': WHATEVER THE INPUT: true; the input reads as it did. -/
def utfSeamsSpec : ChangeSpec := { name := "utfSeams", fn := fun _ => fun
  | [d1, d2] => { results := [.lit (.bool true)], args := [d1, d2] }
  | _ => none }
def utfSeamsRow : OpenClaim := { program := "ytofhmecbcmahaaadoor", sum := "20e2388edd0b58bc3dd5c847fb1d8ac48081328b5be1aa06ec30eb62f45876de", func := "surtitle/surtitlelaw1.UtfSeams", spec := "utfSeams", inPlace := ["internal/abi.NoEscape"], unfollowed := true, recurses := true, named := ["unicode/utf8.first", "unicode/utf8.acceptRanges"], apart := false, laid := [("unicode/utf8.acceptRanges", laid_unicode_utf8_acceptRanges), ("unicode/utf8.first", laid_unicode_utf8_first)] }
def UtfSeamsSaid : Prop := utfSeamsRow.holds Tryd.pinned (OpenSpec.ofChange utfSeamsSpec)

/-- ITS FALSE NEIGHBOUR: 'it returns false'. Refute it at one input. -/
def utfSeamsWrong : ChangeSpec := { name := "utfSeams", fn := fun _ => fun
  | [d1, d2] => { results := [.lit (.bool false)], args := [d1, d2] }
  | _ => none }
def UtfSeamsWrongFalsely : Prop := utfSeamsRow.holds Tryd.pinned (OpenSpec.ofChange utfSeamsWrong)

/-- 'surtitlelaw1.UtfSeqs': WHATEVER THE INPUT: true; the input reads as it did. -/
def utfSeqsSpec : ChangeSpec := { name := "utfSeqs", fn := fun _ => fun
  | [d1, d2] => { results := [.lit (.bool true)], args := [d1, d2] }
  | _ => none }
def utfSeqsRow : OpenClaim := { program := "ytofhmecbcmahaaadoor", sum := "20e2388edd0b58bc3dd5c847fb1d8ac48081328b5be1aa06ec30eb62f45876de", func := "surtitle/surtitlelaw1.UtfSeqs", spec := "utfSeqs", unfollowed := true, recurses := true, named := ["unicode/utf8.first", "unicode/utf8.acceptRanges"], apart := false, laid := [("unicode/utf8.acceptRanges", laid_unicode_utf8_acceptRanges), ("unicode/utf8.first", laid_unicode_utf8_first)] }
def UtfSeqsSaid : Prop := utfSeqsRow.holds Tryd.pinned (OpenSpec.ofChange utfSeqsSpec)

/-- ITS FALSE NEIGHBOUR: 'it returns false'. Refute it at one input. -/
def utfSeqsWrong : ChangeSpec := { name := "utfSeqs", fn := fun _ => fun
  | [d1, d2] => { results := [.lit (.bool false)], args := [d1, d2] }
  | _ => none }
def UtfSeqsWrongFalsely : Prop := utfSeqsRow.holds Tryd.pinned (OpenSpec.ofChange utfSeqsWrong)

/-- 'surtitlelaw1.UtfOwn': WHATEVER THE INPUT: true; the input reads as it did. -/
def utfOwnSpec : ChangeSpec := { name := "utfOwn", fn := fun _ => fun
  | [d1, d2] => { results := [.lit (.bool true)], args := [d1, d2] }
  | _ => none }
def utfOwnRow : OpenClaim := { program := "ytofhmecbcmahaaadoor", sum := "20e2388edd0b58bc3dd5c847fb1d8ac48081328b5be1aa06ec30eb62f45876de", func := "surtitle/surtitlelaw1.UtfOwn", spec := "utfOwn", unfollowed := true, recurses := true, named := ["unicode/utf8.first", "unicode/utf8.acceptRanges"], apart := false, laid := [("unicode/utf8.acceptRanges", laid_unicode_utf8_acceptRanges), ("unicode/utf8.first", laid_unicode_utf8_first)] }
def UtfOwnSaid : Prop := utfOwnRow.holds Tryd.pinned (OpenSpec.ofChange utfOwnSpec)

/-- ITS FALSE NEIGHBOUR: 'it returns false'. Refute it at one input. -/
def utfOwnWrong : ChangeSpec := { name := "utfOwn", fn := fun _ => fun
  | [d1, d2] => { results := [.lit (.bool false)], args := [d1, d2] }
  | _ => none }
def UtfOwnWrongFalsely : Prop := utfOwnRow.holds Tryd.pinned (OpenSpec.ofChange utfOwnWrong)

/- THE SECOND FORM. 'bulk': how many values and letters a reading holds, each counted each time it is reached (what is shared counts as often as it is met; a slice's spare places count too). A statement '..UptoSaid' is the law's where the arguments, and the package variables that the reading takes, are together of bulk at most 1048576: NARROWER than '..Said'. Prove '..Said' where nothing that the law and all that it calls make is longer than what came in: it says more and counts as full. Else prove '..UptoSaid'. A law counts once. -/
mutual
def uptoBulk {H : Type} : DataW H → Nat
  | .lit (.string bytes) => bytes.length + 1
  | .lit _ => 1
  | .nil => 1
  | .ptr d => uptoBulk d + 1
  | .slice elems spare => uptoBulkAll elems + uptoBulkAll spare + 1
  | .agg parts => uptoBulkAll parts + 1
  | .iface _ d => uptoBulk d + 1
  | .map entries => uptoBulkEntries entries + 1
  | .held _ => 1
def uptoBulkAll {H : Type} : List (DataW H) → Nat
  | [] => 0
  | d :: r => uptoBulk d + uptoBulkAll r
def uptoBulkEntries {H : Type} : List (Lit × DataW H) → Nat
  | [] => 0
  | x :: r => uptoBulkEntry x + uptoBulkEntries r
def uptoBulkEntry {H : Type} : Lit × DataW H → Nat
  | (.string bytes, d) => bytes.length + uptoBulk d + 1
  | (_, d) => uptoBulk d + 1
 end
def uptoSmall : (H : Type) → List (DataW H) → Bool := fun _ ds => decide (uptoBulkAll ds ≤ 1048576)
def OpenSpec.upto (s : _root_.Go.ChangeSpec) : _root_.Go.OpenSpec := { _root_.Go.OpenSpec.ofChange s with cond := some uptoSmall }

/-- 'surtitlelaw1.UtfSigns', WHERE WHAT IT READS IS OF BULK AT MOST 1048576: true; the input reads as it did. -/
def utfSignsUptoRow : OpenClaim := { program := "ytofhmecbcmahaaadoor", sum := "20e2388edd0b58bc3dd5c847fb1d8ac48081328b5be1aa06ec30eb62f45876de", func := "surtitle/surtitlelaw1.UtfSigns", spec := "utfSigns", unfollowed := true, recurses := true, named := ["unicode/utf8.first", "unicode/utf8.acceptRanges"], apart := false, laid := [("unicode/utf8.acceptRanges", laid_unicode_utf8_acceptRanges), ("unicode/utf8.first", laid_unicode_utf8_first)], narrowed := true }
def UtfSignsUptoSaid : Prop := utfSignsUptoRow.holds Tryd.pinned (OpenSpec.upto utfSignsSpec)

/-- 'surtitlelaw1.UtfPlaces', WHERE WHAT IT READS IS OF BULK AT MOST 1048576: true; the input reads as it did. -/
def utfPlacesUptoRow : OpenClaim := { program := "ytofhmecbcmahaaadoor", sum := "20e2388edd0b58bc3dd5c847fb1d8ac48081328b5be1aa06ec30eb62f45876de", func := "surtitle/surtitlelaw1.UtfPlaces", spec := "utfPlaces", unfollowed := true, recurses := true, named := ["unicode/utf8.first", "unicode/utf8.acceptRanges"], apart := false, laid := [("unicode/utf8.acceptRanges", laid_unicode_utf8_acceptRanges), ("unicode/utf8.first", laid_unicode_utf8_first)], narrowed := true }
def UtfPlacesUptoSaid : Prop := utfPlacesUptoRow.holds Tryd.pinned (OpenSpec.upto utfPlacesSpec)

/-- 'surtitlelaw1.UtfCuts', WHERE WHAT IT READS IS OF BULK AT MOST 1048576: true; the input reads as it did. -/
def utfCutsUptoRow : OpenClaim := { program := "ytofhmecbcmahaaadoor", sum := "20e2388edd0b58bc3dd5c847fb1d8ac48081328b5be1aa06ec30eb62f45876de", func := "surtitle/surtitlelaw1.UtfCuts", spec := "utfCuts", unfollowed := true, recurses := true, named := ["unicode/utf8.first", "unicode/utf8.acceptRanges"], apart := false, laid := [("unicode/utf8.acceptRanges", laid_unicode_utf8_acceptRanges), ("unicode/utf8.first", laid_unicode_utf8_first)], narrowed := true }
def UtfCutsUptoSaid : Prop := utfCutsUptoRow.holds Tryd.pinned (OpenSpec.upto utfCutsSpec)

/-- 'surtitlelaw1.UtfRunes', WHERE WHAT IT READS IS OF BULK AT MOST 1048576: true; the input reads as it did. -/
def utfRunesUptoRow : OpenClaim := { program := "ytofhmecbcmahaaadoor", sum := "20e2388edd0b58bc3dd5c847fb1d8ac48081328b5be1aa06ec30eb62f45876de", func := "surtitle/surtitlelaw1.UtfRunes", spec := "utfRunes", inPlace := ["internal/abi.NoEscape"], unfollowed := true, recurses := true, named := ["unicode/utf8.first", "unicode/utf8.acceptRanges"], apart := false, laid := [("unicode/utf8.acceptRanges", laid_unicode_utf8_acceptRanges), ("unicode/utf8.first", laid_unicode_utf8_first)], narrowed := true }
def UtfRunesUptoSaid : Prop := utfRunesUptoRow.holds Tryd.pinned (OpenSpec.upto utfRunesSpec)

/-- 'surtitlelaw1.UtfTexts', WHERE WHAT IT READS IS OF BULK AT MOST 1048576: true; the input reads as it did. -/
def utfTextsUptoRow : OpenClaim := { program := "ytofhmecbcmahaaadoor", sum := "20e2388edd0b58bc3dd5c847fb1d8ac48081328b5be1aa06ec30eb62f45876de", func := "surtitle/surtitlelaw1.UtfTexts", spec := "utfTexts", unfollowed := true, recurses := true, named := ["unicode/utf8.first", "unicode/utf8.acceptRanges"], apart := false, laid := [("unicode/utf8.acceptRanges", laid_unicode_utf8_acceptRanges), ("unicode/utf8.first", laid_unicode_utf8_first)], narrowed := true }
def UtfTextsUptoSaid : Prop := utfTextsUptoRow.holds Tryd.pinned (OpenSpec.upto utfTextsSpec)

/-- 'surtitlelaw1.UtfMelts', WHERE WHAT IT READS IS OF BULK AT MOST 1048576: true; the input reads as it did. -/
def utfMeltsUptoRow : OpenClaim := { program := "ytofhmecbcmahaaadoor", sum := "20e2388edd0b58bc3dd5c847fb1d8ac48081328b5be1aa06ec30eb62f45876de", func := "surtitle/surtitlelaw1.UtfMelts", spec := "utfMelts", unfollowed := true, recurses := true, named := ["unicode/utf8.first", "unicode/utf8.acceptRanges"], apart := false, laid := [("unicode/utf8.acceptRanges", laid_unicode_utf8_acceptRanges), ("unicode/utf8.first", laid_unicode_utf8_first)], narrowed := true }
def UtfMeltsUptoSaid : Prop := utfMeltsUptoRow.holds Tryd.pinned (OpenSpec.upto utfMeltsSpec)

/-- 'surtitlelaw1.UtfPieces', WHERE WHAT IT READS IS OF BULK AT MOST 1048576: true; the input reads as it did. -/
def utfPiecesUptoRow : OpenClaim := { program := "ytofhmecbcmahaaadoor", sum := "20e2388edd0b58bc3dd5c847fb1d8ac48081328b5be1aa06ec30eb62f45876de", func := "surtitle/surtitlelaw1.UtfPieces", spec := "utfPieces", unfollowed := true, recurses := true, named := ["unicode/utf8.first", "unicode/utf8.acceptRanges"], apart := false, laid := [("unicode/utf8.acceptRanges", laid_unicode_utf8_acceptRanges), ("unicode/utf8.first", laid_unicode_utf8_first)], narrowed := true }
def UtfPiecesUptoSaid : Prop := utfPiecesUptoRow.holds Tryd.pinned (OpenSpec.upto utfPiecesSpec)

/-- 'surtitlelaw1.UtfParts', WHERE WHAT IT READS IS OF BULK AT MOST 1048576: true; the input reads as it did. -/
def utfPartsUptoRow : OpenClaim := { program := "ytofhmecbcmahaaadoor", sum := "20e2388edd0b58bc3dd5c847fb1d8ac48081328b5be1aa06ec30eb62f45876de", func := "surtitle/surtitlelaw1.UtfParts", spec := "utfParts", unfollowed := true, recurses := true, named := ["unicode/utf8.first", "unicode/utf8.acceptRanges"], apart := false, laid := [("unicode/utf8.acceptRanges", laid_unicode_utf8_acceptRanges), ("unicode/utf8.first", laid_unicode_utf8_first)], narrowed := true }
def UtfPartsUptoSaid : Prop := utfPartsUptoRow.holds Tryd.pinned (OpenSpec.upto utfPartsSpec)

/-- 'surtitlelaw1.UtfBack', WHERE WHAT IT READS IS OF BULK AT MOST 1048576: true; the input reads as it did. -/
def utfBackUptoRow : OpenClaim := { program := "ytofhmecbcmahaaadoor", sum := "20e2388edd0b58bc3dd5c847fb1d8ac48081328b5be1aa06ec30eb62f45876de", func := "surtitle/surtitlelaw1.UtfBack", spec := "utfBack", unfollowed := true, recurses := true, named := ["unicode/utf8.first", "unicode/utf8.acceptRanges"], apart := false, laid := [("unicode/utf8.acceptRanges", laid_unicode_utf8_acceptRanges), ("unicode/utf8.first", laid_unicode_utf8_first)], narrowed := true }
def UtfBackUptoSaid : Prop := utfBackUptoRow.holds Tryd.pinned (OpenSpec.upto utfBackSpec)

/-- 'surtitlelaw1.UtfCutOf', WHERE WHAT IT READS IS OF BULK AT MOST 1048576: true; the input reads as it did. -/
def utfCutOfUptoRow : OpenClaim := { program := "ytofhmecbcmahaaadoor", sum := "20e2388edd0b58bc3dd5c847fb1d8ac48081328b5be1aa06ec30eb62f45876de", func := "surtitle/surtitlelaw1.UtfCutOf", spec := "utfCutOf", unfollowed := true, recurses := true, named := ["unicode/utf8.first", "unicode/utf8.acceptRanges"], apart := false, laid := [("unicode/utf8.acceptRanges", laid_unicode_utf8_acceptRanges), ("unicode/utf8.first", laid_unicode_utf8_first)], narrowed := true }
def UtfCutOfUptoSaid : Prop := utfCutOfUptoRow.holds Tryd.pinned (OpenSpec.upto utfCutOfSpec)

/-- 'surtitlelaw1.UtfRepairs', WHERE WHAT IT READS IS OF BULK AT MOST 1048576: true; the input reads as it did. -/
def utfRepairsUptoRow : OpenClaim := { program := "ytofhmecbcmahaaadoor", sum := "20e2388edd0b58bc3dd5c847fb1d8ac48081328b5be1aa06ec30eb62f45876de", func := "surtitle/surtitlelaw1.UtfRepairs", spec := "utfRepairs", inPlace := ["internal/abi.NoEscape"], unfollowed := true, recurses := true, named := ["unicode/utf8.first", "unicode/utf8.acceptRanges"], apart := false, laid := [("unicode/utf8.acceptRanges", laid_unicode_utf8_acceptRanges), ("unicode/utf8.first", laid_unicode_utf8_first)], narrowed := true }
def UtfRepairsUptoSaid : Prop := utfRepairsUptoRow.holds Tryd.pinned (OpenSpec.upto utfRepairsSpec)

/-- 'surtitlelaw1.UtfStream', WHERE WHAT IT READS IS OF BULK AT MOST 1048576: true; the input reads as it did. -/
def utfStreamUptoRow : OpenClaim := { program := "ytofhmecbcmahaaadoor", sum := "20e2388edd0b58bc3dd5c847fb1d8ac48081328b5be1aa06ec30eb62f45876de", func := "surtitle/surtitlelaw1.UtfStream", spec := "utfStream", inPlace := ["internal/abi.NoEscape"], unfollowed := true, recurses := true, named := ["unicode/utf8.first", "unicode/utf8.acceptRanges"], apart := false, laid := [("unicode/utf8.acceptRanges", laid_unicode_utf8_acceptRanges), ("unicode/utf8.first", laid_unicode_utf8_first)], narrowed := true }
def UtfStreamUptoSaid : Prop := utfStreamUptoRow.holds Tryd.pinned (OpenSpec.upto utfStreamSpec)

/-- 'surtitlelaw1.UtfSeams', WHERE WHAT IT READS IS OF BULK AT MOST 1048576: true; the input reads as it did. -/
def utfSeamsUptoRow : OpenClaim := { program := "ytofhmecbcmahaaadoor", sum := "20e2388edd0b58bc3dd5c847fb1d8ac48081328b5be1aa06ec30eb62f45876de", func := "surtitle/surtitlelaw1.UtfSeams", spec := "utfSeams", inPlace := ["internal/abi.NoEscape"], unfollowed := true, recurses := true, named := ["unicode/utf8.first", "unicode/utf8.acceptRanges"], apart := false, laid := [("unicode/utf8.acceptRanges", laid_unicode_utf8_acceptRanges), ("unicode/utf8.first", laid_unicode_utf8_first)], narrowed := true }
def UtfSeamsUptoSaid : Prop := utfSeamsUptoRow.holds Tryd.pinned (OpenSpec.upto utfSeamsSpec)

/-- 'surtitlelaw1.UtfSeqs', WHERE WHAT IT READS IS OF BULK AT MOST 1048576: true; the input reads as it did. -/
def utfSeqsUptoRow : OpenClaim := { program := "ytofhmecbcmahaaadoor", sum := "20e2388edd0b58bc3dd5c847fb1d8ac48081328b5be1aa06ec30eb62f45876de", func := "surtitle/surtitlelaw1.UtfSeqs", spec := "utfSeqs", unfollowed := true, recurses := true, named := ["unicode/utf8.first", "unicode/utf8.acceptRanges"], apart := false, laid := [("unicode/utf8.acceptRanges", laid_unicode_utf8_acceptRanges), ("unicode/utf8.first", laid_unicode_utf8_first)], narrowed := true }
def UtfSeqsUptoSaid : Prop := utfSeqsUptoRow.holds Tryd.pinned (OpenSpec.upto utfSeqsSpec)

/-- 'surtitlelaw1.UtfOwn', WHERE WHAT IT READS IS OF BULK AT MOST 1048576: true; the input reads as it did. -/
def utfOwnUptoRow : OpenClaim := { program := "ytofhmecbcmahaaadoor", sum := "20e2388edd0b58bc3dd5c847fb1d8ac48081328b5be1aa06ec30eb62f45876de", func := "surtitle/surtitlelaw1.UtfOwn", spec := "utfOwn", unfollowed := true, recurses := true, named := ["unicode/utf8.first", "unicode/utf8.acceptRanges"], apart := false, laid := [("unicode/utf8.acceptRanges", laid_unicode_utf8_acceptRanges), ("unicode/utf8.first", laid_unicode_utf8_first)], narrowed := true }
def UtfOwnUptoSaid : Prop := utfOwnUptoRow.holds Tryd.pinned (OpenSpec.upto utfOwnSpec)

end Rows
end Go.Proofs.YtofhmecbcmahaaaDoor
