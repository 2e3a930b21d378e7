/-
  NARROWER THAN 'FOR EVERY INPUT', by the rows' own cells (each row's printed sentence says how): UtfRepairs: laid · UtfRound: laid · UtfStream: laid · UtfSeams: laid · UtfFiles: laid · UtfSeqs: laid.
  DERIVED. THE GIVEN ROWS OF THIS SEAT. 6 by the template 'for every input the law returns true; each argument reads behind the call as it read before'; 0 by the template 'total and deterministic' (their statements: YtfkoebbpdnleeacDoorTotals.lean).
  GIVEN WITH THE SEED: the statements are not yours to turn. If you find one false, say at which input.
  Laid BY PROGRAM, IN A SANDBOX (cutbox-rows.mjs): the forced cells as the released guide's own fill.sh prints them over the translation 75228612c43ffedd… (all of the seat's roots in one cut). By AI agents, Wed Nov 11 2026. No macro, syntax, notation, axiom, sorry.
-/
import Derived.Test.YtfkoebbpdnleeacDoorChecked
import GoSem.PinnedTables
import GoSem.Claim
import GoSem.ClaimJoined
import GoSem.ClaimMapViews
import Derived.JoinedTies
import Derived.KernelRfl
namespace Go.Proofs.YtfkoebbpdnleeacDoor
/- THE CELL 'sum', in the pinned program and in every row, IS THE sha256 OF THE DUMP (.gsa) THAT YtfkoebbpdnleeacDoorProg.lean LOADS. Nothing in Lean hashes anything: it is a label: what it is worth is what the hold of that sum in a sandbox is worth. -/
noncomputable def Tryd.pinned : Pinned := { name := "ytfkoebbpdnleeacdoor", sum := "75228612c43ffedd7b8b8ecb2260aeb269d6826e20356a3b78eaa80f45ee035f", checked := Tryd.checked }
namespace Rows
def none {H : Type} : Left H := { results := [], args := [] }

/- WHAT THE LISTED PACKAGE-LEVEL VARIABLES READ AS WHEN THE CALL BEGINS. Each datum BY PROGRAM (the guide's laid-datum.mjs) off the statement by which the dump's own 'gosem.cut.vars' lays the variable. In a bare row this is a premise. The card (YtfkoebbpdnleeacDoorCards.lean) ties it to the program's text. -/
def laid_unicode_utf8_acceptRanges {H : Type} : DataW H := .agg [.agg [.lit (.int .u8 128), .lit (.int .u8 191)], .agg [.lit (.int .u8 160), .lit (.int .u8 191)], .agg [.lit (.int .u8 128), .lit (.int .u8 159)], .agg [.lit (.int .u8 144), .lit (.int .u8 191)], .agg [.lit (.int .u8 128), .lit (.int .u8 143)], .agg [.lit (.int .u8 0), .lit (.int .u8 0)], .agg [.lit (.int .u8 0), .lit (.int .u8 0)], .agg [.lit (.int .u8 0), .lit (.int .u8 0)], .agg [.lit (.int .u8 0), .lit (.int .u8 0)], .agg [.lit (.int .u8 0), .lit (.int .u8 0)], .agg [.lit (.int .u8 0), .lit (.int .u8 0)], .agg [.lit (.int .u8 0), .lit (.int .u8 0)], .agg [.lit (.int .u8 0), .lit (.int .u8 0)], .agg [.lit (.int .u8 0), .lit (.int .u8 0)], .agg [.lit (.int .u8 0), .lit (.int .u8 0)], .agg [.lit (.int .u8 0), .lit (.int .u8 0)]]
/-- One of Go's own tables, pinned by name: the form's constant. -/
def laid_unicode_utf8_first : DataW Unit := Go.Pinned.utf8First

/-- 'surtitlelaw1.UtfRepairs': WHATEVER THE INPUT: true; the input reads as it did. -/
def utfRepairsSpec : ChangeSpec := { name := "utfRepairs", fn := fun _ => fun
  | [d] => { results := [.lit (.bool true)], args := [d] }
  | _ => none }
def utfRepairsRow : OpenClaim := { program := "ytfkoebbpdnleeacdoor", sum := "75228612c43ffedd7b8b8ecb2260aeb269d6826e20356a3b78eaa80f45ee035f", func := "surtitle/surtitlelaw1.UtfRepairs", spec := "utfRepairs", inPlace := ["internal/abi.NoEscape"], unfollowed := true, recurses := true, named := ["unicode/utf8.first", "unicode/utf8.acceptRanges"], apart := false, laid := [("unicode/utf8.acceptRanges", laid_unicode_utf8_acceptRanges), ("unicode/utf8.first", laid_unicode_utf8_first)] }
def UtfRepairsSaid : Prop := utfRepairsRow.holds Tryd.pinned (OpenSpec.ofChange utfRepairsSpec)

/-- ITS FALSE NEIGHBOUR: 'it returns false'. Refute it at one input. -/
def utfRepairsWrong : ChangeSpec := { name := "utfRepairs", fn := fun _ => fun
  | [d] => { results := [.lit (.bool false)], args := [d] }
  | _ => none }
def UtfRepairsWrongFalsely : Prop := utfRepairsRow.holds Tryd.pinned (OpenSpec.ofChange utfRepairsWrong)

/-- 'surtitlelaw1.UtfRound': WHATEVER THE INPUT: true; the input reads as it did. -/
def utfRoundSpec : ChangeSpec := { name := "utfRound", fn := fun _ => fun
  | [d] => { results := [.lit (.bool true)], args := [d] }
  | _ => none }
def utfRoundRow : OpenClaim := { program := "ytfkoebbpdnleeacdoor", sum := "75228612c43ffedd7b8b8ecb2260aeb269d6826e20356a3b78eaa80f45ee035f", func := "surtitle/surtitlelaw1.UtfRound", spec := "utfRound", unfollowed := true, recurses := true, named := ["unicode/utf8.first", "unicode/utf8.acceptRanges"], apart := false, laid := [("unicode/utf8.acceptRanges", laid_unicode_utf8_acceptRanges), ("unicode/utf8.first", laid_unicode_utf8_first)] }
def UtfRoundSaid : Prop := utfRoundRow.holds Tryd.pinned (OpenSpec.ofChange utfRoundSpec)

/-- ITS FALSE NEIGHBOUR: 'it returns false'. Refute it at one input. -/
def utfRoundWrong : ChangeSpec := { name := "utfRound", fn := fun _ => fun
  | [d] => { results := [.lit (.bool false)], args := [d] }
  | _ => none }
def UtfRoundWrongFalsely : Prop := utfRoundRow.holds Tryd.pinned (OpenSpec.ofChange utfRoundWrong)

/-- 'surtitlelaw1.UtfStream': WHATEVER THE INPUT: true; the input reads as it did. -/
def utfStreamSpec : ChangeSpec := { name := "utfStream", fn := fun _ => fun
  | [d1, d2] => { results := [.lit (.bool true)], args := [d1, d2] }
  | _ => none }
def utfStreamRow : OpenClaim := { program := "ytfkoebbpdnleeacdoor", sum := "75228612c43ffedd7b8b8ecb2260aeb269d6826e20356a3b78eaa80f45ee035f", func := "surtitle/surtitlelaw1.UtfStream", spec := "utfStream", inPlace := ["internal/abi.NoEscape"], unfollowed := true, recurses := true, named := ["unicode/utf8.first", "unicode/utf8.acceptRanges"], apart := false, laid := [("unicode/utf8.acceptRanges", laid_unicode_utf8_acceptRanges), ("unicode/utf8.first", laid_unicode_utf8_first)] }
def UtfStreamSaid : Prop := utfStreamRow.holds Tryd.pinned (OpenSpec.ofChange utfStreamSpec)

/-- ITS FALSE NEIGHBOUR: 'it returns false'. Refute it at one input. -/
def utfStreamWrong : ChangeSpec := { name := "utfStream", fn := fun _ => fun
  | [d1, d2] => { results := [.lit (.bool false)], args := [d1, d2] }
  | _ => none }
def UtfStreamWrongFalsely : Prop := utfStreamRow.holds Tryd.pinned (OpenSpec.ofChange utfStreamWrong)

/-- 'surtitlelaw1.UtfSeams': WHATEVER THE INPUT: true; the input reads as it did. -/
def utfSeamsSpec : ChangeSpec := { name := "utfSeams", fn := fun _ => fun
  | [d1, d2] => { results := [.lit (.bool true)], args := [d1, d2] }
  | _ => none }
def utfSeamsRow : OpenClaim := { program := "ytfkoebbpdnleeacdoor", sum := "75228612c43ffedd7b8b8ecb2260aeb269d6826e20356a3b78eaa80f45ee035f", func := "surtitle/surtitlelaw1.UtfSeams", spec := "utfSeams", inPlace := ["internal/abi.NoEscape"], unfollowed := true, recurses := true, named := ["unicode/utf8.first", "unicode/utf8.acceptRanges"], apart := false, laid := [("unicode/utf8.acceptRanges", laid_unicode_utf8_acceptRanges), ("unicode/utf8.first", laid_unicode_utf8_first)] }
def UtfSeamsSaid : Prop := utfSeamsRow.holds Tryd.pinned (OpenSpec.ofChange utfSeamsSpec)

/-- ITS FALSE NEIGHBOUR: 'it returns false'. Refute it at one input. -/
def utfSeamsWrong : ChangeSpec := { name := "utfSeams", fn := fun _ => fun
  | [d1, d2] => { results := [.lit (.bool false)], args := [d1, d2] }
  | _ => none }
def UtfSeamsWrongFalsely : Prop := utfSeamsRow.holds Tryd.pinned (OpenSpec.ofChange utfSeamsWrong)

/-- 'surtitlelaw1.UtfFiles': WHATEVER THE INPUT: true; the input reads as it did. -/
def utfFilesSpec : ChangeSpec := { name := "utfFiles", fn := fun _ => fun
  | [d] => { results := [.lit (.bool true)], args := [d] }
  | _ => none }
def utfFilesRow : OpenClaim := { program := "ytfkoebbpdnleeacdoor", sum := "75228612c43ffedd7b8b8ecb2260aeb269d6826e20356a3b78eaa80f45ee035f", func := "surtitle/surtitlelaw1.UtfFiles", spec := "utfFiles", unfollowed := true, recurses := true, named := ["unicode/utf8.first", "unicode/utf8.acceptRanges"], apart := false, laid := [("unicode/utf8.acceptRanges", laid_unicode_utf8_acceptRanges), ("unicode/utf8.first", laid_unicode_utf8_first)] }
def UtfFilesSaid : Prop := utfFilesRow.holds Tryd.pinned (OpenSpec.ofChange utfFilesSpec)

/-- ITS FALSE NEIGHBOUR: 'it returns false'. Refute it at one input. -/
def utfFilesWrong : ChangeSpec := { name := "utfFiles", fn := fun _ => fun
  | [d] => { results := [.lit (.bool false)], args := [d] }
  | _ => none }
def UtfFilesWrongFalsely : Prop := utfFilesRow.holds Tryd.pinned (OpenSpec.ofChange utfFilesWrong)

/-- 'surtitlelaw1.UtfSeqs': WHATEVER THE INPUT: true; the input reads as it did. -/
def utfSeqsSpec : ChangeSpec := { name := "utfSeqs", fn := fun _ => fun
  | [d1, d2] => { results := [.lit (.bool true)], args := [d1, d2] }
  | _ => none }
def utfSeqsRow : OpenClaim := { program := "ytfkoebbpdnleeacdoor", sum := "75228612c43ffedd7b8b8ecb2260aeb269d6826e20356a3b78eaa80f45ee035f", func := "surtitle/surtitlelaw1.UtfSeqs", spec := "utfSeqs", unfollowed := true, recurses := true, named := ["unicode/utf8.first", "unicode/utf8.acceptRanges"], apart := false, laid := [("unicode/utf8.acceptRanges", laid_unicode_utf8_acceptRanges), ("unicode/utf8.first", laid_unicode_utf8_first)] }
def UtfSeqsSaid : Prop := utfSeqsRow.holds Tryd.pinned (OpenSpec.ofChange utfSeqsSpec)

/-- ITS FALSE NEIGHBOUR: 'it returns false'. Refute it at one input. -/
def utfSeqsWrong : ChangeSpec := { name := "utfSeqs", fn := fun _ => fun
  | [d1, d2] => { results := [.lit (.bool false)], args := [d1, d2] }
  | _ => none }
def UtfSeqsWrongFalsely : Prop := utfSeqsRow.holds Tryd.pinned (OpenSpec.ofChange utfSeqsWrong)

/- THE SECOND FORM. 'bulk': how many values and letters a reading holds, each counted each time it is reached (what is shared counts as often as it is met; a slice's spare places count too). A statement '..UptoSaid' is the law's where the arguments, and the package variables that the reading takes, are together of bulk at most 1048576: NARROWER than '..Said'. Prove '..Said' where nothing that the law and all that it calls make is longer than what came in: it says more and counts as full. Else prove '..UptoSaid'. A law counts once. -/
mutual
def uptoBulk {H : Type} : DataW H → Nat
  | .lit (.string bytes) => bytes.length + 1
  | .lit _ => 1
  | .nil => 1
  | .ptr d => uptoBulk d + 1
  | .slice elems spare => uptoBulkAll elems + uptoBulkAll spare + 1
  | .agg parts => uptoBulkAll parts + 1
  | .iface _ d => uptoBulk d + 1
  | .map entries => uptoBulkEntries entries + 1
  | .held _ => 1
def uptoBulkAll {H : Type} : List (DataW H) → Nat
  | [] => 0
  | d :: r => uptoBulk d + uptoBulkAll r
def uptoBulkEntries {H : Type} : List (Lit × DataW H) → Nat
  | [] => 0
  | x :: r => uptoBulkEntry x + uptoBulkEntries r
def uptoBulkEntry {H : Type} : Lit × DataW H → Nat
  | (.string bytes, d) => bytes.length + uptoBulk d + 1
  | (_, d) => uptoBulk d + 1
 end
def uptoSmall : (H : Type) → List (DataW H) → Bool := fun _ ds => decide (uptoBulkAll ds ≤ 1048576)
def OpenSpec.upto (s : _root_.Go.ChangeSpec) : _root_.Go.OpenSpec := { _root_.Go.OpenSpec.ofChange s with cond := some uptoSmall }

/-- 'surtitlelaw1.UtfRepairs', WHERE WHAT IT READS IS OF BULK AT MOST 1048576: true; the input reads as it did. -/
def utfRepairsUptoRow : OpenClaim := { program := "ytfkoebbpdnleeacdoor", sum := "75228612c43ffedd7b8b8ecb2260aeb269d6826e20356a3b78eaa80f45ee035f", func := "surtitle/surtitlelaw1.UtfRepairs", spec := "utfRepairs", inPlace := ["internal/abi.NoEscape"], unfollowed := true, recurses := true, named := ["unicode/utf8.first", "unicode/utf8.acceptRanges"], apart := false, laid := [("unicode/utf8.acceptRanges", laid_unicode_utf8_acceptRanges), ("unicode/utf8.first", laid_unicode_utf8_first)], narrowed := true }
def UtfRepairsUptoSaid : Prop := utfRepairsUptoRow.holds Tryd.pinned (OpenSpec.upto utfRepairsSpec)

/-- 'surtitlelaw1.UtfRound', WHERE WHAT IT READS IS OF BULK AT MOST 1048576: true; the input reads as it did. -/
def utfRoundUptoRow : OpenClaim := { program := "ytfkoebbpdnleeacdoor", sum := "75228612c43ffedd7b8b8ecb2260aeb269d6826e20356a3b78eaa80f45ee035f", func := "surtitle/surtitlelaw1.UtfRound", spec := "utfRound", unfollowed := true, recurses := true, named := ["unicode/utf8.first", "unicode/utf8.acceptRanges"], apart := false, laid := [("unicode/utf8.acceptRanges", laid_unicode_utf8_acceptRanges), ("unicode/utf8.first", laid_unicode_utf8_first)], narrowed := true }
def UtfRoundUptoSaid : Prop := utfRoundUptoRow.holds Tryd.pinned (OpenSpec.upto utfRoundSpec)

/-- 'surtitlelaw1.UtfStream', WHERE WHAT IT READS IS OF BULK AT MOST 1048576: true; the input reads as it did. -/
def utfStreamUptoRow : OpenClaim := { program := "ytfkoebbpdnleeacdoor", sum := "75228612c43ffedd7b8b8ecb2260aeb269d6826e20356a3b78eaa80f45ee035f", func := "surtitle/surtitlelaw1.UtfStream", spec := "utfStream", inPlace := ["internal/abi.NoEscape"], unfollowed := true, recurses := true, named := ["unicode/utf8.first", "unicode/utf8.acceptRanges"], apart := false, laid := [("unicode/utf8.acceptRanges", laid_unicode_utf8_acceptRanges), ("unicode/utf8.first", laid_unicode_utf8_first)], narrowed := true }
def UtfStreamUptoSaid : Prop := utfStreamUptoRow.holds Tryd.pinned (OpenSpec.upto utfStreamSpec)

/-- 'surtitlelaw1.UtfSeams', WHERE WHAT IT READS IS OF BULK AT MOST 1048576: true; the input reads as it did. -/
def utfSeamsUptoRow : OpenClaim := { program := "ytfkoebbpdnleeacdoor", sum := "75228612c43ffedd7b8b8ecb2260aeb269d6826e20356a3b78eaa80f45ee035f", func := "surtitle/surtitlelaw1.UtfSeams", spec := "utfSeams", inPlace := ["internal/abi.NoEscape"], unfollowed := true, recurses := true, named := ["unicode/utf8.first", "unicode/utf8.acceptRanges"], apart := false, laid := [("unicode/utf8.acceptRanges", laid_unicode_utf8_acceptRanges), ("unicode/utf8.first", laid_unicode_utf8_first)], narrowed := true }
def UtfSeamsUptoSaid : Prop := utfSeamsUptoRow.holds Tryd.pinned (OpenSpec.upto utfSeamsSpec)

/-- 'surtitlelaw1.UtfFiles', WHERE WHAT IT READS IS OF BULK AT MOST 1048576: true; the input reads as it did. -/
def utfFilesUptoRow : OpenClaim := { program := "ytfkoebbpdnleeacdoor", sum := "75228612c43ffedd7b8b8ecb2260aeb269d6826e20356a3b78eaa80f45ee035f", func := "surtitle/surtitlelaw1.UtfFiles", spec := "utfFiles", unfollowed := true, recurses := true, named := ["unicode/utf8.first", "unicode/utf8.acceptRanges"], apart := false, laid := [("unicode/utf8.acceptRanges", laid_unicode_utf8_acceptRanges), ("unicode/utf8.first", laid_unicode_utf8_first)], narrowed := true }
def UtfFilesUptoSaid : Prop := utfFilesUptoRow.holds Tryd.pinned (OpenSpec.upto utfFilesSpec)

/-- 'surtitlelaw1.UtfSeqs', WHERE WHAT IT READS IS OF BULK AT MOST 1048576: true; the input reads as it did. -/
def utfSeqsUptoRow : OpenClaim := { program := "ytfkoebbpdnleeacdoor", sum := "75228612c43ffedd7b8b8ecb2260aeb269d6826e20356a3b78eaa80f45ee035f", func := "surtitle/surtitlelaw1.UtfSeqs", spec := "utfSeqs", unfollowed := true, recurses := true, named := ["unicode/utf8.first", "unicode/utf8.acceptRanges"], apart := false, laid := [("unicode/utf8.acceptRanges", laid_unicode_utf8_acceptRanges), ("unicode/utf8.first", laid_unicode_utf8_first)], narrowed := true }
def UtfSeqsUptoSaid : Prop := utfSeqsUptoRow.holds Tryd.pinned (OpenSpec.upto utfSeqsSpec)

end Rows
end Go.Proofs.YtfkoebbpdnleeacDoor
