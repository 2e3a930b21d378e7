/-
  DERIVED. GIVEN WITH THE SEED: THE CARDS: each row of YtkamjlpnenldbaaGreatDoorRows.lean that lists a variable, with what it lists TIED to the program's text (the seventh form; the later family's looks); each row that meets fmt, with fmt's text TOLD by the authors' own Lean function (tested against real Go, not proved from fmt's source: count such statements apart). THE CARD IS WHAT COUNTS. Prove the row's statement (the work); the ties are given (YtkamjlpnenldbaaGreatDoorTie.lean); close each card by the builder's one call (the guide's Derived/Test/ToyasCard.lean, 'card_holds'). Laid BY PROGRAM, IN A SANDBOX (cutbox-door.mjs). By AI agents, Wed Nov 11 2026. No macro, syntax, notation, axiom, sorry.
-/
import Derived.Test.YtkamjlpnenldbaaGreatDoorRows
import GoSem.ClaimSeven
namespace Go.Proofs.YtkamjlpnenldbaaGreatDoor
namespace Rows

/-- THE TIED CARD OF 'surtitlelaw7.StyleNormal'. -/
def styleNormalCard : Claim7 := { stood := { row := styleNormalRow, standIns := [], harness := (true, "52634798bbce8d73447db0d5ee4996e8ce211ef1fd1ea04b4cb224b75271b4e4"), looks := false }, kinds := [], alts := [], laidByText := true, laidKinds := [.data, .pinned], laidTests := true, laidLooks := .later }
def StyleNormalCardSaid : Prop := Claim7.holds Tryz.pinned (.plain (OpenSpec.ofChange styleNormalSpec)) styleNormalCard

/-- THE TIED CARD OF 'surtitlelaw7.StyleRuns'. -/
def styleRunsCard : Claim7 := { stood := { row := styleRunsRow, standIns := [], harness := (true, "52634798bbce8d73447db0d5ee4996e8ce211ef1fd1ea04b4cb224b75271b4e4"), looks := false }, kinds := [], alts := [], laidByText := true, laidKinds := [.data, .pinned], laidTests := true, laidLooks := .later }
def StyleRunsCardSaid : Prop := Claim7.holds Tryz.pinned (.plain (OpenSpec.ofChange styleRunsSpec)) styleRunsCard

/-- THE SECOND FORM's CARD OF 'surtitlelaw7.StyleNormal'. -/
def styleNormalUptoCard : Claim7 := { stood := { row := styleNormalUptoRow, standIns := [], harness := (true, "52634798bbce8d73447db0d5ee4996e8ce211ef1fd1ea04b4cb224b75271b4e4"), looks := false }, kinds := [], alts := [], laidByText := true, laidKinds := [.data, .pinned], laidTests := true, laidLooks := .later }
def StyleNormalUptoCardSaid : Prop := Claim7.holds Tryz.pinned (.plain (OpenSpec.upto styleNormalSpec)) styleNormalUptoCard

/-- THE SECOND FORM's CARD OF 'surtitlelaw7.StyleRuns'. -/
def styleRunsUptoCard : Claim7 := { stood := { row := styleRunsUptoRow, standIns := [], harness := (true, "52634798bbce8d73447db0d5ee4996e8ce211ef1fd1ea04b4cb224b75271b4e4"), looks := false }, kinds := [], alts := [], laidByText := true, laidKinds := [.data, .pinned], laidTests := true, laidLooks := .later }
def StyleRunsUptoCardSaid : Prop := Claim7.holds Tryz.pinned (.plain (OpenSpec.upto styleRunsSpec)) styleRunsUptoCard
end Rows
end Go.Proofs.YtkamjlpnenldbaaGreatDoor
