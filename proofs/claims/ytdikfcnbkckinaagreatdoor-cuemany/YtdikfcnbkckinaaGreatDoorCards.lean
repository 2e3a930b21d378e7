/-
  DERIVED. GIVEN WITH THE SEED: THE CARDS: each row of YtdikfcnbkckinaaGreatDoorRows.lean that lists a variable, with what it lists TIED to the program's text (the seventh form; the later family's looks); each row that meets fmt, with fmt's text TOLD by the authors' own Lean function (tested against real Go, not proved from fmt's source: count such statements apart). THE CARD IS WHAT COUNTS. Prove the row's statement (the work); the ties are given (YtdikfcnbkckinaaGreatDoorTie.lean); close each card by the builder's one call (the guide's Derived/Test/ToyasCard.lean, 'card_holds'). Laid BY PROGRAM, IN A SANDBOX (cutbox-door.mjs). By AI agents, Wed Nov 11 2026. No macro, syntax, notation, axiom, sorry.
-/
import Derived.Test.YtdikfcnbkckinaaGreatDoorRows
import GoSem.ClaimSeven
namespace Go.Proofs.YtdikfcnbkckinaaGreatDoor
namespace Rows

/-- THE TIED CARD OF 'surtitlelaw9.CueMany'. -/
def cueManyCard : Claim7 := { stood := { row := cueManyRow, standIns := [], harness := (true, "1318fb767121c7b384f019ef54f13a1cea95604715ced9112b9eef9e1871155e"), looks := true }, kinds := [], alts := [], laidByText := true, laidKinds := [.handle], laidTests := true, laidLooks := .later }
def CueManyCardSaid : Prop := Claim7.holds Tryz.pinned (.plain (OpenSpec.ofChange cueManySpec)) cueManyCard

/-- THE SECOND FORM's CARD OF 'surtitlelaw9.CueMany'. -/
def cueManyUptoCard : Claim7 := { stood := { row := cueManyUptoRow, standIns := [], harness := (true, "1318fb767121c7b384f019ef54f13a1cea95604715ced9112b9eef9e1871155e"), looks := true }, kinds := [], alts := [], laidByText := true, laidKinds := [.handle], laidTests := true, laidLooks := .later }
def CueManyUptoCardSaid : Prop := Claim7.holds Tryz.pinned (.plain (OpenSpec.upto cueManySpec)) cueManyUptoCard
end Rows
end Go.Proofs.YtdikfcnbkckinaaGreatDoor
