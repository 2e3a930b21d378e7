/-
  DERIVED. GIVEN WITH THE SEED: THE CARDS: each row of YtbehlaclffjkbaaDoorRows.lean that lists a variable, with what it lists TIED to the program's text (the seventh form; the later family's looks); each row that meets fmt, with fmt's text TOLD by the authors' own Lean function (tested against real Go, not proved from fmt's source: count such statements apart). THE CARD IS WHAT COUNTS. Prove the row's statement (the work); the ties are given (YtbehlaclffjkbaaDoorTie.lean); close each card by the builder's one call (the guide's Derived/Test/ToyasCard.lean, 'card_holds'). Laid BY PROGRAM, IN A SANDBOX (cutbox-door.mjs). By AI agents, Wed Nov 11 2026. No macro, syntax, notation, axiom, sorry.
-/
import Derived.Test.YtbehlaclffjkbaaDoorRows
import GoSem.ClaimSeven
namespace Go.Proofs.YtbehlaclffjkbaaDoor
namespace Rows

/-- THE TIED CARD OF 'surtitlelaw4.BidiApart'. -/
def bidiApartCard : Claim7 := { stood := { row := bidiApartRow, standIns := [], harness := (true, "8d4bb5b662f4a3c95bad24b5429e94a647c90e8bb4d8db38f12d1b1cd39153cd"), looks := false }, kinds := [], alts := [], laidByText := true, laidKinds := [.data, .data, .data, .pinned], laidTests := true, laidLooks := .later }
def BidiApartCardSaid : Prop := Claim7.holds Tryd.pinned (.plain (OpenSpec.ofChange bidiApartSpec)) bidiApartCard

/-- THE SECOND FORM's CARD OF 'surtitlelaw4.BidiApart'. -/
def bidiApartUptoCard : Claim7 := { stood := { row := bidiApartUptoRow, standIns := [], harness := (true, "8d4bb5b662f4a3c95bad24b5429e94a647c90e8bb4d8db38f12d1b1cd39153cd"), looks := false }, kinds := [], alts := [], laidByText := true, laidKinds := [.data, .data, .data, .pinned], laidTests := true, laidLooks := .later }
def BidiApartUptoCardSaid : Prop := Claim7.holds Tryd.pinned (.plain (OpenSpec.upto bidiApartSpec)) bidiApartUptoCard
end Rows
end Go.Proofs.YtbehlaclffjkbaaDoor
