/-
  DERIVED. GIVEN WITH THE SEED: THE CARDS: each row of YtoabdhcchegchaaDoorRows.lean that lists a variable, with what it lists TIED to the program's text (the seventh form; the later family's looks); each row that meets fmt, with fmt's text TOLD by the authors' own Lean function (tested against real Go, not proved from fmt's source: count such statements apart). THE CARD IS WHAT COUNTS. Prove the row's statement (the work); the ties are given (YtoabdhcchegchaaDoorTie.lean); close each card by the builder's one call (the guide's Derived/Test/ToyasCard.lean, 'card_holds'). Laid BY PROGRAM, IN A SANDBOX (cutbox-door.mjs). By AI agents, Wed Nov 11 2026. No macro, syntax, notation, axiom, sorry.
-/
import Derived.Test.YtoabdhcchegchaaDoorRows
import GoSem.ClaimSeven
namespace Go.Proofs.YtoabdhcchegchaaDoor
namespace Rows

/-- THE TIED CARD OF 'surtitlelaw4.BidiNames'. -/
def bidiNamesCard : Claim7 := { stood := { row := bidiNamesRow, standIns := [], harness := (true, "51bfbe7e3c60a8c85196a8c84d43050fc4237810b596886f37a8f3082eb34fbe"), looks := false }, kinds := [], alts := [], laidByText := true, laidKinds := [.data, .data, .data, .pinned], laidTests := true, laidLooks := .later }
def BidiNamesCardSaid : Prop := Claim7.holds Tryd.pinned (.plain (OpenSpec.ofChange bidiNamesSpec)) bidiNamesCard

/-- THE TIED CARD OF 'surtitlelaw4.BidiClasses'. -/
def bidiClassesCard : Claim7 := { stood := { row := bidiClassesRow, standIns := [], harness := (true, "51bfbe7e3c60a8c85196a8c84d43050fc4237810b596886f37a8f3082eb34fbe"), looks := false }, kinds := [], alts := [], laidByText := true, laidKinds := [.data, .data, .data, .pinned], laidTests := true, laidLooks := .later }
def BidiClassesCardSaid : Prop := Claim7.holds Tryd.pinned (.plain (OpenSpec.ofChange bidiClassesSpec)) bidiClassesCard

/-- THE TIED CARD OF 'surtitlelaw4.BidiTables'. -/
def bidiTablesCard : Claim7 := { stood := { row := bidiTablesRow, standIns := [], harness := (true, "51bfbe7e3c60a8c85196a8c84d43050fc4237810b596886f37a8f3082eb34fbe"), looks := false }, kinds := [], alts := [], laidByText := true, laidKinds := [.data, .data, .data, .pinned], laidTests := true, laidLooks := .later }
def BidiTablesCardSaid : Prop := Claim7.holds Tryd.pinned (.plain (OpenSpec.ofChange bidiTablesSpec)) bidiTablesCard

/-- THE TIED CARD OF 'surtitlelaw4.BidiOrders'. -/
def bidiOrdersCard : Claim7 := { stood := { row := bidiOrdersRow, standIns := [], harness := (true, "51bfbe7e3c60a8c85196a8c84d43050fc4237810b596886f37a8f3082eb34fbe"), looks := false }, kinds := [], alts := [], laidByText := true, laidKinds := [.data, .data, .data, .pinned], laidTests := true, laidLooks := .later }
def BidiOrdersCardSaid : Prop := Claim7.holds Tryd.pinned (.plain (OpenSpec.ofChange bidiOrdersSpec)) bidiOrdersCard

/-- THE TIED CARD OF 'surtitlelaw4.BidiPermutes'. -/
def bidiPermutesCard : Claim7 := { stood := { row := bidiPermutesRow, standIns := [], harness := (true, "51bfbe7e3c60a8c85196a8c84d43050fc4237810b596886f37a8f3082eb34fbe"), looks := false }, kinds := [], alts := [], laidByText := true, laidKinds := [.data, .data, .data, .pinned], laidTests := true, laidLooks := .later }
def BidiPermutesCardSaid : Prop := Claim7.holds Tryd.pinned (.plain (OpenSpec.ofChange bidiPermutesSpec)) bidiPermutesCard

/-- THE SECOND FORM's CARD OF 'surtitlelaw4.BidiNames'. -/
def bidiNamesUptoCard : Claim7 := { stood := { row := bidiNamesUptoRow, standIns := [], harness := (true, "51bfbe7e3c60a8c85196a8c84d43050fc4237810b596886f37a8f3082eb34fbe"), looks := false }, kinds := [], alts := [], laidByText := true, laidKinds := [.data, .data, .data, .pinned], laidTests := true, laidLooks := .later }
def BidiNamesUptoCardSaid : Prop := Claim7.holds Tryd.pinned (.plain (OpenSpec.upto bidiNamesSpec)) bidiNamesUptoCard

/-- THE SECOND FORM's CARD OF 'surtitlelaw4.BidiClasses'. -/
def bidiClassesUptoCard : Claim7 := { stood := { row := bidiClassesUptoRow, standIns := [], harness := (true, "51bfbe7e3c60a8c85196a8c84d43050fc4237810b596886f37a8f3082eb34fbe"), looks := false }, kinds := [], alts := [], laidByText := true, laidKinds := [.data, .data, .data, .pinned], laidTests := true, laidLooks := .later }
def BidiClassesUptoCardSaid : Prop := Claim7.holds Tryd.pinned (.plain (OpenSpec.upto bidiClassesSpec)) bidiClassesUptoCard

/-- THE SECOND FORM's CARD OF 'surtitlelaw4.BidiTables'. -/
def bidiTablesUptoCard : Claim7 := { stood := { row := bidiTablesUptoRow, standIns := [], harness := (true, "51bfbe7e3c60a8c85196a8c84d43050fc4237810b596886f37a8f3082eb34fbe"), looks := false }, kinds := [], alts := [], laidByText := true, laidKinds := [.data, .data, .data, .pinned], laidTests := true, laidLooks := .later }
def BidiTablesUptoCardSaid : Prop := Claim7.holds Tryd.pinned (.plain (OpenSpec.upto bidiTablesSpec)) bidiTablesUptoCard

/-- THE SECOND FORM's CARD OF 'surtitlelaw4.BidiOrders'. -/
def bidiOrdersUptoCard : Claim7 := { stood := { row := bidiOrdersUptoRow, standIns := [], harness := (true, "51bfbe7e3c60a8c85196a8c84d43050fc4237810b596886f37a8f3082eb34fbe"), looks := false }, kinds := [], alts := [], laidByText := true, laidKinds := [.data, .data, .data, .pinned], laidTests := true, laidLooks := .later }
def BidiOrdersUptoCardSaid : Prop := Claim7.holds Tryd.pinned (.plain (OpenSpec.upto bidiOrdersSpec)) bidiOrdersUptoCard

/-- THE SECOND FORM's CARD OF 'surtitlelaw4.BidiPermutes'. -/
def bidiPermutesUptoCard : Claim7 := { stood := { row := bidiPermutesUptoRow, standIns := [], harness := (true, "51bfbe7e3c60a8c85196a8c84d43050fc4237810b596886f37a8f3082eb34fbe"), looks := false }, kinds := [], alts := [], laidByText := true, laidKinds := [.data, .data, .data, .pinned], laidTests := true, laidLooks := .later }
def BidiPermutesUptoCardSaid : Prop := Claim7.holds Tryd.pinned (.plain (OpenSpec.upto bidiPermutesSpec)) bidiPermutesUptoCard
end Rows
end Go.Proofs.YtoabdhcchegchaaDoor
