/-
  DERIVED. GIVEN WITH THE SEED: THE CARDS: each row of YtfmofjjcgjogjaaDoorRows.lean that lists a variable, with what it lists TIED to the program's text (the seventh form; the later family's looks); each row that meets fmt, with fmt's text TOLD by the authors' own Lean function (tested against real Go, not proved from fmt's source: count such statements apart). THE CARD IS WHAT COUNTS. Prove the row's statement (the work); the ties are given (YtfmofjjcgjogjaaDoorTie.lean); close each card by the builder's one call (the guide's Derived/Test/ToyasCard.lean, 'card_holds'). Laid BY PROGRAM, IN A SANDBOX (cutbox-door.mjs). By AI agents, Wed Nov 11 2026. No macro, syntax, notation, axiom, sorry.
-/
import Derived.Test.YtfmofjjcgjogjaaDoorRows
import GoSem.ClaimSeven
namespace Go.Proofs.YtfmofjjcgjogjaaDoor
namespace Rows

/-- THE TIED CARD OF 'surtitlelaw2.CellWidths'. -/
def cellWidthsCard : Claim7 := { stood := { row := cellWidthsRow, standIns := [], harness := (true, "6189ac985d53eabea3871109d325f351b0aff41bbeb084f024f9f13fb46a8645"), looks := false }, kinds := [], alts := [], laidByText := true, laidKinds := [.data, .data], laidTests := true, laidLooks := .later }
def CellWidthsCardSaid : Prop := Claim7.holds Tryd.pinned (.plain (OpenSpec.ofChange cellWidthsSpec)) cellWidthsCard

/-- THE TIED CARD OF 'surtitlelaw2.CellRange'. -/
def cellRangeCard : Claim7 := { stood := { row := cellRangeRow, standIns := [], harness := (true, "6189ac985d53eabea3871109d325f351b0aff41bbeb084f024f9f13fb46a8645"), looks := false }, kinds := [], alts := [], laidByText := true, laidKinds := [.data, .data], laidTests := true, laidLooks := .later }
def CellRangeCardSaid : Prop := Claim7.holds Tryd.pinned (.plain (OpenSpec.ofChange cellRangeSpec)) cellRangeCard

/-- THE TIED CARD OF 'surtitlelaw2.CellClusters'. -/
def cellClustersCard : Claim7 := { stood := { row := cellClustersRow, standIns := [], harness := (true, "6189ac985d53eabea3871109d325f351b0aff41bbeb084f024f9f13fb46a8645"), looks := false }, kinds := [], alts := [], laidByText := true, laidKinds := [.data, .data], laidTests := true, laidLooks := .later }
def CellClustersCardSaid : Prop := Claim7.holds Tryd.pinned (.plain (OpenSpec.ofChange cellClustersSpec)) cellClustersCard

/-- THE TIED CARD OF 'surtitlelaw2.CellCuts'. -/
def cellCutsCard : Claim7 := { stood := { row := cellCutsRow, standIns := [], harness := (true, "6189ac985d53eabea3871109d325f351b0aff41bbeb084f024f9f13fb46a8645"), looks := false }, kinds := [], alts := [], laidByText := true, laidKinds := [.data, .data], laidTests := true, laidLooks := .later }
def CellCutsCardSaid : Prop := Claim7.holds Tryd.pinned (.plain (OpenSpec.ofChange cellCutsSpec)) cellCutsCard

/-- THE TIED CARD OF 'surtitlelaw2.CellPlaces'. -/
def cellPlacesCard : Claim7 := { stood := { row := cellPlacesRow, standIns := [], harness := (true, "6189ac985d53eabea3871109d325f351b0aff41bbeb084f024f9f13fb46a8645"), looks := false }, kinds := [], alts := [], laidByText := true, laidKinds := [.data, .data], laidTests := true, laidLooks := .later }
def CellPlacesCardSaid : Prop := Claim7.holds Tryd.pinned (.plain (OpenSpec.ofChange cellPlacesSpec)) cellPlacesCard

/-- THE TIED CARD OF 'surtitlelaw2.CellPads'. -/
def cellPadsCard : Claim7 := { stood := { row := cellPadsRow, standIns := [], harness := (true, "6189ac985d53eabea3871109d325f351b0aff41bbeb084f024f9f13fb46a8645"), looks := false }, kinds := [], alts := [], laidByText := true, laidKinds := [.data, .data], laidTests := true, laidLooks := .later }
def CellPadsCardSaid : Prop := Claim7.holds Tryd.pinned (.plain (OpenSpec.ofChange cellPadsSpec)) cellPadsCard

/-- THE SECOND FORM's CARD OF 'surtitlelaw2.CellWidths'. -/
def cellWidthsUptoCard : Claim7 := { stood := { row := cellWidthsUptoRow, standIns := [], harness := (true, "6189ac985d53eabea3871109d325f351b0aff41bbeb084f024f9f13fb46a8645"), looks := false }, kinds := [], alts := [], laidByText := true, laidKinds := [.data, .data], laidTests := true, laidLooks := .later }
def CellWidthsUptoCardSaid : Prop := Claim7.holds Tryd.pinned (.plain (OpenSpec.upto cellWidthsSpec)) cellWidthsUptoCard

/-- THE SECOND FORM's CARD OF 'surtitlelaw2.CellRange'. -/
def cellRangeUptoCard : Claim7 := { stood := { row := cellRangeUptoRow, standIns := [], harness := (true, "6189ac985d53eabea3871109d325f351b0aff41bbeb084f024f9f13fb46a8645"), looks := false }, kinds := [], alts := [], laidByText := true, laidKinds := [.data, .data], laidTests := true, laidLooks := .later }
def CellRangeUptoCardSaid : Prop := Claim7.holds Tryd.pinned (.plain (OpenSpec.upto cellRangeSpec)) cellRangeUptoCard

/-- THE SECOND FORM's CARD OF 'surtitlelaw2.CellClusters'. -/
def cellClustersUptoCard : Claim7 := { stood := { row := cellClustersUptoRow, standIns := [], harness := (true, "6189ac985d53eabea3871109d325f351b0aff41bbeb084f024f9f13fb46a8645"), looks := false }, kinds := [], alts := [], laidByText := true, laidKinds := [.data, .data], laidTests := true, laidLooks := .later }
def CellClustersUptoCardSaid : Prop := Claim7.holds Tryd.pinned (.plain (OpenSpec.upto cellClustersSpec)) cellClustersUptoCard

/-- THE SECOND FORM's CARD OF 'surtitlelaw2.CellCuts'. -/
def cellCutsUptoCard : Claim7 := { stood := { row := cellCutsUptoRow, standIns := [], harness := (true, "6189ac985d53eabea3871109d325f351b0aff41bbeb084f024f9f13fb46a8645"), looks := false }, kinds := [], alts := [], laidByText := true, laidKinds := [.data, .data], laidTests := true, laidLooks := .later }
def CellCutsUptoCardSaid : Prop := Claim7.holds Tryd.pinned (.plain (OpenSpec.upto cellCutsSpec)) cellCutsUptoCard

/-- THE SECOND FORM's CARD OF 'surtitlelaw2.CellPlaces'. -/
def cellPlacesUptoCard : Claim7 := { stood := { row := cellPlacesUptoRow, standIns := [], harness := (true, "6189ac985d53eabea3871109d325f351b0aff41bbeb084f024f9f13fb46a8645"), looks := false }, kinds := [], alts := [], laidByText := true, laidKinds := [.data, .data], laidTests := true, laidLooks := .later }
def CellPlacesUptoCardSaid : Prop := Claim7.holds Tryd.pinned (.plain (OpenSpec.upto cellPlacesSpec)) cellPlacesUptoCard

/-- THE SECOND FORM's CARD OF 'surtitlelaw2.CellPads'. -/
def cellPadsUptoCard : Claim7 := { stood := { row := cellPadsUptoRow, standIns := [], harness := (true, "6189ac985d53eabea3871109d325f351b0aff41bbeb084f024f9f13fb46a8645"), looks := false }, kinds := [], alts := [], laidByText := true, laidKinds := [.data, .data], laidTests := true, laidLooks := .later }
def CellPadsUptoCardSaid : Prop := Claim7.holds Tryd.pinned (.plain (OpenSpec.upto cellPadsSpec)) cellPadsUptoCard
end Rows
end Go.Proofs.YtfmofjjcgjogjaaDoor
