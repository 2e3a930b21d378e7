/- What the rows' list of package-level variables gives: the two tables of unicode/utf8 lie in memory as its text lays them; and a world in which they lie so. -/
import Derived.Test.YtbiodfeanngkdaaDoorCards
import Derived.Test.YtbiodfeanngkdaaDoorTie
import Derived.PinnedBridge
import Derived.Lib.LaidU8T
import Derived.WalkKit
import Derived.ProofKit
import Derived.OpenShut
import Derived.Deep.DeepHandedRow
import Derived.Lib.LaidTab
namespace Go.Proofs.YtbiodfeanngkdaaDoor
open Go.ChangeShapes Go.WideShapes Go.ChangeAt Go.RowKit Go.Shelf Go.Lib

set_option maxRecDepth 100000

theorem own : ownKnob Tryd.prog.godebug = none := by kernel_rfl
def ren : Ren := ⟨fun x => x, fun x => if x = 119 then 95 else if x = 138 then 97 else if x = 139 then 98 else x, fun x => x - 3⟩
theorem u8types : U8Types Tryd.prog ren := ⟨by kernel_rfl, by kernel_rfl, by kernel_rfl, by kernel_rfl⟩
theorem u8extra : U8Extra Tryd.prog ren := ⟨by kernel_rfl, by kernel_rfl, by kernel_rfl, by kernel_rfl, by kernel_rfl, by kernel_rfl, by kernel_rfl⟩
theorem accept_eq : Rows.laid_unicode_utf8_acceptRanges = acceptData := by kernel_rfl

def listed : List (String × DataW Unit) := [("unicode/utf8.acceptRanges", Rows.laid_unicode_utf8_acceptRanges), ("unicode/utf8.first", Rows.laid_unicode_utf8_first)]

theorem tabs {W : World} (h : laidMetH Tryd.prog listed W) : Lib.Utf8Tabs 0 1 W := by
  have h' : laidMet Tryd.prog listed W := h
  have h3 : VarReads Tryd.prog W "unicode/utf8.first" firstData := by
    have := laidMet.reads h' (n := "unicode/utf8.first") (d := Rows.laid_unicode_utf8_first) (by simp [listed])
    rw [show Rows.laid_unicode_utf8_first = firstData from Pinned.utf8First_eq] at this
    exact this
  have h4 : VarReads Tryd.prog W "unicode/utf8.acceptRanges" acceptData := by
    have := laidMet.reads h' (n := "unicode/utf8.acceptRanges") (d := Rows.laid_unicode_utf8_acceptRanges) (by simp [listed])
    rw [accept_eq] at this
    exact this
  exact utf8Tabs_of_readsT u8types u8extra h3 h4

theorem tabs_room {W : World} (h : Lib.Utf8Tabs 0 1 W) : 2 ≤ W.heap.size := by
  have h1 := (h.2 0 (by omega)).1
  by_cases hb : 1 < W.heap.size
  · omega
  · have : W.heap[1]? = none := Array.getElem?_eq_none (by omega)
    simp [World.cell?, this] at h1

/-- A block of cells, holding these. -/
def putCells (c : Array Value) (o : Obj) : Obj := match o with
  | .cells _ t frozen => .cells c t frozen
  | x => x
def firstCells : Array Value := (firstTab.map fun z => Value.int .u8 z).toArray
def acceptCells : Array Value := ((List.range 32).map fun i => Value.int .u8 (if i % 2 = 0 then accLo (i / 2) else accHi (i / 2) : Nat)).toArray
def layTabs (h : Array Obj) : Array Obj := (h.modify 0 (putCells firstCells)).modify 1 (putCells acceptCells)
/-- A world for the witness: the settled one, the two tables holding what their text lays. -/
noncomputable def laidWorld (os : Os) : World :=
  { World.holding Tryd.prog os ⟨#[], #[], []⟩ with heap := layTabs (World.holding Tryd.prog os ⟨#[], #[], []⟩).heap }
theorem laid_met (os : Os) (args : Array Value) : laidMet Tryd.prog listed ((laidWorld os).forCall (fun _ _ => 0) ⟨#[], args, []⟩).memory :=
  laidMet_of_run' 8 (by kernel_rfl) (by kernel_rfl)
end Go.Proofs.YtbiodfeanngkdaaDoor
