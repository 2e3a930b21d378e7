/- What the laws of package code list of package-level variables gives: the table of powers lies in memory; and a world in which all lie as their text lays them. -/
import Derived.Test.YtaipdckakgohjaaGreatDoorCards
import Derived.Test.YtaipdckakgohjaaGreatDoorTie
import Derived.Test.YtaipdckakgohjaaGreatDoorRatF
import Derived.PinnedBridge
import Derived.Lib.LaidU8T
import Derived.WalkKit
import Derived.ProofKit
import Derived.OpenShut
import Derived.Deep.DeepHandedRow
import Derived.Lib.LaidTab
namespace Go.Proofs.YtaipdckakgohjaaGreatDoor
open Go.ChangeShapes Go.WideShapes Go.ChangeAt Go.RowKit Go.Shelf Go.Lib

set_option maxRecDepth 100000

theorem own : ownKnob Tryz.prog.godebug = none := by kernel_rfl
def listed3 : List (String × DataW Unit) := [("math/bits.deBruijn32tab", Rows.laid_math_bits_deBruijn32tab), ("math/bits.deBruijn64tab", Rows.laid_math_bits_deBruijn64tab), ("internal/strconv.uint64pow10", Rows.laid_internal_strconv_uint64pow10)]
theorem pow_eq : (Rows.laid_internal_strconv_uint64pow10 : DataW Unit) = tabData .u64 pow10Tab := by kernel_rfl
theorem pow_of {W : World} (h : laidMet Tryz.prog listed3 W) : PowAt W := by
  have h1 := laidMet.reads h (n := "internal/strconv.uint64pow10") (d := Rows.laid_internal_strconv_uint64pow10) (by simp [listed3])
  rw [pow_eq] at h1
  obtain ⟨g', t', cs, fuel, p, hg', ht', hvar, hd⟩ := h1
  obtain rfl := Option.some.inj ((show Tryz.prog.globalNamed "internal/strconv.uint64pow10" = some 3 by kernel_rfl).symm.trans hg')
  obtain rfl := Option.some.inj ((show (Tryz.prog.globals[3]?).map (·.type) = some 166 by kernel_rfl).symm.trans ht')
  unfold PowAt TabIs
  rw [hvar, ← cells_of_tab (n := 20) (e := 81) (by kernel_rfl) (by kernel_rfl) (by kernel_rfl) (by kernel_rfl) hd]
/-- A block of cells, holding these. -/
def putCells (c : Array Value) (o : Obj) : Obj := match o with
  | .cells _ t frozen => .cells c t frozen
  | x => x
def litZ (x : DataW Unit) : Int := match x with
  | .lit (.int _ z) => z
  | _ => 0
def rowZ (x : DataW Unit) : List Int := match x with
  | .agg l => l.map litZ
  | _ => []
def bru32 : List Int := rowZ Rows.laid_math_bits_deBruijn32tab
def bru64 : List Int := rowZ Rows.laid_math_bits_deBruijn64tab
def layTabs3 (h : Array Obj) : Array Obj := ((h.modify 3 (putCells (pow10Tab.map fun z => Value.int .u64 z).toArray)).modify 4 (putCells (bru32.map fun z => Value.int .u8 z).toArray)).modify 5 (putCells (bru64.map fun z => Value.int .u8 z).toArray)
noncomputable def laidWorld3 (os : Os) : World :=
  { World.holding Tryz.prog os ⟨#[], #[], []⟩ with heap := layTabs3 (World.holding Tryz.prog os ⟨#[], #[], []⟩).heap }
theorem laid_met3 (os : Os) (args : Array Value) : laidMet Tryz.prog listed3 ((laidWorld3 os).forCall (fun _ _ => 0) ⟨#[], args, []⟩).memory :=
  laidMet_of_run' 8 (by kernel_rfl) (by kernel_rfl)
end Go.Proofs.YtaipdckakgohjaaGreatDoor
