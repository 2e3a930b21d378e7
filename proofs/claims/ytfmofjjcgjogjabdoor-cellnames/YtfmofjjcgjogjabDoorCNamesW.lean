/- The walk of surtitlelaw2.CellNames. -/
import Derived.Test.YtfmofjjcgjogjabDoorCellK
namespace Go.Proofs.YtfmofjjcgjogjabDoor
open Go.RowKit

set_option maxRecDepth 100000 in
set_option maxHeartbeats 1000000 in
theorem cnames_any (N : Nat) (w : World) (hT : Tabs N w) : Calls Tryd.prog 3 #[] w fun e w' => e = .returned (.bool true) ∧ Below w.heap.size w w' := by
  have HW := hideC (fun w h => width_any 97 N w h)
  rw [width_a] at HW
  go_enter Tryd.func3, Tryd.ntmps3
  go_wp2_with fail
  refine (known_any N _ hT).mono ?_
  rintro e w1 ⟨rfl, hb1⟩
  go_wp2_with fail
  refine (HW.out _ (hT.below hb1)).mono ?_
  rintro e w2 ⟨rfl, hb2⟩
  go_wp2
  go_ret
  exact ⟨rfl, hb1.trans (hb2.mono hb1.size)⟩

end Go.Proofs.YtfmofjjcgjogjabDoor
