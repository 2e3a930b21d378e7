/- The walk of surtitlelaw3.RatioNames. -/
import Derived.Test.YtmofjkfghidlnaaDoorRatK
namespace Go.Proofs.YtmofjkfghidlnaaDoor
open Go.RowKit

set_option maxRecDepth 100000 in
set_option maxHeartbeats 1000000 in
theorem names_any (w : World) : Calls Tryd.prog 3 #[] w fun e w' => e = .returned (.bool true) ∧ Below w.heap.size w w' := by
  have HK := hideR known_any
  go_enter Tryd.func3, Tryd.ntmps3
  go_wp2_with fail
  go_at_call 17
  refine Calls.mono (HK.out _) ?_
  rintro e w1 ⟨rfl, b1⟩
  go_wp2
  go_ret
  exact ⟨rfl, b1⟩
end Go.Proofs.YtmofjkfghidlnaaDoor
