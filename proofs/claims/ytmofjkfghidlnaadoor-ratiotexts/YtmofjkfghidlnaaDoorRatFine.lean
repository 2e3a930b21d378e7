/- The contract of surtitlelaw3.fine. -/
import Derived.Test.YtmofjkfghidlnaaDoorRatK
namespace Go.Proofs.YtmofjkfghidlnaaDoor
open Go.RowKit
theorem fine_any (e : Int) (w : World) : Calls Tryd.prog 51 #[.int .i64 e] w fun r w' => r = .returned (.bool (e == 0)) ∧ w' = w := by
  go_enter Tryd.func51, Tryd.ntmps51
  go_wp2
  go_ret
  exact ⟨rfl, rfl⟩
theorem fine_ok (w : World) : Calls Tryd.prog 51 #[.int .i64 0] w fun r w' => r = .returned (.bool true) ∧ w' = w := fine_any 0 w
theorem fine_not (e : Int) (h : e ≠ 0) (w : World) : Calls Tryd.prog 51 #[.int .i64 e] w fun r w' => r = .returned (.bool false) ∧ w' = w := by
  have := fine_any e w
  rw [show (e == 0) = false by simpa using h] at this
  exact this
end Go.Proofs.YtmofjkfghidlnaaDoor
