/- The walk of surtitlelaw5.CodeNames. -/
import Derived.Test.YtaipdckakgohjaaDoorCdM
namespace Go.Proofs.YtaipdckakgohjaaDoor
open Go.RowKit Go.Shelf
attribute [local go_sem] Oper.semAt_some

set_option maxRecDepth 100000 in
theorem names5_any (w : World) (hp : PowAt w) :
    Calls Tryd.prog 3 #[] w fun e w' => e = .returned (.bool true) ∧ Below w.heap.size w w' := by
  have HK := hideR (known5_any w hp)
  go_enter Tryd.func3, Tryd.ntmps3
  go_wp2_with fail
  go_at_call 15
  refine HK.out.mono ?_
  rintro e w1 ⟨rfl, b1⟩
  go_wp2_with fail
  go_ret
  exact ⟨by simp, b1⟩
end Go.Proofs.YtaipdckakgohjaaDoor
