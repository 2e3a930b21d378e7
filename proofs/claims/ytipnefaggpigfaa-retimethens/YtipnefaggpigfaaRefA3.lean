/- Contracts of surtitleref3: fits, number. -/
import Derived.Test.YtipnefaggpigfaaRefA2
namespace Go.Proofs.Ytipnefaggpigfaa
open Go.RowKit Go.Shelf
attribute [local go_sem] Oper.semAt_some

set_option maxRecDepth 100000 in
theorem rfits_any (ng : Bool) (h l : Int) (w : World) :
    Calls Try.prog 84 #[.agg #[.bool ng, .int .u64 h, .int .u64 l]] w fun e w' => e = .returned (.bool (decide (h = 0 ∧ l ≤ 4611686018427387904))) ∧ Below w.heap.size w w' := by
  go_enter Try.func84, Try.ntmps84
  go_wp2
  all_goals go_ret
  all_goals first | exact ⟨rfl, bel1 _ _⟩ | exact ⟨ret_bool (by omega), bel1 _ _⟩ | (refine ⟨?_, bel1 _ _⟩; simp_all)
set_option maxRecDepth 100000 in
theorem r3num_any (ng : Bool) (h l : Int) (h0 : 0 ≤ l) (h1 : l ≤ 4611686018427387904) (w : World) :
    Calls Try.prog 85 #[.agg #[.bool ng, .int .u64 h, .int .u64 l]] w fun e w' => e = .returned (.int .i64 (sgnQ ng l)) ∧ Below w.heap.size w w' := by
  unfold sgnQ
  cases ng
  · rw [if_neg (by simp)]
    go_enter Try.func85, Try.ntmps85
    go_wp2
    go_ret
    exact ⟨rfl, bel1 _ _⟩
  · rw [if_pos rfl]
    go_enter Try.func85, Try.ntmps85
    go_wp2
    go_ret
    exact ⟨ret_int (by omega), bel1 _ _⟩

end Go.Proofs.Ytipnefaggpigfaa
