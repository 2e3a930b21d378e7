/- Contracts of surtitleref3: fits, number. -/
import Derived.Test.YtipnefaggpigfaaGreatRefA2
namespace Go.Proofs.YtipnefaggpigfaaGreat
open Go.RowKit Go.Shelf
attribute [local go_sem] Oper.semAt_some

set_option maxRecDepth 100000 in
theorem rfits_any (ng : Bool) (h l : Int) (w : World) :
    Calls Tryz.prog 88 #[.agg #[.bool ng, .int .u64 h, .int .u64 l]] w fun e w' => e = .returned (.bool (decide (h = 0 ∧ l ≤ 4611686018427387904))) ∧ Below w.heap.size w w' := by
  go_enter Tryz.func88, Tryz.ntmps88
  go_wp2
  all_goals go_ret
  all_goals first | exact ⟨rfl, bel1 _ _⟩ | exact ⟨ret_bool (by omega), bel1 _ _⟩ | (refine ⟨?_, bel1 _ _⟩; simp_all)
set_option maxRecDepth 100000 in
theorem r3num_any (ng : Bool) (h l : Int) (h0 : 0 ≤ l) (h1 : l ≤ 4611686018427387904) (w : World) :
    Calls Tryz.prog 89 #[.agg #[.bool ng, .int .u64 h, .int .u64 l]] w fun e w' => e = .returned (.int .i64 (sgnQ ng l)) ∧ Below w.heap.size w w' := by
  unfold sgnQ
  cases ng
  · rw [if_neg (by simp)]
    go_enter Tryz.func89, Tryz.ntmps89
    go_wp2
    go_ret
    exact ⟨rfl, bel1 _ _⟩
  · rw [if_pos rfl]
    go_enter Tryz.func89, Tryz.ntmps89
    go_wp2
    go_ret
    exact ⟨ret_int (by omega), bel1 _ _⟩

end Go.Proofs.YtipnefaggpigfaaGreat
