/- Rows of ratios that are empty; Least, Most. -/
import Derived.Test.YtifkoffjmdpgkaaDoorRowsS
import Derived.Test.YtifkoffjmdpgkaaDoorRowsO
import Derived.Test.YtifkoffjmdpgkaaDoorRowsB
namespace Go.Proofs.YtifkoffjmdpgkaaDoor
open Go.RowKit Go.Shelf
attribute [local go_sem] Oper.semAt_some

set_option maxRecDepth 100000 in
theorem outer_nil (o : Option Addr) (cap : Nat) (side : Int) (w : World) :
    Calls Tryd.prog 34 #[.slice o 0 cap, .int .i64 side] w fun e w' => e = .returned (.tuple #[.agg #[.int .i64 0, .int .i64 0], .bool false]) ∧ Below w.heap.size w w' := by
  go_enter Tryd.func34, Tryd.ntmps34
  go_wp2_with fail
  exact bodyPost_ret (v := .tuple #[.agg #[.int .i64 0, .int .i64 0], .bool false]) (by simp [results, Tryd.results34, go_sem]) rfl ⟨rfl, bel1 w _⟩

set_option maxRecDepth 100000 in
theorem most_wrap (w : World) (sl : Value) (x y : Int) (ok : Bool)
    (HO : ∀ w0, Below w.heap.size w w0 → Calls Tryd.prog 34 #[sl, .int .i64 1] w0 fun e w' => e = .returned (.tuple #[.agg #[.int .i64 x, .int .i64 y], .bool ok]) ∧ Below w0.heap.size w0 w') :
    Calls Tryd.prog 23 #[sl] w fun e w' => e = .returned (.tuple #[.agg #[.int .i64 x, .int .i64 y], .bool ok]) ∧ Below w.heap.size w w' := by
  have HO := hideR HO
  go_enter Tryd.func23, Tryd.ntmps23
  go_wp2_with fail
  go_at_call 34
  refine Calls.mono (HO.out _ (bel1 w _)) ?_
  rintro e w1 ⟨rfl, b1⟩
  have T1 := (Two.new w (.int .i64 0) (.int .i64 0) 29).keep b1
  have B1 := bup (bel1 w _) b1
  obtain ⟨_, n0, n1, n2, n3⟩ := id T1
  go_wp2_with fail
  exact bodyPost_ret (v := .tuple #[.agg #[.int .i64 x, .int .i64 y], .bool ok]) (by simp [results, Tryd.results23, go_sem, n0, n1]) rfl ⟨rfl, (B1.setCell (by simp) _).setCell (by simp) _⟩
end Go.Proofs.YtifkoffjmdpgkaaDoor
