/- Rows of ratios that are empty; Least, Most. -/
import Derived.Test.YtmofjkfghidlnaaDoorRowsS
import Derived.Test.YtmofjkfghidlnaaDoorRowsO
import Derived.Test.YtmofjkfghidlnaaDoorRowsB
namespace Go.Proofs.YtmofjkfghidlnaaDoor
open Go.RowKit Go.Shelf
attribute [local go_sem] Oper.semAt_some

set_option maxRecDepth 100000 in
theorem sum_nil (o : Option Addr) (cap : Nat) (w : World) :
    Calls Tryd.prog 34 #[.slice o 0 cap] w fun e w' => e = .returned (.tuple #[.agg #[.int .i64 0, .int .i64 1], .int .i64 0]) ∧ Below w.heap.size w w' := by
  go_enter Tryd.func34, Tryd.ntmps34
  go_wp2_with fail
  go_loopw [11] (fun i wr => i = .int .i64 0 ∧ Two wr w.heap.size (.int .i64 0) (.int .i64 0) ∧ Two wr (w.heap.size + 1) (.int .i64 0) (.int .i64 1) ∧ Below w.heap.size w wr) (fun _ _ => 0)
  case atStart =>
    refine ⟨rfl, (Two.new w (.int .i64 0) (.int .i64 0) 26).alloc _, ?_, bel2 w _ _⟩
    have := Two.new (w.alloc (.cells #[.int .i64 0, .int .i64 0] 26)) (.int .i64 0) (.int .i64 1) 26
    rwa [show (w.alloc (.cells #[.int .i64 0, .int .i64 0] 26)).heap.size = w.heap.size + 1 by simp] at this
  case round =>
    obtain ⟨rfl, T0, T1, hB⟩ := hrel
    obtain ⟨_, s0, s1, _, _⟩ := id T1
    obtain ⟨_, n0, n1, n2, n3⟩ := id T0
    go_wp2_with fail
    exact bodyPost_ret (v := .tuple #[.agg #[.int .i64 0, .int .i64 1], .int .i64 0]) (by simp [results, Tryd.results34, go_sem, n0, n1]) rfl ⟨rfl, (hB.setCell (by simp) _).setCell (by simp) _⟩

set_option maxRecDepth 100000 in
theorem rsum_nil (o : Option Addr) (cap : Nat) (w : World) :
    Calls Tryd.prog 35 #[.slice o 0 cap] w fun e w' => e = .returned (.tuple #[.agg #[.int .i64 0, .int .i64 1], .int .i64 0]) ∧ Below w.heap.size w w' := by
  go_enter Tryd.func35, Tryd.ntmps35
  go_wp2_with fail
  go_loopw [5] (fun i wr => i = .int .i64 0 ∧ Two wr w.heap.size (.int .i64 0) (.int .i64 0) ∧ Two wr (w.heap.size + 1) (.int .i64 0) (.int .i64 1) ∧ Below w.heap.size w wr) (fun _ _ => 0)
  case atStart =>
    refine ⟨rfl, (Two.new w (.int .i64 0) (.int .i64 0) 26).alloc _, ?_, bel2 w _ _⟩
    have := Two.new (w.alloc (.cells #[.int .i64 0, .int .i64 0] 26)) (.int .i64 0) (.int .i64 1) 26
    rwa [show (w.alloc (.cells #[.int .i64 0, .int .i64 0] 26)).heap.size = w.heap.size + 1 by simp] at this
  case round =>
    obtain ⟨rfl, T0, T1, hB⟩ := hrel
    obtain ⟨_, s0, s1, _, _⟩ := id T1
    obtain ⟨_, n0, n1, n2, n3⟩ := id T0
    go_wp2_with fail
    exact bodyPost_ret (v := .tuple #[.agg #[.int .i64 0, .int .i64 1], .int .i64 0]) (by simp [results, Tryd.results35, go_sem, n0, n1]) rfl ⟨rfl, (hB.setCell (by simp) _).setCell (by simp) _⟩

set_option maxRecDepth 100000 in
theorem outer_nil (o : Option Addr) (cap : Nat) (side : Int) (w : World) :
    Calls Tryd.prog 72 #[.slice o 0 cap, .int .i64 side] w fun e w' => e = .returned (.tuple #[.agg #[.int .i64 0, .int .i64 0], .bool false]) ∧ Below w.heap.size w w' := by
  go_enter Tryd.func72, Tryd.ntmps72
  go_wp2_with fail
  exact bodyPost_ret (v := .tuple #[.agg #[.int .i64 0, .int .i64 0], .bool false]) (by simp [results, Tryd.results72, go_sem]) rfl ⟨rfl, bel1 w _⟩

set_option maxRecDepth 100000 in
theorem rbest_nil (o : Option Addr) (cap : Nat) (side : Int) (w : World) :
    Calls Tryd.prog 37 #[.slice o 0 cap, .int .i64 side] w fun e w' => e = .returned (.tuple #[.agg #[.int .i64 0, .int .i64 0], .bool false]) ∧ Below w.heap.size w w' := by
  go_enter Tryd.func37, Tryd.ntmps37
  go_wp2_with fail
  exact bodyPost_ret (v := .tuple #[.agg #[.int .i64 0, .int .i64 0], .bool false]) (by simp [results, Tryd.results37, go_sem]) rfl ⟨rfl, bel1 w _⟩

set_option maxRecDepth 100000 in
theorem least_wrap (w : World) (sl : Value) (x y : Int) (ok : Bool)
    (HO : ∀ w0, Below w.heap.size w w0 → Calls Tryd.prog 72 #[sl, .int .i64 (-1)] w0 fun e w' => e = .returned (.tuple #[.agg #[.int .i64 x, .int .i64 y], .bool ok]) ∧ Below w0.heap.size w0 w') :
    Calls Tryd.prog 36 #[sl] w fun e w' => e = .returned (.tuple #[.agg #[.int .i64 x, .int .i64 y], .bool ok]) ∧ Below w.heap.size w w' := by
  have HO := hideR HO
  go_enter Tryd.func36, Tryd.ntmps36
  go_wp2_with fail
  go_at_call 72
  refine Calls.mono (HO.out _ (bel1 w _)) ?_
  rintro e w1 ⟨rfl, b1⟩
  have T1 := (Two.new w (.int .i64 0) (.int .i64 0) 26).keep b1
  have B1 := bup (bel1 w _) b1
  obtain ⟨_, n0, n1, n2, n3⟩ := id T1
  go_wp2_with fail
  exact bodyPost_ret (v := .tuple #[.agg #[.int .i64 x, .int .i64 y], .bool ok]) (by simp [results, Tryd.results36, go_sem, n0, n1]) rfl ⟨rfl, (B1.setCell (by simp) _).setCell (by simp) _⟩

set_option maxRecDepth 100000 in
theorem most_wrap (w : World) (sl : Value) (x y : Int) (ok : Bool)
    (HO : ∀ w0, Below w.heap.size w w0 → Calls Tryd.prog 72 #[sl, .int .i64 1] w0 fun e w' => e = .returned (.tuple #[.agg #[.int .i64 x, .int .i64 y], .bool ok]) ∧ Below w0.heap.size w0 w') :
    Calls Tryd.prog 38 #[sl] w fun e w' => e = .returned (.tuple #[.agg #[.int .i64 x, .int .i64 y], .bool ok]) ∧ Below w.heap.size w w' := by
  have HO := hideR HO
  go_enter Tryd.func38, Tryd.ntmps38
  go_wp2_with fail
  go_at_call 72
  refine Calls.mono (HO.out _ (bel1 w _)) ?_
  rintro e w1 ⟨rfl, b1⟩
  have T1 := (Two.new w (.int .i64 0) (.int .i64 0) 26).keep b1
  have B1 := bup (bel1 w _) b1
  obtain ⟨_, n0, n1, n2, n3⟩ := id T1
  go_wp2_with fail
  exact bodyPost_ret (v := .tuple #[.agg #[.int .i64 x, .int .i64 y], .bool ok]) (by simp [results, Tryd.results38, go_sem, n0, n1]) rfl ⟨rfl, (B1.setCell (by simp) _).setCell (by simp) _⟩
end Go.Proofs.YtmofjkfghidlnaaDoor
