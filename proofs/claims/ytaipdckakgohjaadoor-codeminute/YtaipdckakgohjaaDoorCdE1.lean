/- Package code: Frame, made whole in way 1. -/
import Derived.Test.YtaipdckakgohjaaDoorCdD
namespace Go.Proofs.YtaipdckakgohjaaDoor
open Go.RowKit Go.Shelf
attribute [local go_sem] Oper.semAt_some

set_option maxRecDepth 100000 in
set_option maxHeartbeats 2000000 in
theorem frame_ok1 (n d tn td fn fd k ke : Int) (dr : Bool) (w : World)
    (HC : ∀ w, Calls Tryd.prog 16 #[.agg #[.int .i64 n, .int .i64 d, .bool dr]] w fun e w' => e = .returned (.int .i64 0) ∧ Below w.heap.size w w')
    (HT : ∀ w, Calls Tryd.prog 44 #[.agg #[.int .i64 tn, .int .i64 td]] w fun e w' => e = .returned (.int .i64 0) ∧ Below w.heap.size w w')
    (HS : ∀ w, Calls Tryd.prog 38 #[.agg #[.int .i64 n, .int .i64 d, .bool dr]] w fun e w' => e = .returned (.agg #[.int .i64 n, .int .i64 d]) ∧ Below w.heap.size w w')
    (HM : ∀ w, Calls Tryd.prog 43 #[.agg #[.int .i64 tn, .int .i64 td], .agg #[.int .i64 n, .int .i64 d]] w fun e w' => e = .returned (.tuple #[.agg #[.int .i64 fn, .int .i64 fd], .int .i64 0]) ∧ Below w.heap.size w w')
    (HW : ∀ w, Calls Tryd.prog 55 #[.agg #[.int .i64 fn, .int .i64 fd], .int .i64 1, .int .i64 1] w fun e w' => e = .returned (.tuple #[.int .i64 k, .int .i64 ke]) ∧ Below w.heap.size w w') :
    Calls Tryd.prog 26 #[.agg #[.int .i64 n, .int .i64 d, .bool dr], .agg #[.int .i64 tn, .int .i64 td], .int .i64 1] w fun e w' => e = .returned (.tuple #[.int .i64 k, .int .i64 ke]) ∧ Below w.heap.size w w' := by
  have HC := hideR HC
  have HT := hideR HT
  have HS := hideR HS
  have HM := hideR HM
  have HW := hideR HW
  go_enter Tryd.func26, Tryd.ntmps26
  go_wp2_with fail
  go_at_call 16
  refine (HC.out _).mono ?_
  rintro e w1 ⟨rfl, b1⟩
  have A1 := (((RateAt.new w n d dr).alloc (.cells #[.int .i64 tn, .int .i64 td] 28)).keep b1)
  have X1 := (((Two.new (w.alloc (.cells #[.int .i64 n, .int .i64 d, .bool dr] 24)) (.int .i64 tn) (.int .i64 td) 28).keep b1).at (R2 := w.heap.size + 1) (by simp))
  have B1 := bup (bel2 w _ _) b1
  clear b1
  obtain ⟨_, a0, a1, a2⟩ := id A1
  obtain ⟨_, x0, x1, x2, x3⟩ := id X1
  go_wp2_with fail
  go_at_call 44
  refine (HT.out _).mono ?_
  rintro e w2 ⟨rfl, b2⟩
  have A2 := (A1.keep b2)
  have X2 := (X1.keep b2)
  have B2 := bup B1 b2
  clear A1 X1 B1 a0 a1 a2 x0 x1 x2 x3
  clear b2
  obtain ⟨_, a0, a1, a2⟩ := id A2
  obtain ⟨_, x0, x1, x2, x3⟩ := id X2
  go_wp2_with fail
  go_region_with (first
    | (go_at_call 38; refine (HS.out _).mono ?_; rintro e w3 ⟨rfl, b3⟩; have z3 := b3.size; first | (have A3 := A2.drew.keep b3; have X3 := X2.drew.keep b3; have B3 := bup B2.drew b3; obtain ⟨_, a0, a1, a2⟩ := id A3; obtain ⟨_, x0, x1, x2, x3⟩ := id X3) | (have A3 := (A2.drew.alloc _).keep b3; have X3 := (X2.drew.alloc _).keep b3; have F3 : Two w3 w2.heap.size (.int .i64 0) (.int .i64 0) := (Two.new w2.drew (.int .i64 0) (.int .i64 0) 28).keep b3; have B3 := bup (bup B2.drew (bel1 w2.drew _)) b3; obtain ⟨_, a0, a1, a2⟩ := id A3; obtain ⟨_, x0, x1, x2, x3⟩ := id X3; obtain ⟨_, f0, f1, f2, f3⟩ := id F3))
    | (go_at_call 43; refine (HM.out _).mono ?_; rintro e w4 ⟨rfl, b4⟩; have z4 := b4.size; first | (have A4 := A3.keep b4; have X4 := X3.keep b4; have F4 := F3.keep b4; have B4 := bup B3 b4; obtain ⟨_, a0, a1, a2⟩ := id A4; obtain ⟨_, x0, x1, x2, x3⟩ := id X4; obtain ⟨_, f0, f1, f2, f3⟩ := id F4) | (have A4 := (A3.alloc _).keep b4; have X4 := (X3.alloc _).keep b4; have F4 : Two w4 w3.heap.size (.int .i64 0) (.int .i64 0) := (Two.new w3 (.int .i64 0) (.int .i64 0) 28).keep b4; have B4 := bup (bup B3 (bel1 w3 _)) b4; obtain ⟨_, a0, a1, a2⟩ := id A4; obtain ⟨_, x0, x1, x2, x3⟩ := id X4; obtain ⟨_, f0, f1, f2, f3⟩ := id F4) | (have A4 := A3.keep b4; have X4 := X3.keep b4; have B4 := bup B3 b4; obtain ⟨_, a0, a1, a2⟩ := id A4; obtain ⟨_, x0, x1, x2, x3⟩ := id X4)))
  all_goals (
    try go_wp2_with fail
    go_at_call 55
    refine (HW.out _).mono ?_
    rintro e w5 ⟨rfl, b5⟩
    have B5 := bup (w := w) (by first | exact B4 | exact (B4.setCell (by simp; omega) _).setCell (by simp; omega) _ | exact bup B4 (bel1 w4 _) | exact ((bup B4 (bel1 w4 _)).setCell (by simp; omega) _).setCell (by simp; omega) _) b5
    clear b5
    go_wp2_with fail
    exact bodyPost_ret (v := .tuple #[.int .i64 k, .int .i64 ke]) (by simp [results, Tryd.results26, go_sem]) rfl ⟨rfl, by first | exact B5 | exact (B5.setCell (by simp) _).setCell (by simp) _⟩)
end Go.Proofs.YtaipdckakgohjaaDoor
