/- Package code: Grid, Time, Frame. -/
import Derived.Test.YtaipdckakgohjaaDoorCdD
namespace Go.Proofs.YtaipdckakgohjaaDoor
open Go.RowKit Go.Shelf
attribute [local go_sem] Oper.semAt_some

set_option maxRecDepth 100000 in
set_option maxHeartbeats 2000000 in
theorem grid_bad (n d c : Int) (dr : Bool) (hc : (c == 0) = false) (w : World)
    (HC : ∀ w, Calls Tryd.prog 16 #[.agg #[.int .i64 n, .int .i64 d, .bool dr]] w fun e w' => e = .returned (.int .i64 c) ∧ Below w.heap.size w w') :
    Calls Tryd.prog 17 #[.agg #[.int .i64 n, .int .i64 d, .bool dr]] w fun e w' => e = .returned (.tuple #[.agg #[.int .i64 0, .int .i64 0], .int .i64 c]) ∧ Below w.heap.size w w' := by
  have HC := hideR HC
  go_enter Tryd.func17, Tryd.ntmps17
  go_wp2_with fail
  go_at_call 16
  refine (HC.out _).mono ?_
  rintro e w1 ⟨rfl, b1⟩
  have A1 := (((RateAt.new w n d dr).alloc (.cells #[.int .i64 0, .int .i64 0] 28)).keep b1)
  have T1 := (((Two.new (w.alloc (.cells #[.int .i64 n, .int .i64 d, .bool dr] 24)) (.int .i64 0) (.int .i64 0) 28).keep b1).at (R2 := w.heap.size + 1) (by simp))
  have B1 := bup (bel2 w _ _) b1
  clear b1
  obtain ⟨_, a0, a1, a2⟩ := id A1
  obtain ⟨_, t0, t1, t2, t3⟩ := id T1
  go_wp2_with fail
  exact bodyPost_ret (v := .tuple #[.agg #[.int .i64 0, .int .i64 0], .int .i64 c]) (by simp [results, Tryd.results17, go_sem, t0, t1]) rfl ⟨rfl, by first | exact B1 | exact (B1.setCell (by simp) _).setCell (by simp) _⟩
set_option maxRecDepth 100000 in
set_option maxHeartbeats 2000000 in
theorem grid_ok (n d : Int) (dr : Bool) (w : World)
    (HC : ∀ w, Calls Tryd.prog 16 #[.agg #[.int .i64 n, .int .i64 d, .bool dr]] w fun e w' => e = .returned (.int .i64 0) ∧ Below w.heap.size w w') :
    Calls Tryd.prog 17 #[.agg #[.int .i64 n, .int .i64 d, .bool dr]] w fun e w' => e = .returned (.tuple #[.agg #[.int .i64 d, .int .i64 n], .int .i64 0]) ∧ Below w.heap.size w w' := by
  have HC := hideR HC
  go_enter Tryd.func17, Tryd.ntmps17
  go_wp2_with fail
  go_at_call 16
  refine (HC.out _).mono ?_
  rintro e w1 ⟨rfl, b1⟩
  have A1 := (((RateAt.new w n d dr).alloc (.cells #[.int .i64 0, .int .i64 0] 28)).keep b1)
  have T1 := (((Two.new (w.alloc (.cells #[.int .i64 n, .int .i64 d, .bool dr] 24)) (.int .i64 0) (.int .i64 0) 28).keep b1).at (R2 := w.heap.size + 1) (by simp))
  have B1 := bup (bel2 w _ _) b1
  clear b1
  obtain ⟨_, a0, a1, a2⟩ := id A1
  obtain ⟨_, t0, t1, t2, t3⟩ := id T1
  go_wp2_with fail
  exact bodyPost_ret (v := .tuple #[.agg #[.int .i64 d, .int .i64 n], .int .i64 0]) (by simp [results, Tryd.results17, go_sem, t0, t1]) rfl ⟨rfl, by first | exact B1 | exact (B1.setCell (by simp) _).setCell (by simp) _⟩
set_option maxRecDepth 100000 in
set_option maxHeartbeats 2000000 in
theorem ctime_bad (n d fr c : Int) (dr : Bool) (hc : (c == 0) = false) (w : World)
    (HG : ∀ w, Calls Tryd.prog 17 #[.agg #[.int .i64 n, .int .i64 d, .bool dr]] w fun e w' => e = .returned (.tuple #[.agg #[.int .i64 0, .int .i64 0], .int .i64 c]) ∧ Below w.heap.size w w') :
    Calls Tryd.prog 22 #[.agg #[.int .i64 n, .int .i64 d, .bool dr], .int .i64 fr] w fun e w' => e = .returned (.tuple #[.agg #[.int .i64 0, .int .i64 0], .int .i64 c]) ∧ Below w.heap.size w w' := by
  have HG := hideR HG
  go_enter Tryd.func22, Tryd.ntmps22
  go_wp2_with fail
  go_at_call 17
  refine (HG.out _).mono ?_
  rintro e w1 ⟨rfl, b1⟩
  have A1 := (((RateAt.new w n d dr).alloc (.cells #[.int .i64 0, .int .i64 0] 28)).keep b1).alloc (.cells #[.int .i64 0, .int .i64 0] 28)
  have T1 := (((Two.new (w.alloc (.cells #[.int .i64 n, .int .i64 d, .bool dr] 24)) (.int .i64 0) (.int .i64 0) 28).keep b1).at (R2 := w.heap.size + 1) (by simp)).alloc (.cells #[.int .i64 0, .int .i64 0] 28)
  have B1 := bup (bup (bel2 w _ _) b1) (bel1 w1 (.cells #[.int .i64 0, .int .i64 0] 28))
  clear b1
  have G1 := Two.new w1 (.int .i64 0) (.int .i64 0) 28
  obtain ⟨_, a0, a1, a2⟩ := id A1
  obtain ⟨_, t0, t1, t2, t3⟩ := id T1
  obtain ⟨_, g0, g1, g2, g3⟩ := id G1
  go_wp2_with fail
  exact bodyPost_ret (v := .tuple #[.agg #[.int .i64 0, .int .i64 0], .int .i64 c]) (by simp [results, Tryd.results22, go_sem, t0, t1]) rfl ⟨rfl, by first | exact B1 | exact (B1.setCell (by simp) _).setCell (by simp) _⟩
set_option maxRecDepth 100000 in
set_option maxHeartbeats 2000000 in
theorem ctime_mul (n d fr gn gd tn td me : Int) (dr : Bool) (hm2 : (me != 0) = true) (w : World)
    (HG : ∀ w, Calls Tryd.prog 17 #[.agg #[.int .i64 n, .int .i64 d, .bool dr]] w fun e w' => e = .returned (.tuple #[.agg #[.int .i64 gn, .int .i64 gd], .int .i64 0]) ∧ Below w.heap.size w w')
    (HM : ∀ w, Calls Tryd.prog 43 #[.agg #[.int .i64 fr, .int .i64 1], .agg #[.int .i64 gn, .int .i64 gd]] w fun e w' => e = .returned (.tuple #[.agg #[.int .i64 tn, .int .i64 td], .int .i64 me]) ∧ Below w.heap.size w w') :
    Calls Tryd.prog 22 #[.agg #[.int .i64 n, .int .i64 d, .bool dr], .int .i64 fr] w fun e w' => e = .returned (.tuple #[.agg #[.int .i64 0, .int .i64 0], .int .i64 31]) ∧ Below w.heap.size w w' := by
  have HG := hideR HG
  have HM := hideR HM
  go_enter Tryd.func22, Tryd.ntmps22
  go_wp2_with fail
  go_at_call 17
  refine (HG.out _).mono ?_
  rintro e w1 ⟨rfl, b1⟩
  have A1 := (((RateAt.new w n d dr).alloc (.cells #[.int .i64 0, .int .i64 0] 28)).keep b1).alloc (.cells #[.int .i64 gn, .int .i64 gd] 28)
  have T1 := (((Two.new (w.alloc (.cells #[.int .i64 n, .int .i64 d, .bool dr] 24)) (.int .i64 0) (.int .i64 0) 28).keep b1).at (R2 := w.heap.size + 1) (by simp)).alloc (.cells #[.int .i64 gn, .int .i64 gd] 28)
  have B1 := bup (bup (bel2 w _ _) b1) (bel1 w1 (.cells #[.int .i64 gn, .int .i64 gd] 28))
  clear b1
  have G1 := Two.new w1 (.int .i64 gn) (.int .i64 gd) 28
  obtain ⟨_, a0, a1, a2⟩ := id A1
  obtain ⟨_, t0, t1, t2, t3⟩ := id T1
  obtain ⟨_, g0, g1, g2, g3⟩ := id G1
  go_wp2_with fail
  go_at_call 43
  refine (HM.out _).mono ?_
  rintro e w2 ⟨rfl, b2⟩
  have A2 := (A1.keep b2).alloc (.cells #[.int .i64 tn, .int .i64 td] 28)
  have T2 := (T1.keep b2).alloc (.cells #[.int .i64 tn, .int .i64 td] 28)
  have G2 := (G1.keep b2).alloc (.cells #[.int .i64 tn, .int .i64 td] 28)
  have B2 := bup (bup B1 b2) (bel1 w2 (.cells #[.int .i64 tn, .int .i64 td] 28))
  clear A1 T1 G1 B1 a0 a1 a2 t0 t1 t2 t3 g0 g1 g2 g3
  clear b2
  have X2 := Two.new w2 (.int .i64 tn) (.int .i64 td) 28
  obtain ⟨_, a0, a1, a2⟩ := id A2
  obtain ⟨_, t0, t1, t2, t3⟩ := id T2
  obtain ⟨_, g0, g1, g2, g3⟩ := id G2
  obtain ⟨_, x0, x1, x2, x3⟩ := id X2
  go_wp2_with fail
  exact bodyPost_ret (v := .tuple #[.agg #[.int .i64 0, .int .i64 0], .int .i64 31]) (by simp [results, Tryd.results22, go_sem, t0, t1]) rfl ⟨rfl, by first | exact B2 | exact (B2.setCell (by simp) _).setCell (by simp) _⟩
set_option maxRecDepth 100000 in
set_option maxHeartbeats 2000000 in
theorem ctime_out (n d fr gn gd tn td te : Int) (dr : Bool) (ht : (te == 0) = false) (w : World)
    (HG : ∀ w, Calls Tryd.prog 17 #[.agg #[.int .i64 n, .int .i64 d, .bool dr]] w fun e w' => e = .returned (.tuple #[.agg #[.int .i64 gn, .int .i64 gd], .int .i64 0]) ∧ Below w.heap.size w w')
    (HM : ∀ w, Calls Tryd.prog 43 #[.agg #[.int .i64 fr, .int .i64 1], .agg #[.int .i64 gn, .int .i64 gd]] w fun e w' => e = .returned (.tuple #[.agg #[.int .i64 tn, .int .i64 td], .int .i64 0]) ∧ Below w.heap.size w w')
    (HT : ∀ w, Calls Tryd.prog 44 #[.agg #[.int .i64 tn, .int .i64 td]] w fun e w' => e = .returned (.int .i64 te) ∧ Below w.heap.size w w') :
    Calls Tryd.prog 22 #[.agg #[.int .i64 n, .int .i64 d, .bool dr], .int .i64 fr] w fun e w' => e = .returned (.tuple #[.agg #[.int .i64 0, .int .i64 0], .int .i64 31]) ∧ Below w.heap.size w w' := by
  have HG := hideR HG
  have HM := hideR HM
  have HT := hideR HT
  go_enter Tryd.func22, Tryd.ntmps22
  go_wp2_with fail
  go_at_call 17
  refine (HG.out _).mono ?_
  rintro e w1 ⟨rfl, b1⟩
  have A1 := (((RateAt.new w n d dr).alloc (.cells #[.int .i64 0, .int .i64 0] 28)).keep b1).alloc (.cells #[.int .i64 gn, .int .i64 gd] 28)
  have T1 := (((Two.new (w.alloc (.cells #[.int .i64 n, .int .i64 d, .bool dr] 24)) (.int .i64 0) (.int .i64 0) 28).keep b1).at (R2 := w.heap.size + 1) (by simp)).alloc (.cells #[.int .i64 gn, .int .i64 gd] 28)
  have B1 := bup (bup (bel2 w _ _) b1) (bel1 w1 (.cells #[.int .i64 gn, .int .i64 gd] 28))
  clear b1
  have G1 := Two.new w1 (.int .i64 gn) (.int .i64 gd) 28
  obtain ⟨_, a0, a1, a2⟩ := id A1
  obtain ⟨_, t0, t1, t2, t3⟩ := id T1
  obtain ⟨_, g0, g1, g2, g3⟩ := id G1
  go_wp2_with fail
  go_at_call 43
  refine (HM.out _).mono ?_
  rintro e w2 ⟨rfl, b2⟩
  have A2 := (A1.keep b2).alloc (.cells #[.int .i64 tn, .int .i64 td] 28)
  have T2 := (T1.keep b2).alloc (.cells #[.int .i64 tn, .int .i64 td] 28)
  have G2 := (G1.keep b2).alloc (.cells #[.int .i64 tn, .int .i64 td] 28)
  have B2 := bup (bup B1 b2) (bel1 w2 (.cells #[.int .i64 tn, .int .i64 td] 28))
  clear A1 T1 G1 B1 a0 a1 a2 t0 t1 t2 t3 g0 g1 g2 g3
  clear b2
  have X2 := Two.new w2 (.int .i64 tn) (.int .i64 td) 28
  obtain ⟨_, a0, a1, a2⟩ := id A2
  obtain ⟨_, t0, t1, t2, t3⟩ := id T2
  obtain ⟨_, g0, g1, g2, g3⟩ := id G2
  obtain ⟨_, x0, x1, x2, x3⟩ := id X2
  go_wp2_with fail
  go_at_call 44
  refine (HT.out _).mono ?_
  rintro e w3 ⟨rfl, b3⟩
  have A3 := (A2.keep b3)
  have T3 := (T2.keep b3)
  have G3 := (G2.keep b3)
  have X3 := (X2.keep b3)
  have B3 := bup B2 b3
  clear A2 T2 G2 X2 B2 a0 a1 a2 t0 t1 t2 t3 g0 g1 g2 g3 x0 x1 x2 x3
  clear b3
  obtain ⟨_, a0, a1, a2⟩ := id A3
  obtain ⟨_, t0, t1, t2, t3⟩ := id T3
  obtain ⟨_, g0, g1, g2, g3⟩ := id G3
  obtain ⟨_, x0, x1, x2, x3⟩ := id X3
  go_wp2_with fail
  exact bodyPost_ret (v := .tuple #[.agg #[.int .i64 0, .int .i64 0], .int .i64 31]) (by simp [results, Tryd.results22, go_sem, t0, t1]) rfl ⟨rfl, by first | exact B3 | exact (B3.setCell (by simp) _).setCell (by simp) _⟩
set_option maxRecDepth 100000 in
set_option maxHeartbeats 2000000 in
theorem ctime_ok (n d fr gn gd tn td : Int) (dr : Bool) (w : World)
    (HG : ∀ w, Calls Tryd.prog 17 #[.agg #[.int .i64 n, .int .i64 d, .bool dr]] w fun e w' => e = .returned (.tuple #[.agg #[.int .i64 gn, .int .i64 gd], .int .i64 0]) ∧ Below w.heap.size w w')
    (HM : ∀ w, Calls Tryd.prog 43 #[.agg #[.int .i64 fr, .int .i64 1], .agg #[.int .i64 gn, .int .i64 gd]] w fun e w' => e = .returned (.tuple #[.agg #[.int .i64 tn, .int .i64 td], .int .i64 0]) ∧ Below w.heap.size w w')
    (HT : ∀ w, Calls Tryd.prog 44 #[.agg #[.int .i64 tn, .int .i64 td]] w fun e w' => e = .returned (.int .i64 0) ∧ Below w.heap.size w w') :
    Calls Tryd.prog 22 #[.agg #[.int .i64 n, .int .i64 d, .bool dr], .int .i64 fr] w fun e w' => e = .returned (.tuple #[.agg #[.int .i64 tn, .int .i64 td], .int .i64 0]) ∧ Below w.heap.size w w' := by
  have HG := hideR HG
  have HM := hideR HM
  have HT := hideR HT
  go_enter Tryd.func22, Tryd.ntmps22
  go_wp2_with fail
  go_at_call 17
  refine (HG.out _).mono ?_
  rintro e w1 ⟨rfl, b1⟩
  have A1 := (((RateAt.new w n d dr).alloc (.cells #[.int .i64 0, .int .i64 0] 28)).keep b1).alloc (.cells #[.int .i64 gn, .int .i64 gd] 28)
  have T1 := (((Two.new (w.alloc (.cells #[.int .i64 n, .int .i64 d, .bool dr] 24)) (.int .i64 0) (.int .i64 0) 28).keep b1).at (R2 := w.heap.size + 1) (by simp)).alloc (.cells #[.int .i64 gn, .int .i64 gd] 28)
  have B1 := bup (bup (bel2 w _ _) b1) (bel1 w1 (.cells #[.int .i64 gn, .int .i64 gd] 28))
  clear b1
  have G1 := Two.new w1 (.int .i64 gn) (.int .i64 gd) 28
  obtain ⟨_, a0, a1, a2⟩ := id A1
  obtain ⟨_, t0, t1, t2, t3⟩ := id T1
  obtain ⟨_, g0, g1, g2, g3⟩ := id G1
  go_wp2_with fail
  go_at_call 43
  refine (HM.out _).mono ?_
  rintro e w2 ⟨rfl, b2⟩
  have A2 := (A1.keep b2).alloc (.cells #[.int .i64 tn, .int .i64 td] 28)
  have T2 := (T1.keep b2).alloc (.cells #[.int .i64 tn, .int .i64 td] 28)
  have G2 := (G1.keep b2).alloc (.cells #[.int .i64 tn, .int .i64 td] 28)
  have B2 := bup (bup B1 b2) (bel1 w2 (.cells #[.int .i64 tn, .int .i64 td] 28))
  clear A1 T1 G1 B1 a0 a1 a2 t0 t1 t2 t3 g0 g1 g2 g3
  clear b2
  have X2 := Two.new w2 (.int .i64 tn) (.int .i64 td) 28
  obtain ⟨_, a0, a1, a2⟩ := id A2
  obtain ⟨_, t0, t1, t2, t3⟩ := id T2
  obtain ⟨_, g0, g1, g2, g3⟩ := id G2
  obtain ⟨_, x0, x1, x2, x3⟩ := id X2
  go_wp2_with fail
  go_at_call 44
  refine (HT.out _).mono ?_
  rintro e w3 ⟨rfl, b3⟩
  have A3 := (A2.keep b3)
  have T3 := (T2.keep b3)
  have G3 := (G2.keep b3)
  have X3 := (X2.keep b3)
  have B3 := bup B2 b3
  clear A2 T2 G2 X2 B2 a0 a1 a2 t0 t1 t2 t3 g0 g1 g2 g3 x0 x1 x2 x3
  clear b3
  obtain ⟨_, a0, a1, a2⟩ := id A3
  obtain ⟨_, t0, t1, t2, t3⟩ := id T3
  obtain ⟨_, g0, g1, g2, g3⟩ := id G3
  obtain ⟨_, x0, x1, x2, x3⟩ := id X3
  go_wp2_with fail
  exact bodyPost_ret (v := .tuple #[.agg #[.int .i64 tn, .int .i64 td], .int .i64 0]) (by simp [results, Tryd.results22, go_sem, t0, t1]) rfl ⟨rfl, by first | exact B3 | exact (B3.setCell (by simp) _).setCell (by simp) _⟩
set_option maxRecDepth 100000 in
set_option maxHeartbeats 2000000 in
theorem frame_bad (n d tn td how c : Int) (dr : Bool) (hc : (c == 0) = false) (w : World)
    (HC : ∀ w, Calls Tryd.prog 16 #[.agg #[.int .i64 n, .int .i64 d, .bool dr]] w fun e w' => e = .returned (.int .i64 c) ∧ Below w.heap.size w w') :
    Calls Tryd.prog 26 #[.agg #[.int .i64 n, .int .i64 d, .bool dr], .agg #[.int .i64 tn, .int .i64 td], .int .i64 how] w fun e w' => e = .returned (.tuple #[.int .i64 0, .int .i64 c]) ∧ Below w.heap.size w w' := by
  have HC := hideR HC
  go_enter Tryd.func26, Tryd.ntmps26
  go_wp2_with fail
  go_at_call 16
  refine (HC.out _).mono ?_
  rintro e w1 ⟨rfl, b1⟩
  have A1 := (((RateAt.new w n d dr).alloc (.cells #[.int .i64 tn, .int .i64 td] 28)).keep b1)
  have X1 := (((Two.new (w.alloc (.cells #[.int .i64 n, .int .i64 d, .bool dr] 24)) (.int .i64 tn) (.int .i64 td) 28).keep b1).at (R2 := w.heap.size + 1) (by simp))
  have B1 := bup (bel2 w _ _) b1
  clear b1
  obtain ⟨_, a0, a1, a2⟩ := id A1
  obtain ⟨_, x0, x1, x2, x3⟩ := id X1
  go_wp2_with fail
  exact bodyPost_ret (v := .tuple #[.int .i64 0, .int .i64 c]) (by simp [results, Tryd.results26, go_sem]) rfl ⟨rfl, by first | exact B1 | exact (B1.setCell (by simp) _).setCell (by simp) _⟩
set_option maxRecDepth 100000 in
set_option maxHeartbeats 2000000 in
theorem frame_out (n d tn td how te : Int) (dr : Bool) (ht : (te == 0) = false) (w : World)
    (HC : ∀ w, Calls Tryd.prog 16 #[.agg #[.int .i64 n, .int .i64 d, .bool dr]] w fun e w' => e = .returned (.int .i64 0) ∧ Below w.heap.size w w')
    (HT : ∀ w, Calls Tryd.prog 44 #[.agg #[.int .i64 tn, .int .i64 td]] w fun e w' => e = .returned (.int .i64 te) ∧ Below w.heap.size w w') :
    Calls Tryd.prog 26 #[.agg #[.int .i64 n, .int .i64 d, .bool dr], .agg #[.int .i64 tn, .int .i64 td], .int .i64 how] w fun e w' => e = .returned (.tuple #[.int .i64 0, .int .i64 te]) ∧ Below w.heap.size w w' := by
  have HC := hideR HC
  have HT := hideR HT
  go_enter Tryd.func26, Tryd.ntmps26
  go_wp2_with fail
  go_at_call 16
  refine (HC.out _).mono ?_
  rintro e w1 ⟨rfl, b1⟩
  have A1 := (((RateAt.new w n d dr).alloc (.cells #[.int .i64 tn, .int .i64 td] 28)).keep b1)
  have X1 := (((Two.new (w.alloc (.cells #[.int .i64 n, .int .i64 d, .bool dr] 24)) (.int .i64 tn) (.int .i64 td) 28).keep b1).at (R2 := w.heap.size + 1) (by simp))
  have B1 := bup (bel2 w _ _) b1
  clear b1
  obtain ⟨_, a0, a1, a2⟩ := id A1
  obtain ⟨_, x0, x1, x2, x3⟩ := id X1
  go_wp2_with fail
  go_at_call 44
  refine (HT.out _).mono ?_
  rintro e w2 ⟨rfl, b2⟩
  have A2 := (A1.keep b2)
  have X2 := (X1.keep b2)
  have B2 := bup B1 b2
  clear A1 X1 B1 a0 a1 a2 x0 x1 x2 x3
  clear b2
  obtain ⟨_, a0, a1, a2⟩ := id A2
  obtain ⟨_, x0, x1, x2, x3⟩ := id X2
  go_wp2_with fail
  exact bodyPost_ret (v := .tuple #[.int .i64 0, .int .i64 te]) (by simp [results, Tryd.results26, go_sem]) rfl ⟨rfl, by first | exact B2 | exact (B2.setCell (by simp) _).setCell (by simp) _⟩
set_option maxRecDepth 100000 in
set_option maxHeartbeats 2000000 in
theorem frame_kind (n d tn td how : Int) (dr : Bool) (h1 : (how != 1) = true) (h2 : (how != 2) = true) (h3 : (how != 3) = true) (w : World)
    (HC : ∀ w, Calls Tryd.prog 16 #[.agg #[.int .i64 n, .int .i64 d, .bool dr]] w fun e w' => e = .returned (.int .i64 0) ∧ Below w.heap.size w w')
    (HT : ∀ w, Calls Tryd.prog 44 #[.agg #[.int .i64 tn, .int .i64 td]] w fun e w' => e = .returned (.int .i64 0) ∧ Below w.heap.size w w') :
    Calls Tryd.prog 26 #[.agg #[.int .i64 n, .int .i64 d, .bool dr], .agg #[.int .i64 tn, .int .i64 td], .int .i64 how] w fun e w' => e = .returned (.tuple #[.int .i64 0, .int .i64 5]) ∧ Below w.heap.size w w' := by
  have HC := hideR HC
  have HT := hideR HT
  go_enter Tryd.func26, Tryd.ntmps26
  go_wp2_with fail
  go_at_call 16
  refine (HC.out _).mono ?_
  rintro e w1 ⟨rfl, b1⟩
  have A1 := (((RateAt.new w n d dr).alloc (.cells #[.int .i64 tn, .int .i64 td] 28)).keep b1)
  have X1 := (((Two.new (w.alloc (.cells #[.int .i64 n, .int .i64 d, .bool dr] 24)) (.int .i64 tn) (.int .i64 td) 28).keep b1).at (R2 := w.heap.size + 1) (by simp))
  have B1 := bup (bel2 w _ _) b1
  clear b1
  obtain ⟨_, a0, a1, a2⟩ := id A1
  obtain ⟨_, x0, x1, x2, x3⟩ := id X1
  go_wp2_with fail
  go_at_call 44
  refine (HT.out _).mono ?_
  rintro e w2 ⟨rfl, b2⟩
  have A2 := (A1.keep b2)
  have X2 := (X1.keep b2)
  have B2 := bup B1 b2
  clear A1 X1 B1 a0 a1 a2 x0 x1 x2 x3
  clear b2
  obtain ⟨_, a0, a1, a2⟩ := id A2
  obtain ⟨_, x0, x1, x2, x3⟩ := id X2
  go_wp2_with fail
  exact bodyPost_ret (v := .tuple #[.int .i64 0, .int .i64 5]) (by simp [results, Tryd.results26, go_sem]) rfl ⟨rfl, by first | exact B2 | exact (B2.setCell (by simp) _).setCell (by simp) _⟩
end Go.Proofs.YtaipdckakgohjaaDoor
