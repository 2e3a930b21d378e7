/- The walk of surtitlelaw5.CodeNear. -/
import Derived.Test.YtaipdckakgohjaaDoorCRefC
namespace Go.Proofs.YtaipdckakgohjaaDoor
open Go.RowKit Go.Shelf
attribute [local go_sem] Oper.semAt_some

set_option maxRecDepth 100000 in
set_option maxHeartbeats 1000000 in
theorem near_bad (n d N D c : Int) (dr : Bool) (hc : (c != 0) = true) (w : World)
    (HK : ∀ w0, Below w.heap.size w w0 → Calls Tryd.prog 15 #[] w0 fun e w' => e = .returned (.bool true) ∧ Below w0.heap.size w0 w')
    (HC : ∀ w, Calls Tryd.prog 21 #[.agg #[.int .i64 n, .int .i64 d, .bool dr]] w fun e w' => e = .returned (.int .i64 c) ∧ Below w.heap.size w w') :
    Calls Tryd.prog 10 #[.agg #[.int .i64 n, .int .i64 d, .bool dr], .agg #[.int .i64 N, .int .i64 D]] w fun e w' => e = .returned (.bool true) ∧ Below w.heap.size w w' := by
  have HK := hideR HK
  have HC := hideR HC
  go_enter Tryd.func10, Tryd.ntmps10
  go_wp2_with fail
  go_at_call 15
  refine (HK.out _ (bel2 w _ _)).mono ?_
  rintro e w1 ⟨rfl, b1⟩
  have A1 := (((RateAt.new w n d dr).alloc (.cells #[.int .i64 N, .int .i64 D] 28)).keep b1)
  have X1 := (((Two.new (w.alloc (.cells #[.int .i64 n, .int .i64 d, .bool dr] 24)) (.int .i64 N) (.int .i64 D) 28).keep b1).at (R2 := w.heap.size + 1) (by simp))
  have B1 := bup (bel2 w _ _) b1
  clear b1
  obtain ⟨_, a0, a1, a2⟩ := id A1
  obtain ⟨_, x0, x1, x2, x3⟩ := id X1
  go_wp2_with fail
  go_at_call 21
  refine (HC.out _).mono ?_
  rintro e w2 ⟨rfl, b2⟩
  have A2 := (A1.keep b2)
  have X2 := (X1.keep b2)
  have B2 := bup B1 b2
  clear A1 X1 B1 a0 a1 a2 x0 x1 x2 x3
  clear b2
  obtain ⟨_, a0, a1, a2⟩ := id A2
  obtain ⟨_, x0, x1, x2, x3⟩ := id X2
  go_wp2_with fail
  go_ret
  exact ⟨rfl, B2⟩
set_option maxRecDepth 100000 in
set_option maxHeartbeats 1000000 in
theorem near_out (n d N D te : Int) (dr : Bool) (ht : (te != 0) = true) (w : World)
    (HK : ∀ w0, Below w.heap.size w w0 → Calls Tryd.prog 15 #[] w0 fun e w' => e = .returned (.bool true) ∧ Below w0.heap.size w0 w')
    (HC : ∀ w, Calls Tryd.prog 21 #[.agg #[.int .i64 n, .int .i64 d, .bool dr]] w fun e w' => e = .returned (.int .i64 0) ∧ Below w.heap.size w w')
    (HT : ∀ w, Calls Tryd.prog 32 #[.agg #[.int .i64 N, .int .i64 D]] w fun e w' => e = .returned (.int .i64 te) ∧ Below w.heap.size w w') :
    Calls Tryd.prog 10 #[.agg #[.int .i64 n, .int .i64 d, .bool dr], .agg #[.int .i64 N, .int .i64 D]] w fun e w' => e = .returned (.bool true) ∧ Below w.heap.size w w' := by
  have HK := hideR HK
  have HC := hideR HC
  have HT := hideR HT
  go_enter Tryd.func10, Tryd.ntmps10
  go_wp2_with fail
  go_at_call 15
  refine (HK.out _ (bel2 w _ _)).mono ?_
  rintro e w1 ⟨rfl, b1⟩
  have A1 := (((RateAt.new w n d dr).alloc (.cells #[.int .i64 N, .int .i64 D] 28)).keep b1)
  have X1 := (((Two.new (w.alloc (.cells #[.int .i64 n, .int .i64 d, .bool dr] 24)) (.int .i64 N) (.int .i64 D) 28).keep b1).at (R2 := w.heap.size + 1) (by simp))
  have B1 := bup (bel2 w _ _) b1
  clear b1
  obtain ⟨_, a0, a1, a2⟩ := id A1
  obtain ⟨_, x0, x1, x2, x3⟩ := id X1
  go_wp2_with fail
  go_at_call 21
  refine (HC.out _).mono ?_
  rintro e w2 ⟨rfl, b2⟩
  have A2 := (A1.keep b2)
  have X2 := (X1.keep b2)
  have B2 := bup B1 b2
  clear A1 X1 B1 a0 a1 a2 x0 x1 x2 x3
  clear b2
  obtain ⟨_, a0, a1, a2⟩ := id A2
  obtain ⟨_, x0, x1, x2, x3⟩ := id X2
  go_wp2_with fail
  go_at_call 32
  refine (HT.out _).mono ?_
  rintro e w3 ⟨rfl, b3⟩
  have A3 := (A2.keep b3)
  have X3 := (X2.keep b3)
  have B3 := bup B2 b3
  clear A2 X2 B2 a0 a1 a2 x0 x1 x2 x3
  clear b3
  obtain ⟨_, a0, a1, a2⟩ := id A3
  obtain ⟨_, x0, x1, x2, x3⟩ := id X3
  go_wp2_with fail
  go_ret
  exact ⟨rfl, B3⟩
set_option maxRecDepth 100000 in
set_option maxHeartbeats 1000000 in
theorem near_eq (n d N D P Q u v x y z : Int) (dr : Bool) (hP : N * n = P) (hQ : D * d = Q) (hP0 : 0 ≤ P) (hP1 : P ≤ 100000000000000000) (hQ0 : 0 < Q) (hQ1 : Q ≤ 2147483648) (hx0 : 0 ≤ x) (hx1 : x ≤ 1073741824) (hu : x * Q = u) (hv : (x + 1) * Q = v) (hv1 : v = u + Q) (h : u = P) (hy : y = x) (hz : z = x) (w : World)
    (HK : ∀ w0, Below w.heap.size w w0 → Calls Tryd.prog 15 #[] w0 fun e w' => e = .returned (.bool true) ∧ Below w0.heap.size w0 w')
    (HC : ∀ w, Calls Tryd.prog 21 #[.agg #[.int .i64 n, .int .i64 d, .bool dr]] w fun e w' => e = .returned (.int .i64 0) ∧ Below w.heap.size w w')
    (HT : ∀ w, Calls Tryd.prog 32 #[.agg #[.int .i64 N, .int .i64 D]] w fun e w' => e = .returned (.int .i64 0) ∧ Below w.heap.size w w')
    (H1 : ∀ w, Calls Tryd.prog 26 #[.agg #[.int .i64 n, .int .i64 d, .bool dr], .agg #[.int .i64 N, .int .i64 D], .int .i64 1] w fun e w' => e = .returned (.tuple #[.int .i64 x, .int .i64 0]) ∧ Below w.heap.size w w')
    (H2 : ∀ w, Calls Tryd.prog 26 #[.agg #[.int .i64 n, .int .i64 d, .bool dr], .agg #[.int .i64 N, .int .i64 D], .int .i64 2] w fun e w' => e = .returned (.tuple #[.int .i64 y, .int .i64 0]) ∧ Below w.heap.size w w')
    (H3 : ∀ w, Calls Tryd.prog 26 #[.agg #[.int .i64 n, .int .i64 d, .bool dr], .agg #[.int .i64 N, .int .i64 D], .int .i64 3] w fun e w' => e = .returned (.tuple #[.int .i64 z, .int .i64 0]) ∧ Below w.heap.size w w') :
    Calls Tryd.prog 10 #[.agg #[.int .i64 n, .int .i64 d, .bool dr], .agg #[.int .i64 N, .int .i64 D]] w fun e w' => e = .returned (.bool true) ∧ Below w.heap.size w w' := by
  have HK := hideR HK
  have HC := hideR HC
  have HT := hideR HT
  have H1 := hideR H1
  have H2 := hideR H2
  have H3 := hideR H3
  go_enter Tryd.func10, Tryd.ntmps10
  go_wp2_with fail
  go_at_call 15
  refine (HK.out _ (bel2 w _ _)).mono ?_
  rintro e w1 ⟨rfl, b1⟩
  have A1 := (((RateAt.new w n d dr).alloc (.cells #[.int .i64 N, .int .i64 D] 28)).keep b1)
  have X1 := (((Two.new (w.alloc (.cells #[.int .i64 n, .int .i64 d, .bool dr] 24)) (.int .i64 N) (.int .i64 D) 28).keep b1).at (R2 := w.heap.size + 1) (by simp))
  have B1 := bup (bel2 w _ _) b1
  clear b1
  obtain ⟨_, a0, a1, a2⟩ := id A1
  obtain ⟨_, x0, x1, x2, x3⟩ := id X1
  go_wp2_with fail
  go_at_call 21
  refine (HC.out _).mono ?_
  rintro e w2 ⟨rfl, b2⟩
  have A2 := (A1.keep b2)
  have X2 := (X1.keep b2)
  have B2 := bup B1 b2
  clear A1 X1 B1 a0 a1 a2 x0 x1 x2 x3
  clear b2
  obtain ⟨_, a0, a1, a2⟩ := id A2
  obtain ⟨_, x0, x1, x2, x3⟩ := id X2
  go_wp2_with fail
  go_at_call 32
  refine (HT.out _).mono ?_
  rintro e w3 ⟨rfl, b3⟩
  have A3 := (A2.keep b3)
  have X3 := (X2.keep b3)
  have B3 := bup B2 b3
  clear A2 X2 B2 a0 a1 a2 x0 x1 x2 x3
  clear b3
  obtain ⟨_, a0, a1, a2⟩ := id A3
  obtain ⟨_, x0, x1, x2, x3⟩ := id X3
  go_wp2_with fail
  go_at_call 26
  refine (H1.out _).mono ?_
  rintro e w4 ⟨rfl, b4⟩
  have A4 := (A3.keep b4)
  have X4 := (X3.keep b4)
  have B4 := bup B3 b4
  clear A3 X3 B3 a0 a1 a2 x0 x1 x2 x3
  clear b4
  obtain ⟨_, a0, a1, a2⟩ := id A4
  obtain ⟨_, x0, x1, x2, x3⟩ := id X4
  go_wp2_with fail
  go_at_call 26
  refine (H2.out _).mono ?_
  rintro e w5 ⟨rfl, b5⟩
  have A5 := (A4.keep b5)
  have X5 := (X4.keep b5)
  have B5 := bup B4 b5
  clear A4 X4 B4 a0 a1 a2 x0 x1 x2 x3
  clear b5
  obtain ⟨_, a0, a1, a2⟩ := id A5
  obtain ⟨_, x0, x1, x2, x3⟩ := id X5
  go_wp2_with fail
  go_at_call 26
  refine (H3.out _).mono ?_
  rintro e w6 ⟨rfl, b6⟩
  have A6 := (A5.keep b6)
  have X6 := (X5.keep b6)
  have B6 := bup B5 b6
  clear A5 X5 B5 a0 a1 a2 x0 x1 x2 x3
  clear b6
  obtain ⟨_, a0, a1, a2⟩ := id A6
  obtain ⟨_, x0, x1, x2, x3⟩ := id X6
  go_wp2_with fail
  go_ret
  exact ⟨by simp, B6⟩
set_option maxRecDepth 100000 in
set_option maxHeartbeats 1000000 in
theorem near_hi (n d N D P Q u v x y z : Int) (dr : Bool) (hP : N * n = P) (hQ : D * d = Q) (hP0 : 0 ≤ P) (hP1 : P ≤ 100000000000000000) (hQ0 : 0 < Q) (hQ1 : Q ≤ 2147483648) (hx0 : 0 ≤ x) (hx1 : x ≤ 1073741824) (hu : x * Q = u) (hv : (x + 1) * Q = v) (hv1 : v = u + Q) (hv2 : P < v) (h : u < P) (h2 : Q ≤ 2 * (P - u)) (hy : y = x + 1) (hz : z = x + 1) (w : World)
    (HK : ∀ w0, Below w.heap.size w w0 → Calls Tryd.prog 15 #[] w0 fun e w' => e = .returned (.bool true) ∧ Below w0.heap.size w0 w')
    (HC : ∀ w, Calls Tryd.prog 21 #[.agg #[.int .i64 n, .int .i64 d, .bool dr]] w fun e w' => e = .returned (.int .i64 0) ∧ Below w.heap.size w w')
    (HT : ∀ w, Calls Tryd.prog 32 #[.agg #[.int .i64 N, .int .i64 D]] w fun e w' => e = .returned (.int .i64 0) ∧ Below w.heap.size w w')
    (H1 : ∀ w, Calls Tryd.prog 26 #[.agg #[.int .i64 n, .int .i64 d, .bool dr], .agg #[.int .i64 N, .int .i64 D], .int .i64 1] w fun e w' => e = .returned (.tuple #[.int .i64 x, .int .i64 0]) ∧ Below w.heap.size w w')
    (H2 : ∀ w, Calls Tryd.prog 26 #[.agg #[.int .i64 n, .int .i64 d, .bool dr], .agg #[.int .i64 N, .int .i64 D], .int .i64 2] w fun e w' => e = .returned (.tuple #[.int .i64 y, .int .i64 0]) ∧ Below w.heap.size w w')
    (H3 : ∀ w, Calls Tryd.prog 26 #[.agg #[.int .i64 n, .int .i64 d, .bool dr], .agg #[.int .i64 N, .int .i64 D], .int .i64 3] w fun e w' => e = .returned (.tuple #[.int .i64 z, .int .i64 0]) ∧ Below w.heap.size w w') :
    Calls Tryd.prog 10 #[.agg #[.int .i64 n, .int .i64 d, .bool dr], .agg #[.int .i64 N, .int .i64 D]] w fun e w' => e = .returned (.bool true) ∧ Below w.heap.size w w' := by
  have HK := hideR HK
  have HC := hideR HC
  have HT := hideR HT
  have H1 := hideR H1
  have H2 := hideR H2
  have H3 := hideR H3
  go_enter Tryd.func10, Tryd.ntmps10
  go_wp2_with fail
  go_at_call 15
  refine (HK.out _ (bel2 w _ _)).mono ?_
  rintro e w1 ⟨rfl, b1⟩
  have A1 := (((RateAt.new w n d dr).alloc (.cells #[.int .i64 N, .int .i64 D] 28)).keep b1)
  have X1 := (((Two.new (w.alloc (.cells #[.int .i64 n, .int .i64 d, .bool dr] 24)) (.int .i64 N) (.int .i64 D) 28).keep b1).at (R2 := w.heap.size + 1) (by simp))
  have B1 := bup (bel2 w _ _) b1
  clear b1
  obtain ⟨_, a0, a1, a2⟩ := id A1
  obtain ⟨_, x0, x1, x2, x3⟩ := id X1
  go_wp2_with fail
  go_at_call 21
  refine (HC.out _).mono ?_
  rintro e w2 ⟨rfl, b2⟩
  have A2 := (A1.keep b2)
  have X2 := (X1.keep b2)
  have B2 := bup B1 b2
  clear A1 X1 B1 a0 a1 a2 x0 x1 x2 x3
  clear b2
  obtain ⟨_, a0, a1, a2⟩ := id A2
  obtain ⟨_, x0, x1, x2, x3⟩ := id X2
  go_wp2_with fail
  go_at_call 32
  refine (HT.out _).mono ?_
  rintro e w3 ⟨rfl, b3⟩
  have A3 := (A2.keep b3)
  have X3 := (X2.keep b3)
  have B3 := bup B2 b3
  clear A2 X2 B2 a0 a1 a2 x0 x1 x2 x3
  clear b3
  obtain ⟨_, a0, a1, a2⟩ := id A3
  obtain ⟨_, x0, x1, x2, x3⟩ := id X3
  go_wp2_with fail
  go_at_call 26
  refine (H1.out _).mono ?_
  rintro e w4 ⟨rfl, b4⟩
  have A4 := (A3.keep b4)
  have X4 := (X3.keep b4)
  have B4 := bup B3 b4
  clear A3 X3 B3 a0 a1 a2 x0 x1 x2 x3
  clear b4
  obtain ⟨_, a0, a1, a2⟩ := id A4
  obtain ⟨_, x0, x1, x2, x3⟩ := id X4
  go_wp2_with fail
  go_at_call 26
  refine (H2.out _).mono ?_
  rintro e w5 ⟨rfl, b5⟩
  have A5 := (A4.keep b5)
  have X5 := (X4.keep b5)
  have B5 := bup B4 b5
  clear A4 X4 B4 a0 a1 a2 x0 x1 x2 x3
  clear b5
  obtain ⟨_, a0, a1, a2⟩ := id A5
  obtain ⟨_, x0, x1, x2, x3⟩ := id X5
  go_wp2_with fail
  go_at_call 26
  refine (H3.out _).mono ?_
  rintro e w6 ⟨rfl, b6⟩
  have A6 := (A5.keep b6)
  have X6 := (X5.keep b6)
  have B6 := bup B5 b6
  clear A5 X5 B5 a0 a1 a2 x0 x1 x2 x3
  clear b6
  obtain ⟨_, a0, a1, a2⟩ := id A6
  obtain ⟨_, x0, x1, x2, x3⟩ := id X6
  go_wp2_with fail
  go_ret
  exact ⟨by simp, B6⟩
set_option maxRecDepth 100000 in
set_option maxHeartbeats 1000000 in
theorem near_lo (n d N D P Q u v x y z : Int) (dr : Bool) (hP : N * n = P) (hQ : D * d = Q) (hP0 : 0 ≤ P) (hP1 : P ≤ 100000000000000000) (hQ0 : 0 < Q) (hQ1 : Q ≤ 2147483648) (hx0 : 0 ≤ x) (hx1 : x ≤ 1073741824) (hu : x * Q = u) (hv : (x + 1) * Q = v) (hv1 : v = u + Q) (hv2 : P < v) (h : u < P) (h2 : 2 * (P - u) < Q) (hy : y = x) (hz : z = x + 1) (w : World)
    (HK : ∀ w0, Below w.heap.size w w0 → Calls Tryd.prog 15 #[] w0 fun e w' => e = .returned (.bool true) ∧ Below w0.heap.size w0 w')
    (HC : ∀ w, Calls Tryd.prog 21 #[.agg #[.int .i64 n, .int .i64 d, .bool dr]] w fun e w' => e = .returned (.int .i64 0) ∧ Below w.heap.size w w')
    (HT : ∀ w, Calls Tryd.prog 32 #[.agg #[.int .i64 N, .int .i64 D]] w fun e w' => e = .returned (.int .i64 0) ∧ Below w.heap.size w w')
    (H1 : ∀ w, Calls Tryd.prog 26 #[.agg #[.int .i64 n, .int .i64 d, .bool dr], .agg #[.int .i64 N, .int .i64 D], .int .i64 1] w fun e w' => e = .returned (.tuple #[.int .i64 x, .int .i64 0]) ∧ Below w.heap.size w w')
    (H2 : ∀ w, Calls Tryd.prog 26 #[.agg #[.int .i64 n, .int .i64 d, .bool dr], .agg #[.int .i64 N, .int .i64 D], .int .i64 2] w fun e w' => e = .returned (.tuple #[.int .i64 y, .int .i64 0]) ∧ Below w.heap.size w w')
    (H3 : ∀ w, Calls Tryd.prog 26 #[.agg #[.int .i64 n, .int .i64 d, .bool dr], .agg #[.int .i64 N, .int .i64 D], .int .i64 3] w fun e w' => e = .returned (.tuple #[.int .i64 z, .int .i64 0]) ∧ Below w.heap.size w w') :
    Calls Tryd.prog 10 #[.agg #[.int .i64 n, .int .i64 d, .bool dr], .agg #[.int .i64 N, .int .i64 D]] w fun e w' => e = .returned (.bool true) ∧ Below w.heap.size w w' := by
  have HK := hideR HK
  have HC := hideR HC
  have HT := hideR HT
  have H1 := hideR H1
  have H2 := hideR H2
  have H3 := hideR H3
  go_enter Tryd.func10, Tryd.ntmps10
  go_wp2_with fail
  go_at_call 15
  refine (HK.out _ (bel2 w _ _)).mono ?_
  rintro e w1 ⟨rfl, b1⟩
  have A1 := (((RateAt.new w n d dr).alloc (.cells #[.int .i64 N, .int .i64 D] 28)).keep b1)
  have X1 := (((Two.new (w.alloc (.cells #[.int .i64 n, .int .i64 d, .bool dr] 24)) (.int .i64 N) (.int .i64 D) 28).keep b1).at (R2 := w.heap.size + 1) (by simp))
  have B1 := bup (bel2 w _ _) b1
  clear b1
  obtain ⟨_, a0, a1, a2⟩ := id A1
  obtain ⟨_, x0, x1, x2, x3⟩ := id X1
  go_wp2_with fail
  go_at_call 21
  refine (HC.out _).mono ?_
  rintro e w2 ⟨rfl, b2⟩
  have A2 := (A1.keep b2)
  have X2 := (X1.keep b2)
  have B2 := bup B1 b2
  clear A1 X1 B1 a0 a1 a2 x0 x1 x2 x3
  clear b2
  obtain ⟨_, a0, a1, a2⟩ := id A2
  obtain ⟨_, x0, x1, x2, x3⟩ := id X2
  go_wp2_with fail
  go_at_call 32
  refine (HT.out _).mono ?_
  rintro e w3 ⟨rfl, b3⟩
  have A3 := (A2.keep b3)
  have X3 := (X2.keep b3)
  have B3 := bup B2 b3
  clear A2 X2 B2 a0 a1 a2 x0 x1 x2 x3
  clear b3
  obtain ⟨_, a0, a1, a2⟩ := id A3
  obtain ⟨_, x0, x1, x2, x3⟩ := id X3
  go_wp2_with fail
  go_at_call 26
  refine (H1.out _).mono ?_
  rintro e w4 ⟨rfl, b4⟩
  have A4 := (A3.keep b4)
  have X4 := (X3.keep b4)
  have B4 := bup B3 b4
  clear A3 X3 B3 a0 a1 a2 x0 x1 x2 x3
  clear b4
  obtain ⟨_, a0, a1, a2⟩ := id A4
  obtain ⟨_, x0, x1, x2, x3⟩ := id X4
  go_wp2_with fail
  go_at_call 26
  refine (H2.out _).mono ?_
  rintro e w5 ⟨rfl, b5⟩
  have A5 := (A4.keep b5)
  have X5 := (X4.keep b5)
  have B5 := bup B4 b5
  clear A4 X4 B4 a0 a1 a2 x0 x1 x2 x3
  clear b5
  obtain ⟨_, a0, a1, a2⟩ := id A5
  obtain ⟨_, x0, x1, x2, x3⟩ := id X5
  go_wp2_with fail
  go_at_call 26
  refine (H3.out _).mono ?_
  rintro e w6 ⟨rfl, b6⟩
  have A6 := (A5.keep b6)
  have X6 := (X5.keep b6)
  have B6 := bup B5 b6
  clear A5 X5 B5 a0 a1 a2 x0 x1 x2 x3
  clear b6
  obtain ⟨_, a0, a1, a2⟩ := id A6
  obtain ⟨_, x0, x1, x2, x3⟩ := id X6
  go_wp2_with fail
  go_ret
  exact ⟨by simp, B6⟩
theorem near5_any (n d : Int) (dr : Bool) (hn : I64 n) (hd : I64 d) (t : Rt) (ht : RtIn t) (w : World) (hp : PowAt w) :
    Calls Tryd.prog 10 #[.agg #[.int .i64 n, .int .i64 d, .bool dr], rtv t] w fun e w' => e = .returned (.bool true) ∧ Below w.heap.size w w' := by
  have HK := fun (w0 : World) (b0 : Below w.heap.size w w0) => known5_any w0 (hp.keep b0)
  have HC := rcheck_any n d dr
  have HT := rtime_any t ht
  by_cases h : checkI n d dr = 0
  · rw [h] at HC
    by_cases h1 : timeA t = 0
    · rw [h1] at HT
      have F1 := frame5_any n d dr hn hd t ht 1
      have F2 := frame5_any n d dr hn hd t ht 2
      have F3 := frame5_any n d dr hn hd t ht 3
      unfold frameF at F1 F2 F3
      rw [if_pos h, if_pos h1, if_pos (by decide)] at F1 F2 F3
      obtain ⟨n1, d1, _, nd, _⟩ := full_ok n d dr h
      obtain ⟨_, t1, t2, t3, t4⟩ := time_ok h1
      have P0 : 0 ≤ t.N * n := Int.mul_nonneg t3 (by omega)
      have P1 : t.N * n ≤ 377487360000 * 240000 := Int.mul_le_mul (by omega) n1.2 (by omega) (by omega)
      have Q0 : 0 < t.D * d := Int.mul_pos (by omega) (by omega)
      have Q1 : t.D * d ≤ 1048576 * 1001 := Int.mul_le_mul t2 d1.2 (by omega) (by omega)
      have PQ : t.N * n ≤ 360000 * t.D * (d * 240) := Int.mul_le_mul t4 nd (by omega) (by omega)
      have PQ2 : t.N * n ≤ 86400000 * (t.D * d) := by
        rw [show 86400000 * (t.D * d) = 360000 * t.D * (d * 240) by rw [show (86400000 : Int) = 360000 * 240 by omega, Int.mul_assoc 360000 240, Int.mul_assoc 360000 t.D, Int.mul_comm 240, Int.mul_assoc t.D d]]
        exact PQ
      have e3 : wholeI 3 (t.N * n) (t.D * d) = (t.N * n + t.D * d - 1) / (t.D * d) := by
        rw [ceil_eq _ _ Q0]
        rfl
      have e1 : wholeI 1 (t.N * n) (t.D * d) = t.N * n / (t.D * d) := rfl
      have e2 : wholeI 2 (t.N * n) (t.D * d) = (2 * (t.N * n) + t.D * d) / (2 * (t.D * d)) := rfl
      rw [e1] at F1
      rw [e2] at F2
      rw [e3] at F3
      simp only at F1 F2 F3
      obtain ⟨P, hP⟩ : ∃ P, t.N * n = P := ⟨_, rfl⟩
      obtain ⟨Q, hQ⟩ : ∃ Q, t.D * d = Q := ⟨_, rfl⟩
      rw [hP, hQ] at F1 F2 F3
      rw [hP] at P0 P1 PQ2
      rw [hQ] at Q0 Q1 PQ2
      have dm := Int.mul_ediv_add_emod P Q
      have m0 := Int.emod_nonneg P (show Q ≠ 0 by omega)
      have m1 := Int.emod_lt_of_pos P Q0
      obtain ⟨x, hx⟩ : ∃ x, P / Q = x := ⟨_, rfl⟩
      obtain ⟨r, hr⟩ : ∃ r, P % Q = r := ⟨_, rfl⟩
      have x0 : 0 ≤ x := by rw [← hx]; exact Int.ediv_nonneg P0 (by omega)
      have x1 : x ≤ 86400000 := by
        rw [← hx]
        have : P / Q < 86400001 := (Int.ediv_lt_iff_lt_mul Q0).2 (by omega)
        omega
      rw [hx, hr] at dm
      rw [hr] at m0 m1
      rw [hx] at F1
      have hv : (x + 1) * Q = x * Q + Q := by rw [Int.add_mul, Int.one_mul]
      have hc : Q * x = x * Q := Int.mul_comm _ _
      by_cases r0 : r = 0
      · have y1 : (2 * P + Q) / (2 * Q) = x := (Int.ediv_emod_unique (by omega) (r := Q) |>.2 ⟨by rw [Int.mul_assoc, hc]; omega, by omega, by omega⟩).1
        have z1 : (P + Q - 1) / Q = x := (Int.ediv_emod_unique Q0 (r := Q - 1) |>.2 ⟨by omega, by omega, by omega⟩).1
        exact near_eq n d t.N t.D P Q (x * Q) _ x _ _ dr hP hQ P0 (by omega) Q0 (by omega) x0 (by omega) rfl hv rfl (by omega) y1 z1 w HK HC HT F1 F2 F3
      · have z1 : (P + Q - 1) / Q = x + 1 := (Int.ediv_emod_unique Q0 (r := r - 1) |>.2 ⟨by rw [Int.mul_add, Int.mul_one]; omega, by omega, by omega⟩).1
        by_cases r1 : Q ≤ 2 * r
        · have y1 : (2 * P + Q) / (2 * Q) = x + 1 := (Int.ediv_emod_unique (by omega) (r := 2 * r - Q) |>.2 ⟨by rw [Int.mul_add, Int.mul_one, Int.mul_assoc, hc]; omega, by omega, by omega⟩).1
          exact near_hi n d t.N t.D P Q (x * Q) _ x _ _ dr hP hQ P0 (by omega) Q0 (by omega) x0 (by omega) rfl hv rfl (by omega) (by omega) (by omega) y1 z1 w HK HC HT F1 F2 F3
        · have y1 : (2 * P + Q) / (2 * Q) = x := (Int.ediv_emod_unique (by omega) (r := 2 * r + Q) |>.2 ⟨by rw [Int.mul_assoc, hc]; omega, by omega, by omega⟩).1
          exact near_lo n d t.N t.D P Q (x * Q) _ x _ _ dr hP hQ P0 (by omega) Q0 (by omega) x0 (by omega) rfl hv rfl (by omega) (by omega) (by omega) y1 z1 w HK HC HT F1 F2 F3
    · exact near_out n d t.N t.D _ dr (by simpa using h1) w HK HC HT
  · rw [(check_two n d dr).resolve_left h] at HC
    exact near_bad n d t.N t.D 14 dr rfl w HK HC
end Go.Proofs.YtaipdckakgohjaaDoor
