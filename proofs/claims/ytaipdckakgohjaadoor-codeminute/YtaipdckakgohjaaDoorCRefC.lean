/- surtitleref5.Frame. -/
import Derived.Test.YtaipdckakgohjaaDoorCRefB
import Derived.Test.YtaipdckakgohjaaDoorCdN
namespace Go.Proofs.YtaipdckakgohjaaDoor
open Go.RowKit Go.Shelf
attribute [local go_sem] Oper.semAt_some

theorem ceil_eq (P Q : Int) (hQ : 0 < Q) : (P + Q - 1) / Q = -(-P / Q) := by
  have e1 := Int.mul_ediv_add_emod (P + Q - 1) Q
  have e2 := Int.emod_nonneg (P + Q - 1) (show Q ≠ 0 by omega)
  have e3 := Int.emod_lt_of_pos (P + Q - 1) hQ
  have u : -P / Q = -((P + Q - 1) / Q) ∧ -P % Q = Q * ((P + Q - 1) / Q) - P := (Int.ediv_emod_unique hQ).2 ⟨by rw [Int.mul_neg]; omega, by omega, by omega⟩
  rw [u.1]
  omega
set_option maxRecDepth 100000 in
set_option maxHeartbeats 1000000 in
theorem rframe_bad (n d N D how c : Int) (dr : Bool) (hc : (c == 0) = false) (w : World)
    (HC : ∀ w, Calls Tryd.prog 21 #[.agg #[.int .i64 n, .int .i64 d, .bool dr]] w fun e w' => e = .returned (.int .i64 c) ∧ Below w.heap.size w w') :
    Calls Tryd.prog 27 #[.agg #[.int .i64 n, .int .i64 d, .bool dr], .agg #[.int .i64 N, .int .i64 D], .int .i64 how] w fun e w' => e = .returned (.tuple #[.int .i64 0, .int .i64 14]) ∧ Below w.heap.size w w' := by
  have HC := hideR HC
  go_enter Tryd.func27, Tryd.ntmps27
  go_wp2_with fail
  go_at_call 21
  refine (HC.out _).mono ?_
  rintro e w1 ⟨rfl, b1⟩
  have A1 := (((RateAt.new w n d dr).alloc (.cells #[.int .i64 N, .int .i64 D] 28)).keep b1)
  have X1 := (((Two.new (w.alloc (.cells #[.int .i64 n, .int .i64 d, .bool dr] 24)) (.int .i64 N) (.int .i64 D) 28).keep b1).at (R2 := w.heap.size + 1) (by simp))
  have B1 := bup (bel2 w _ _) b1
  clear b1
  obtain ⟨_, a0, a1, a2⟩ := id A1
  obtain ⟨_, x0, x1, x2, x3⟩ := id X1
  go_wp2_with fail
  exact bodyPost_ret (v := .tuple #[.int .i64 0, .int .i64 14]) (by simp [results, Tryd.results27, go_sem]) rfl ⟨rfl, by first | exact B1 | exact (B1.setCell (by simp) _).setCell (by simp) _⟩
set_option maxRecDepth 100000 in
set_option maxHeartbeats 1000000 in
theorem rframe_out (n d N D how te : Int) (dr : Bool) (ht : (te == 0) = false) (w : World)
    (HC : ∀ w, Calls Tryd.prog 21 #[.agg #[.int .i64 n, .int .i64 d, .bool dr]] w fun e w' => e = .returned (.int .i64 0) ∧ Below w.heap.size w w')
    (HT : ∀ w, Calls Tryd.prog 56 #[.agg #[.int .i64 N, .int .i64 D]] w fun e w' => e = .returned (.int .i64 te) ∧ Below w.heap.size w w') :
    Calls Tryd.prog 27 #[.agg #[.int .i64 n, .int .i64 d, .bool dr], .agg #[.int .i64 N, .int .i64 D], .int .i64 how] w fun e w' => e = .returned (.tuple #[.int .i64 0, .int .i64 te]) ∧ Below w.heap.size w w' := by
  have HC := hideR HC
  have HT := hideR HT
  go_enter Tryd.func27, Tryd.ntmps27
  go_wp2_with fail
  go_at_call 21
  refine (HC.out _).mono ?_
  rintro e w1 ⟨rfl, b1⟩
  have A1 := (((RateAt.new w n d dr).alloc (.cells #[.int .i64 N, .int .i64 D] 28)).keep b1)
  have X1 := (((Two.new (w.alloc (.cells #[.int .i64 n, .int .i64 d, .bool dr] 24)) (.int .i64 N) (.int .i64 D) 28).keep b1).at (R2 := w.heap.size + 1) (by simp))
  have B1 := bup (bel2 w _ _) b1
  clear b1
  obtain ⟨_, a0, a1, a2⟩ := id A1
  obtain ⟨_, x0, x1, x2, x3⟩ := id X1
  go_wp2_with fail
  go_at_call 56
  refine (HT.out _).mono ?_
  rintro e w2 ⟨rfl, b2⟩
  have A2 := (A1.keep b2)
  have X2 := (X1.keep b2)
  have B2 := bup B1 b2
  clear A1 X1 B1 a0 a1 a2 x0 x1 x2 x3
  clear b2
  obtain ⟨_, a0, a1, a2⟩ := id A2
  obtain ⟨_, x0, x1, x2, x3⟩ := id X2
  go_wp2_with fail
  exact bodyPost_ret (v := .tuple #[.int .i64 0, .int .i64 te]) (by simp [results, Tryd.results27, go_sem]) rfl ⟨rfl, by first | exact B2 | exact (B2.setCell (by simp) _).setCell (by simp) _⟩
set_option maxRecDepth 100000 in
set_option maxHeartbeats 1000000 in
theorem rframe_kind (n d N D how P Q : Int) (dr : Bool) (h1 : (how == 1) = false) (h2 : (how == 2) = false) (h3 : (how == 3) = false) (hP : N * n = P) (hQ : D * d = Q) (hP0 : 0 ≤ P) (hP1 : P ≤ 100000000000000000) (hQ0 : 0 < Q) (hQ1 : Q ≤ 2147483648) (w : World)
    (HC : ∀ w, Calls Tryd.prog 21 #[.agg #[.int .i64 n, .int .i64 d, .bool dr]] w fun e w' => e = .returned (.int .i64 0) ∧ Below w.heap.size w w')
    (HT : ∀ w, Calls Tryd.prog 56 #[.agg #[.int .i64 N, .int .i64 D]] w fun e w' => e = .returned (.int .i64 0) ∧ Below w.heap.size w w') :
    Calls Tryd.prog 27 #[.agg #[.int .i64 n, .int .i64 d, .bool dr], .agg #[.int .i64 N, .int .i64 D], .int .i64 how] w fun e w' => e = .returned (.tuple #[.int .i64 0, .int .i64 5]) ∧ Below w.heap.size w w' := by
  have HC := hideR HC
  have HT := hideR HT
  go_enter Tryd.func27, Tryd.ntmps27
  go_wp2_with fail
  go_at_call 21
  refine (HC.out _).mono ?_
  rintro e w1 ⟨rfl, b1⟩
  have A1 := (((RateAt.new w n d dr).alloc (.cells #[.int .i64 N, .int .i64 D] 28)).keep b1)
  have X1 := (((Two.new (w.alloc (.cells #[.int .i64 n, .int .i64 d, .bool dr] 24)) (.int .i64 N) (.int .i64 D) 28).keep b1).at (R2 := w.heap.size + 1) (by simp))
  have B1 := bup (bel2 w _ _) b1
  clear b1
  obtain ⟨_, a0, a1, a2⟩ := id A1
  obtain ⟨_, x0, x1, x2, x3⟩ := id X1
  go_wp2_with fail
  go_at_call 56
  refine (HT.out _).mono ?_
  rintro e w2 ⟨rfl, b2⟩
  have A2 := (A1.keep b2)
  have X2 := (X1.keep b2)
  have B2 := bup B1 b2
  clear A1 X1 B1 a0 a1 a2 x0 x1 x2 x3
  clear b2
  obtain ⟨_, a0, a1, a2⟩ := id A2
  obtain ⟨_, x0, x1, x2, x3⟩ := id X2
  go_wp2_with fail
  skip
  exact bodyPost_ret (v := .tuple #[.int .i64 0, .int .i64 5]) (by simp [results, Tryd.results27, go_sem]) rfl ⟨rfl, by first | exact B2 | exact (B2.setCell (by simp) _).setCell (by simp) _⟩
set_option maxRecDepth 100000 in
set_option maxHeartbeats 1000000 in
theorem rframe_ok1 (n d N D P Q z : Int) (dr : Bool) (hz : P / Q = z) (hP : N * n = P) (hQ : D * d = Q) (hP0 : 0 ≤ P) (hP1 : P ≤ 100000000000000000) (hQ0 : 0 < Q) (hQ1 : Q ≤ 2147483648) (w : World)
    (HC : ∀ w, Calls Tryd.prog 21 #[.agg #[.int .i64 n, .int .i64 d, .bool dr]] w fun e w' => e = .returned (.int .i64 0) ∧ Below w.heap.size w w')
    (HT : ∀ w, Calls Tryd.prog 56 #[.agg #[.int .i64 N, .int .i64 D]] w fun e w' => e = .returned (.int .i64 0) ∧ Below w.heap.size w w') :
    Calls Tryd.prog 27 #[.agg #[.int .i64 n, .int .i64 d, .bool dr], .agg #[.int .i64 N, .int .i64 D], .int .i64 1] w fun e w' => e = .returned (.tuple #[.int .i64 z, .int .i64 0]) ∧ Below w.heap.size w w' := by
  have HC := hideR HC
  have HT := hideR HT
  go_enter Tryd.func27, Tryd.ntmps27
  go_wp2_with fail
  go_at_call 21
  refine (HC.out _).mono ?_
  rintro e w1 ⟨rfl, b1⟩
  have A1 := (((RateAt.new w n d dr).alloc (.cells #[.int .i64 N, .int .i64 D] 28)).keep b1)
  have X1 := (((Two.new (w.alloc (.cells #[.int .i64 n, .int .i64 d, .bool dr] 24)) (.int .i64 N) (.int .i64 D) 28).keep b1).at (R2 := w.heap.size + 1) (by simp))
  have B1 := bup (bel2 w _ _) b1
  clear b1
  obtain ⟨_, a0, a1, a2⟩ := id A1
  obtain ⟨_, x0, x1, x2, x3⟩ := id X1
  go_wp2_with fail
  go_at_call 56
  refine (HT.out _).mono ?_
  rintro e w2 ⟨rfl, b2⟩
  have A2 := (A1.keep b2)
  have X2 := (X1.keep b2)
  have B2 := bup B1 b2
  clear A1 X1 B1 a0 a1 a2 x0 x1 x2 x3
  clear b2
  obtain ⟨_, a0, a1, a2⟩ := id A2
  obtain ⟨_, x0, x1, x2, x3⟩ := id X2
  go_wp2_with fail
  skip
  exact bodyPost_ret (v := .tuple #[.int .i64 z, .int .i64 0]) (by simp [results, Tryd.results27, go_sem, hz]) rfl ⟨rfl, by first | exact B2 | exact (B2.setCell (by simp) _).setCell (by simp) _⟩
set_option maxRecDepth 100000 in
set_option maxHeartbeats 1000000 in
theorem rframe_ok2 (n d N D P Q z : Int) (dr : Bool) (hz : (2 * P + Q) / (2 * Q) = z) (hP : N * n = P) (hQ : D * d = Q) (hP0 : 0 ≤ P) (hP1 : P ≤ 100000000000000000) (hQ0 : 0 < Q) (hQ1 : Q ≤ 2147483648) (w : World)
    (HC : ∀ w, Calls Tryd.prog 21 #[.agg #[.int .i64 n, .int .i64 d, .bool dr]] w fun e w' => e = .returned (.int .i64 0) ∧ Below w.heap.size w w')
    (HT : ∀ w, Calls Tryd.prog 56 #[.agg #[.int .i64 N, .int .i64 D]] w fun e w' => e = .returned (.int .i64 0) ∧ Below w.heap.size w w') :
    Calls Tryd.prog 27 #[.agg #[.int .i64 n, .int .i64 d, .bool dr], .agg #[.int .i64 N, .int .i64 D], .int .i64 2] w fun e w' => e = .returned (.tuple #[.int .i64 z, .int .i64 0]) ∧ Below w.heap.size w w' := by
  have HC := hideR HC
  have HT := hideR HT
  go_enter Tryd.func27, Tryd.ntmps27
  go_wp2_with fail
  go_at_call 21
  refine (HC.out _).mono ?_
  rintro e w1 ⟨rfl, b1⟩
  have A1 := (((RateAt.new w n d dr).alloc (.cells #[.int .i64 N, .int .i64 D] 28)).keep b1)
  have X1 := (((Two.new (w.alloc (.cells #[.int .i64 n, .int .i64 d, .bool dr] 24)) (.int .i64 N) (.int .i64 D) 28).keep b1).at (R2 := w.heap.size + 1) (by simp))
  have B1 := bup (bel2 w _ _) b1
  clear b1
  obtain ⟨_, a0, a1, a2⟩ := id A1
  obtain ⟨_, x0, x1, x2, x3⟩ := id X1
  go_wp2_with fail
  go_at_call 56
  refine (HT.out _).mono ?_
  rintro e w2 ⟨rfl, b2⟩
  have A2 := (A1.keep b2)
  have X2 := (X1.keep b2)
  have B2 := bup B1 b2
  clear A1 X1 B1 a0 a1 a2 x0 x1 x2 x3
  clear b2
  obtain ⟨_, a0, a1, a2⟩ := id A2
  obtain ⟨_, x0, x1, x2, x3⟩ := id X2
  go_wp2_with fail
  skip
  exact bodyPost_ret (v := .tuple #[.int .i64 z, .int .i64 0]) (by simp [results, Tryd.results27, go_sem, hz]) rfl ⟨rfl, by first | exact B2 | exact (B2.setCell (by simp) _).setCell (by simp) _⟩
set_option maxRecDepth 100000 in
set_option maxHeartbeats 1000000 in
theorem rframe_ok3 (n d N D P Q z : Int) (dr : Bool) (hz : (P + Q - 1) / Q = z) (hP : N * n = P) (hQ : D * d = Q) (hP0 : 0 ≤ P) (hP1 : P ≤ 100000000000000000) (hQ0 : 0 < Q) (hQ1 : Q ≤ 2147483648) (w : World)
    (HC : ∀ w, Calls Tryd.prog 21 #[.agg #[.int .i64 n, .int .i64 d, .bool dr]] w fun e w' => e = .returned (.int .i64 0) ∧ Below w.heap.size w w')
    (HT : ∀ w, Calls Tryd.prog 56 #[.agg #[.int .i64 N, .int .i64 D]] w fun e w' => e = .returned (.int .i64 0) ∧ Below w.heap.size w w') :
    Calls Tryd.prog 27 #[.agg #[.int .i64 n, .int .i64 d, .bool dr], .agg #[.int .i64 N, .int .i64 D], .int .i64 3] w fun e w' => e = .returned (.tuple #[.int .i64 z, .int .i64 0]) ∧ Below w.heap.size w w' := by
  have HC := hideR HC
  have HT := hideR HT
  go_enter Tryd.func27, Tryd.ntmps27
  go_wp2_with fail
  go_at_call 21
  refine (HC.out _).mono ?_
  rintro e w1 ⟨rfl, b1⟩
  have A1 := (((RateAt.new w n d dr).alloc (.cells #[.int .i64 N, .int .i64 D] 28)).keep b1)
  have X1 := (((Two.new (w.alloc (.cells #[.int .i64 n, .int .i64 d, .bool dr] 24)) (.int .i64 N) (.int .i64 D) 28).keep b1).at (R2 := w.heap.size + 1) (by simp))
  have B1 := bup (bel2 w _ _) b1
  clear b1
  obtain ⟨_, a0, a1, a2⟩ := id A1
  obtain ⟨_, x0, x1, x2, x3⟩ := id X1
  go_wp2_with fail
  go_at_call 56
  refine (HT.out _).mono ?_
  rintro e w2 ⟨rfl, b2⟩
  have A2 := (A1.keep b2)
  have X2 := (X1.keep b2)
  have B2 := bup B1 b2
  clear A1 X1 B1 a0 a1 a2 x0 x1 x2 x3
  clear b2
  obtain ⟨_, a0, a1, a2⟩ := id A2
  obtain ⟨_, x0, x1, x2, x3⟩ := id X2
  go_wp2_with fail
  skip
  exact bodyPost_ret (v := .tuple #[.int .i64 z, .int .i64 0]) (by simp [results, Tryd.results27, go_sem, hz]) rfl ⟨rfl, by first | exact B2 | exact (B2.setCell (by simp) _).setCell (by simp) _⟩
theorem rframe_any (n d : Int) (dr : Bool) (t : Rt) (how : Int) (w : World) :
    Calls Tryd.prog 27 #[.agg #[.int .i64 n, .int .i64 d, .bool dr], rtv t, .int .i64 how] w fun e w' => e = .returned (.tuple #[.int .i64 (frameF n d dr t how).1, .int .i64 (frameF n d dr t how).2]) ∧ Below w.heap.size w w' := by
  have HC := rcheck_any n d dr
  have HT := timed_any t
  unfold frameF
  by_cases h : checkI n d dr = 0
  · rw [if_pos h]
    rw [h] at HC
    by_cases h1 : timeA t = 0
    · rw [if_pos h1]
      rw [h1] at HT
      obtain ⟨n1, d1, _, _, _⟩ := full_ok n d dr h
      obtain ⟨_, t1, t2, t3, t4⟩ := time_ok h1
      have P0 : 0 ≤ t.N * n := Int.mul_nonneg t3 (by omega)
      have P1 : t.N * n ≤ 377487360000 * 240000 := Int.mul_le_mul (by omega) n1.2 (by omega) (by omega)
      have Q0 : 0 < t.D * d := Int.mul_pos (by omega) (by omega)
      have Q1 : t.D * d ≤ 1048576 * 1001 := Int.mul_le_mul t2 d1.2 (by omega) (by omega)
      by_cases h2 : howB how = true
      · rw [if_pos h2]
        have h3 : how = 1 ∨ how = 2 ∨ how = 3 := by
          unfold howB at h2
          rw [decide_eq_true_iff] at h2
          omega
        rcases h3 with rfl | rfl | rfl
        · exact rframe_ok1 n d t.N t.D _ _ _ dr rfl rfl rfl P0 (by omega) Q0 (by omega) w HC HT
        · exact rframe_ok2 n d t.N t.D _ _ _ dr rfl rfl rfl P0 (by omega) Q0 (by omega) w HC HT
        · have e : wholeI 3 (t.N * n) (t.D * d) = (t.N * n + t.D * d - 1) / (t.D * d) := by
            rw [ceil_eq _ _ Q0]
            rfl
          rw [e]
          exact rframe_ok3 n d t.N t.D _ _ _ dr rfl rfl rfl P0 (by omega) Q0 (by omega) w HC HT
      · rw [if_neg h2]
        have h3 : ¬ how = 1 ∧ ¬ how = 2 ∧ ¬ how = 3 := by
          unfold howB at h2
          rw [decide_eq_true_iff] at h2
          omega
        exact rframe_kind n d t.N t.D how _ _ dr (by simpa using h3.1) (by simpa using h3.2.1) (by simpa using h3.2.2) rfl rfl P0 (by omega) Q0 (by omega) w HC HT
    · rw [if_neg h1]
      exact rframe_out n d t.N t.D how _ dr (by simpa using h1) w HC HT
  · rw [if_neg h]
    rw [(check_two n d dr).resolve_left h] at HC
    exact rframe_bad n d t.N t.D how 14 dr rfl w HC
end Go.Proofs.YtaipdckakgohjaaDoor
