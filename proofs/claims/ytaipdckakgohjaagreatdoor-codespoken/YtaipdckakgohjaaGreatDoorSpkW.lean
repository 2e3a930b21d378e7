/- The walk of surtitlelaw5.CodeSpoken. -/
import Derived.Test.YtaipdckakgohjaaGreatDoorGF
namespace Go.Proofs.YtaipdckakgohjaaGreatDoor
open Go.RowKit Go.Shelf
attribute [local go_sem] Oper.semAt_some

set_option maxRecDepth 100000 in
set_option maxHeartbeats 4000000 in
theorem spk_1b (one two n d k1 k2 an ad bn bd : Int) (dr : Bool) (c : Int) (x y : ByteArray) (hcase : (x.size = y.size ∧ Op.bytesLess x.toList y.toList = true ∧ c < 0) ∨ (x.size = y.size ∧ Op.bytesLess x.toList y.toList = false ∧ ¬ c < 0) ∨ (x.size < y.size ∧ c < 0) ∨ y.size < x.size) (w : World)
    (HK : ∀ w0, Below w.heap.size w w0 → Calls Tryz.prog 6 #[] w0 fun e w' => e = .returned (.bool true) ∧ Below w0.heap.size w0 w')
    (W1 : ∀ w, Calls Tryz.prog 13 #[.int .i64 one, .int .i64 360000001] w fun e w' => e = .returned (.int .i64 k1) ∧ w' = w)
    (W2 : ∀ w, Calls Tryz.prog 13 #[.int .i64 two, .int .i64 360000001] w fun e w' => e = .returned (.int .i64 k2) ∧ w' = w)
    (N1 : ∀ w, Calls Tryz.prog 16 #[.int .i64 k1, .int .i64 1000] w fun e w' => e = .returned (.tuple #[.agg #[.int .i64 an, .int .i64 ad], .int .i64 0]) ∧ Below w.heap.size w w')
    (N2 : ∀ w, Calls Tryz.prog 16 #[.int .i64 k2, .int .i64 1000] w fun e w' => e = .returned (.tuple #[.agg #[.int .i64 bn, .int .i64 bd], .int .i64 0]) ∧ Below w.heap.size w w')
    (C1 : ∀ w0, Below w.heap.size w w0 → Calls Tryz.prog 17 #[.int .i64 1, .agg #[.int .i64 an, .int .i64 ad]] w0 fun e w' => e = .returned (.tuple #[.string x, .int .i64 0]) ∧ Below w0.heap.size w0 w')
    (C2 : ∀ w0, Below w.heap.size w w0 → Calls Tryz.prog 17 #[.int .i64 1, .agg #[.int .i64 bn, .int .i64 bd]] w0 fun e w' => e = .returned (.tuple #[.string y, .int .i64 0]) ∧ Below w0.heap.size w0 w')
    (PC : ∀ w, Calls Tryz.prog 7 #[.int .i64 1, .string x] w fun e w' => e = .returned (.tuple #[.agg #[.int .i64 an, .int .i64 ad], .int .i64 0]) ∧ Below w.heap.size w w')
    (CM : ∀ w, Calls Tryz.prog 18 #[.agg #[.int .i64 an, .int .i64 ad], .agg #[.int .i64 bn, .int .i64 bd]] w fun e w' => e = .returned (.int .i64 c) ∧ Below w.heap.size w w')
    (RT : ∀ w0, Below w.heap.size w w0 → Calls Tryz.prog 19 #[.agg #[.int .i64 n, .int .i64 d, .bool dr]] w0 fun e w' => e = .returned (.tuple #[.string ⟨#[]⟩, .int .i64 14]) ∧ Below w0.heap.size w0 w')
    (CK : ∀ w, Calls Tryz.prog 20 #[.agg #[.int .i64 n, .int .i64 d, .bool dr]] w fun e w' => e = .returned (.int .i64 14) ∧ Below w.heap.size w w') :
    Calls Tryz.prog 5 #[.int .i64 1, .int .i64 one, .int .i64 two, .agg #[.int .i64 n, .int .i64 d, .bool dr]] w fun e w' => e = .returned (.bool true) ∧ Below w.heap.size w w' := by
  have HK := hideR HK
  have W1 := hideR W1
  have W2 := hideR W2
  have N1 := hideR N1
  have N2 := hideR N2
  have C1 := hideR C1
  have C2 := hideR C2
  have PC := hideR PC
  have CM := hideR CM
  have RT := hideR RT
  have CK := hideR CK
  have HC := hideR hcase
  clear hcase
  go_enter Tryz.func5, Tryz.ntmps5
  go_wp2_with fail
  go_at_call 6
  refine (HK.out _ (bel1 w _)).mono ?_
  rintro e w1 ⟨rfl, b1⟩
  have A1 := ((RateAt.new w n d dr).keep b1)
  have B1 := bup (bel1 w _) b1
  clear b1
  obtain ⟨_, a0, a1, a2⟩ := id A1
  go_wp2_with fail
  go_at_call 13
  refine (W1.out _).mono ?_
  rintro e wv ⟨rfl, hwv⟩
  obtain rfl := hwv.symm
  clear hwv
  go_wp2_with fail
  go_at_call 16
  refine (N1.out _).mono ?_
  rintro e w2 ⟨rfl, b2⟩
  have A2 := (A1.keep b2).alloc (.cells #[.int .i64 an, .int .i64 ad] 24)
  have B2 := bup (bup B1 b2) (bel1 w2 (.cells #[.int .i64 an, .int .i64 ad] 24))
  clear A1 B1 a0 a1 a2
  clear b2
  have T2 := Two.new w2 (.int .i64 an) (.int .i64 ad) 24
  obtain ⟨_, a0, a1, a2⟩ := id A2
  obtain ⟨_, t0, t1, t2, t3⟩ := id T2
  go_wp2_with fail
  go_at_call 13
  refine (W2.out _).mono ?_
  rintro e wv ⟨rfl, hwv⟩
  obtain rfl := hwv.symm
  clear hwv
  go_wp2_with fail
  go_at_call 16
  refine (N2.out _).mono ?_
  rintro e w3 ⟨rfl, b3⟩
  have A3 := (A2.keep b3).alloc (.cells #[.int .i64 bn, .int .i64 bd] 24)
  have T3 := (T2.keep b3).alloc (.cells #[.int .i64 bn, .int .i64 bd] 24)
  have B3 := bup (bup B2 b3) (bel1 w3 (.cells #[.int .i64 bn, .int .i64 bd] 24))
  clear A2 T2 B2 a0 a1 a2 t0 t1 t2 t3
  clear b3
  have U3 := Two.new w3 (.int .i64 bn) (.int .i64 bd) 24
  obtain ⟨_, a0, a1, a2⟩ := id A3
  obtain ⟨_, t0, t1, t2, t3⟩ := id T3
  obtain ⟨_, u0, u1, u2, u3⟩ := id U3
  go_wp2_with fail
  go_at_call 17
  refine (C1.out _ B3).mono ?_
  rintro e w4 ⟨rfl, b4⟩
  have A4 := (A3.keep b4)
  have T4 := (T3.keep b4)
  have U4 := (U3.keep b4)
  have B4 := bup B3 b4
  clear A3 T3 U3 B3 a0 a1 a2 t0 t1 t2 t3 u0 u1 u2 u3
  clear b4
  obtain ⟨_, a0, a1, a2⟩ := id A4
  obtain ⟨_, t0, t1, t2, t3⟩ := id T4
  obtain ⟨_, u0, u1, u2, u3⟩ := id U4
  go_wp2_with fail
  go_at_call 17
  refine (C2.out _ B4).mono ?_
  rintro e w5 ⟨rfl, b5⟩
  have A5 := (A4.keep b5)
  have T5 := (T4.keep b5)
  have U5 := (U4.keep b5)
  have B5 := bup B4 b5
  clear A4 T4 U4 B4 a0 a1 a2 t0 t1 t2 t3 u0 u1 u2 u3
  clear b5
  obtain ⟨_, a0, a1, a2⟩ := id A5
  obtain ⟨_, t0, t1, t2, t3⟩ := id T5
  obtain ⟨_, u0, u1, u2, u3⟩ := id U5
  go_wp2_with fail
  go_at_call 7
  refine (PC.out _).mono ?_
  rintro e w6 ⟨rfl, b6⟩
  have A6 := (A5.keep b6).alloc (.cells #[.int .i64 an, .int .i64 ad] 24)
  have T6 := (T5.keep b6).alloc (.cells #[.int .i64 an, .int .i64 ad] 24)
  have U6 := (U5.keep b6).alloc (.cells #[.int .i64 an, .int .i64 ad] 24)
  have B6 := bup (bup B5 b6) (bel1 w6 (.cells #[.int .i64 an, .int .i64 ad] 24))
  clear A5 T5 U5 B5 a0 a1 a2 t0 t1 t2 t3 u0 u1 u2 u3
  clear b6
  have C6 := Two.new w6 (.int .i64 an) (.int .i64 ad) 24
  obtain ⟨_, a0, a1, a2⟩ := id A6
  obtain ⟨_, t0, t1, t2, t3⟩ := id T6
  obtain ⟨_, u0, u1, u2, u3⟩ := id U6
  obtain ⟨_, c0, c1, c2, c3⟩ := id C6
  rcases HC.out with ⟨q1, q2, q3⟩ | ⟨q1, q2, q3⟩ | ⟨q1, q3⟩ | q1
  · have q4 : (x.size : Int) = (y.size : Int) := by omega
    have q5 : ((x.size : Int) == (y.size : Int)) = true := by rw [beq_iff_eq]; exact q4
    have q6 : ¬ (x.size : Int) < (y.size : Int) := by omega
    clear HC
    go_wp2_with fail
    go_at_call 18
    refine (CM.out _).mono ?_
    rintro e w7 ⟨rfl, b7⟩
    have A7 := (A6.keep b7)
    have T7 := (T6.keep b7)
    have U7 := (U6.keep b7)
    have C7 := (C6.keep b7)
    have B7 := bup B6 b7
    clear A6 T6 U6 C6 B6 a0 a1 a2 t0 t1 t2 t3 u0 u1 u2 u3 c0 c1 c2 c3
    clear b7
    obtain ⟨_, a0, a1, a2⟩ := id A7
    obtain ⟨_, t0, t1, t2, t3⟩ := id T7
    obtain ⟨_, u0, u1, u2, u3⟩ := id U7
    obtain ⟨_, c0, c1, c2, c3⟩ := id C7
    go_wp2_with fail
    go_at_call 19
    refine (RT.out _ B7).mono ?_
    rintro e w8 ⟨rfl, b8⟩
    have A8 := (A7.keep b8)
    have T8 := (T7.keep b8)
    have U8 := (U7.keep b8)
    have C8 := (C7.keep b8)
    have B8 := bup B7 b8
    clear A7 T7 U7 C7 B7 a0 a1 a2 t0 t1 t2 t3 u0 u1 u2 u3 c0 c1 c2 c3
    clear b8
    obtain ⟨_, a0, a1, a2⟩ := id A8
    obtain ⟨_, t0, t1, t2, t3⟩ := id T8
    obtain ⟨_, u0, u1, u2, u3⟩ := id U8
    obtain ⟨_, c0, c1, c2, c3⟩ := id C8
    go_wp2_with fail
    go_at_call 20
    refine (CK.out _).mono ?_
    rintro e w9 ⟨rfl, b9⟩
    have A9 := (A8.keep b9)
    have T9 := (T8.keep b9)
    have U9 := (U8.keep b9)
    have C9 := (C8.keep b9)
    have B9 := bup B8 b9
    clear A8 T8 U8 C8 B8 a0 a1 a2 t0 t1 t2 t3 u0 u1 u2 u3 c0 c1 c2 c3
    clear b9
    obtain ⟨_, a0, a1, a2⟩ := id A9
    obtain ⟨_, t0, t1, t2, t3⟩ := id T9
    obtain ⟨_, u0, u1, u2, u3⟩ := id U9
    obtain ⟨_, c0, c1, c2, c3⟩ := id C9
    go_wp2_with fail
    go_ret
    exact ⟨by simp, B9⟩
  · have q4 : (x.size : Int) = (y.size : Int) := by omega
    have q5 : ((x.size : Int) == (y.size : Int)) = true := by rw [beq_iff_eq]; exact q4
    have q6 : ¬ (x.size : Int) < (y.size : Int) := by omega
    clear HC
    go_wp2_with fail
    go_at_call 18
    refine (CM.out _).mono ?_
    rintro e w7 ⟨rfl, b7⟩
    have A7 := (A6.keep b7)
    have T7 := (T6.keep b7)
    have U7 := (U6.keep b7)
    have C7 := (C6.keep b7)
    have B7 := bup B6 b7
    clear A6 T6 U6 C6 B6 a0 a1 a2 t0 t1 t2 t3 u0 u1 u2 u3 c0 c1 c2 c3
    clear b7
    obtain ⟨_, a0, a1, a2⟩ := id A7
    obtain ⟨_, t0, t1, t2, t3⟩ := id T7
    obtain ⟨_, u0, u1, u2, u3⟩ := id U7
    obtain ⟨_, c0, c1, c2, c3⟩ := id C7
    go_wp2_with fail
    go_at_call 19
    refine (RT.out _ B7).mono ?_
    rintro e w8 ⟨rfl, b8⟩
    have A8 := (A7.keep b8)
    have T8 := (T7.keep b8)
    have U8 := (U7.keep b8)
    have C8 := (C7.keep b8)
    have B8 := bup B7 b8
    clear A7 T7 U7 C7 B7 a0 a1 a2 t0 t1 t2 t3 u0 u1 u2 u3 c0 c1 c2 c3
    clear b8
    obtain ⟨_, a0, a1, a2⟩ := id A8
    obtain ⟨_, t0, t1, t2, t3⟩ := id T8
    obtain ⟨_, u0, u1, u2, u3⟩ := id U8
    obtain ⟨_, c0, c1, c2, c3⟩ := id C8
    go_wp2_with fail
    go_at_call 20
    refine (CK.out _).mono ?_
    rintro e w9 ⟨rfl, b9⟩
    have A9 := (A8.keep b9)
    have T9 := (T8.keep b9)
    have U9 := (U8.keep b9)
    have C9 := (C8.keep b9)
    have B9 := bup B8 b9
    clear A8 T8 U8 C8 B8 a0 a1 a2 t0 t1 t2 t3 u0 u1 u2 u3 c0 c1 c2 c3
    clear b9
    obtain ⟨_, a0, a1, a2⟩ := id A9
    obtain ⟨_, t0, t1, t2, t3⟩ := id T9
    obtain ⟨_, u0, u1, u2, u3⟩ := id U9
    obtain ⟨_, c0, c1, c2, c3⟩ := id C9
    go_wp2_with fail
    go_ret
    exact ⟨by simp, B9⟩
  · have q4 : (x.size : Int) < (y.size : Int) := by omega
    have q7 : ¬ x.size = y.size := by omega
    have q5 : ((x.size : Int) == (y.size : Int)) = false := by rw [beq_eq_false_iff_ne]; omega
    clear HC
    go_wp2_with fail
    go_at_call 18
    refine (CM.out _).mono ?_
    rintro e w7 ⟨rfl, b7⟩
    have A7 := (A6.keep b7)
    have T7 := (T6.keep b7)
    have U7 := (U6.keep b7)
    have C7 := (C6.keep b7)
    have B7 := bup B6 b7
    clear A6 T6 U6 C6 B6 a0 a1 a2 t0 t1 t2 t3 u0 u1 u2 u3 c0 c1 c2 c3
    clear b7
    obtain ⟨_, a0, a1, a2⟩ := id A7
    obtain ⟨_, t0, t1, t2, t3⟩ := id T7
    obtain ⟨_, u0, u1, u2, u3⟩ := id U7
    obtain ⟨_, c0, c1, c2, c3⟩ := id C7
    go_wp2_with fail
    go_at_call 19
    refine (RT.out _ B7).mono ?_
    rintro e w8 ⟨rfl, b8⟩
    have A8 := (A7.keep b8)
    have T8 := (T7.keep b8)
    have U8 := (U7.keep b8)
    have C8 := (C7.keep b8)
    have B8 := bup B7 b8
    clear A7 T7 U7 C7 B7 a0 a1 a2 t0 t1 t2 t3 u0 u1 u2 u3 c0 c1 c2 c3
    clear b8
    obtain ⟨_, a0, a1, a2⟩ := id A8
    obtain ⟨_, t0, t1, t2, t3⟩ := id T8
    obtain ⟨_, u0, u1, u2, u3⟩ := id U8
    obtain ⟨_, c0, c1, c2, c3⟩ := id C8
    go_wp2_with fail
    go_at_call 20
    refine (CK.out _).mono ?_
    rintro e w9 ⟨rfl, b9⟩
    have A9 := (A8.keep b9)
    have T9 := (T8.keep b9)
    have U9 := (U8.keep b9)
    have C9 := (C8.keep b9)
    have B9 := bup B8 b9
    clear A8 T8 U8 C8 B8 a0 a1 a2 t0 t1 t2 t3 u0 u1 u2 u3 c0 c1 c2 c3
    clear b9
    obtain ⟨_, a0, a1, a2⟩ := id A9
    obtain ⟨_, t0, t1, t2, t3⟩ := id T9
    obtain ⟨_, u0, u1, u2, u3⟩ := id U9
    obtain ⟨_, c0, c1, c2, c3⟩ := id C9
    go_wp2_with fail
    go_ret
    exact ⟨by simp, B9⟩
  · have q6 : ¬ (x.size : Int) < (y.size : Int) := by omega
    have q7 : ¬ x.size = y.size := by omega
    have q5 : ((x.size : Int) == (y.size : Int)) = false := by rw [beq_eq_false_iff_ne]; omega
    clear HC
    go_wp2_with fail
    go_at_call 19
    refine (RT.out _ B6).mono ?_
    rintro e w7 ⟨rfl, b7⟩
    have A7 := (A6.keep b7)
    have T7 := (T6.keep b7)
    have U7 := (U6.keep b7)
    have C7 := (C6.keep b7)
    have B7 := bup B6 b7
    clear A6 T6 U6 C6 B6 a0 a1 a2 t0 t1 t2 t3 u0 u1 u2 u3 c0 c1 c2 c3
    clear b7
    obtain ⟨_, a0, a1, a2⟩ := id A7
    obtain ⟨_, t0, t1, t2, t3⟩ := id T7
    obtain ⟨_, u0, u1, u2, u3⟩ := id U7
    obtain ⟨_, c0, c1, c2, c3⟩ := id C7
    go_wp2_with fail
    go_at_call 20
    refine (CK.out _).mono ?_
    rintro e w8 ⟨rfl, b8⟩
    have A8 := (A7.keep b8)
    have T8 := (T7.keep b8)
    have U8 := (U7.keep b8)
    have C8 := (C7.keep b8)
    have B8 := bup B7 b8
    clear A7 T7 U7 C7 B7 a0 a1 a2 t0 t1 t2 t3 u0 u1 u2 u3 c0 c1 c2 c3
    clear b8
    obtain ⟨_, a0, a1, a2⟩ := id A8
    obtain ⟨_, t0, t1, t2, t3⟩ := id T8
    obtain ⟨_, u0, u1, u2, u3⟩ := id U8
    obtain ⟨_, c0, c1, c2, c3⟩ := id C8
    go_wp2_with fail
    go_ret
    exact ⟨by simp, B8⟩
set_option maxRecDepth 100000 in
set_option maxHeartbeats 4000000 in
theorem spk_1k (one two n d k1 k2 an ad bn bd : Int) (dr : Bool) (c : Int) (x y : ByteArray) (s : ByteArray) (hcase : (x.size = y.size ∧ Op.bytesLess x.toList y.toList = true ∧ c < 0) ∨ (x.size = y.size ∧ Op.bytesLess x.toList y.toList = false ∧ ¬ c < 0) ∨ (x.size < y.size ∧ c < 0) ∨ y.size < x.size) (w : World)
    (HK : ∀ w0, Below w.heap.size w w0 → Calls Tryz.prog 6 #[] w0 fun e w' => e = .returned (.bool true) ∧ Below w0.heap.size w0 w')
    (W1 : ∀ w, Calls Tryz.prog 13 #[.int .i64 one, .int .i64 360000001] w fun e w' => e = .returned (.int .i64 k1) ∧ w' = w)
    (W2 : ∀ w, Calls Tryz.prog 13 #[.int .i64 two, .int .i64 360000001] w fun e w' => e = .returned (.int .i64 k2) ∧ w' = w)
    (N1 : ∀ w, Calls Tryz.prog 16 #[.int .i64 k1, .int .i64 1000] w fun e w' => e = .returned (.tuple #[.agg #[.int .i64 an, .int .i64 ad], .int .i64 0]) ∧ Below w.heap.size w w')
    (N2 : ∀ w, Calls Tryz.prog 16 #[.int .i64 k2, .int .i64 1000] w fun e w' => e = .returned (.tuple #[.agg #[.int .i64 bn, .int .i64 bd], .int .i64 0]) ∧ Below w.heap.size w w')
    (C1 : ∀ w0, Below w.heap.size w w0 → Calls Tryz.prog 17 #[.int .i64 1, .agg #[.int .i64 an, .int .i64 ad]] w0 fun e w' => e = .returned (.tuple #[.string x, .int .i64 0]) ∧ Below w0.heap.size w0 w')
    (C2 : ∀ w0, Below w.heap.size w w0 → Calls Tryz.prog 17 #[.int .i64 1, .agg #[.int .i64 bn, .int .i64 bd]] w0 fun e w' => e = .returned (.tuple #[.string y, .int .i64 0]) ∧ Below w0.heap.size w0 w')
    (PC : ∀ w, Calls Tryz.prog 7 #[.int .i64 1, .string x] w fun e w' => e = .returned (.tuple #[.agg #[.int .i64 an, .int .i64 ad], .int .i64 0]) ∧ Below w.heap.size w w')
    (CM : ∀ w, Calls Tryz.prog 18 #[.agg #[.int .i64 an, .int .i64 ad], .agg #[.int .i64 bn, .int .i64 bd]] w fun e w' => e = .returned (.int .i64 c) ∧ Below w.heap.size w w')
    (RT : ∀ w0, Below w.heap.size w w0 → Calls Tryz.prog 19 #[.agg #[.int .i64 n, .int .i64 d, .bool dr]] w0 fun e w' => e = .returned (.tuple #[.string s, .int .i64 0]) ∧ Below w0.heap.size w0 w')
    (RR : ∀ w, Calls Tryz.prog 9 #[.string s] w fun e w' => e = .returned (.tuple #[.agg #[.int .i64 n, .int .i64 d, .bool dr], .int .i64 0]) ∧ Below w.heap.size w w') :
    Calls Tryz.prog 5 #[.int .i64 1, .int .i64 one, .int .i64 two, .agg #[.int .i64 n, .int .i64 d, .bool dr]] w fun e w' => e = .returned (.bool true) ∧ Below w.heap.size w w' := by
  have HK := hideR HK
  have W1 := hideR W1
  have W2 := hideR W2
  have N1 := hideR N1
  have N2 := hideR N2
  have C1 := hideR C1
  have C2 := hideR C2
  have PC := hideR PC
  have CM := hideR CM
  have RT := hideR RT
  have RR := hideR RR
  have HC := hideR hcase
  clear hcase
  go_enter Tryz.func5, Tryz.ntmps5
  go_wp2_with fail
  go_at_call 6
  refine (HK.out _ (bel1 w _)).mono ?_
  rintro e w1 ⟨rfl, b1⟩
  have A1 := ((RateAt.new w n d dr).keep b1)
  have B1 := bup (bel1 w _) b1
  clear b1
  obtain ⟨_, a0, a1, a2⟩ := id A1
  go_wp2_with fail
  go_at_call 13
  refine (W1.out _).mono ?_
  rintro e wv ⟨rfl, hwv⟩
  obtain rfl := hwv.symm
  clear hwv
  go_wp2_with fail
  go_at_call 16
  refine (N1.out _).mono ?_
  rintro e w2 ⟨rfl, b2⟩
  have A2 := (A1.keep b2).alloc (.cells #[.int .i64 an, .int .i64 ad] 24)
  have B2 := bup (bup B1 b2) (bel1 w2 (.cells #[.int .i64 an, .int .i64 ad] 24))
  clear A1 B1 a0 a1 a2
  clear b2
  have T2 := Two.new w2 (.int .i64 an) (.int .i64 ad) 24
  obtain ⟨_, a0, a1, a2⟩ := id A2
  obtain ⟨_, t0, t1, t2, t3⟩ := id T2
  go_wp2_with fail
  go_at_call 13
  refine (W2.out _).mono ?_
  rintro e wv ⟨rfl, hwv⟩
  obtain rfl := hwv.symm
  clear hwv
  go_wp2_with fail
  go_at_call 16
  refine (N2.out _).mono ?_
  rintro e w3 ⟨rfl, b3⟩
  have A3 := (A2.keep b3).alloc (.cells #[.int .i64 bn, .int .i64 bd] 24)
  have T3 := (T2.keep b3).alloc (.cells #[.int .i64 bn, .int .i64 bd] 24)
  have B3 := bup (bup B2 b3) (bel1 w3 (.cells #[.int .i64 bn, .int .i64 bd] 24))
  clear A2 T2 B2 a0 a1 a2 t0 t1 t2 t3
  clear b3
  have U3 := Two.new w3 (.int .i64 bn) (.int .i64 bd) 24
  obtain ⟨_, a0, a1, a2⟩ := id A3
  obtain ⟨_, t0, t1, t2, t3⟩ := id T3
  obtain ⟨_, u0, u1, u2, u3⟩ := id U3
  go_wp2_with fail
  go_at_call 17
  refine (C1.out _ B3).mono ?_
  rintro e w4 ⟨rfl, b4⟩
  have A4 := (A3.keep b4)
  have T4 := (T3.keep b4)
  have U4 := (U3.keep b4)
  have B4 := bup B3 b4
  clear A3 T3 U3 B3 a0 a1 a2 t0 t1 t2 t3 u0 u1 u2 u3
  clear b4
  obtain ⟨_, a0, a1, a2⟩ := id A4
  obtain ⟨_, t0, t1, t2, t3⟩ := id T4
  obtain ⟨_, u0, u1, u2, u3⟩ := id U4
  go_wp2_with fail
  go_at_call 17
  refine (C2.out _ B4).mono ?_
  rintro e w5 ⟨rfl, b5⟩
  have A5 := (A4.keep b5)
  have T5 := (T4.keep b5)
  have U5 := (U4.keep b5)
  have B5 := bup B4 b5
  clear A4 T4 U4 B4 a0 a1 a2 t0 t1 t2 t3 u0 u1 u2 u3
  clear b5
  obtain ⟨_, a0, a1, a2⟩ := id A5
  obtain ⟨_, t0, t1, t2, t3⟩ := id T5
  obtain ⟨_, u0, u1, u2, u3⟩ := id U5
  go_wp2_with fail
  go_at_call 7
  refine (PC.out _).mono ?_
  rintro e w6 ⟨rfl, b6⟩
  have A6 := (A5.keep b6).alloc (.cells #[.int .i64 an, .int .i64 ad] 24)
  have T6 := (T5.keep b6).alloc (.cells #[.int .i64 an, .int .i64 ad] 24)
  have U6 := (U5.keep b6).alloc (.cells #[.int .i64 an, .int .i64 ad] 24)
  have B6 := bup (bup B5 b6) (bel1 w6 (.cells #[.int .i64 an, .int .i64 ad] 24))
  clear A5 T5 U5 B5 a0 a1 a2 t0 t1 t2 t3 u0 u1 u2 u3
  clear b6
  have C6 := Two.new w6 (.int .i64 an) (.int .i64 ad) 24
  obtain ⟨_, a0, a1, a2⟩ := id A6
  obtain ⟨_, t0, t1, t2, t3⟩ := id T6
  obtain ⟨_, u0, u1, u2, u3⟩ := id U6
  obtain ⟨_, c0, c1, c2, c3⟩ := id C6
  rcases HC.out with ⟨q1, q2, q3⟩ | ⟨q1, q2, q3⟩ | ⟨q1, q3⟩ | q1
  · have q4 : (x.size : Int) = (y.size : Int) := by omega
    have q5 : ((x.size : Int) == (y.size : Int)) = true := by rw [beq_iff_eq]; exact q4
    have q6 : ¬ (x.size : Int) < (y.size : Int) := by omega
    clear HC
    go_wp2_with fail
    go_at_call 18
    refine (CM.out _).mono ?_
    rintro e w7 ⟨rfl, b7⟩
    have A7 := (A6.keep b7)
    have T7 := (T6.keep b7)
    have U7 := (U6.keep b7)
    have C7 := (C6.keep b7)
    have B7 := bup B6 b7
    clear A6 T6 U6 C6 B6 a0 a1 a2 t0 t1 t2 t3 u0 u1 u2 u3 c0 c1 c2 c3
    clear b7
    obtain ⟨_, a0, a1, a2⟩ := id A7
    obtain ⟨_, t0, t1, t2, t3⟩ := id T7
    obtain ⟨_, u0, u1, u2, u3⟩ := id U7
    obtain ⟨_, c0, c1, c2, c3⟩ := id C7
    go_wp2_with fail
    go_at_call 19
    refine (RT.out _ B7).mono ?_
    rintro e w8 ⟨rfl, b8⟩
    have A8 := (A7.keep b8)
    have T8 := (T7.keep b8)
    have U8 := (U7.keep b8)
    have C8 := (C7.keep b8)
    have B8 := bup B7 b8
    clear A7 T7 U7 C7 B7 a0 a1 a2 t0 t1 t2 t3 u0 u1 u2 u3 c0 c1 c2 c3
    clear b8
    obtain ⟨_, a0, a1, a2⟩ := id A8
    obtain ⟨_, t0, t1, t2, t3⟩ := id T8
    obtain ⟨_, u0, u1, u2, u3⟩ := id U8
    obtain ⟨_, c0, c1, c2, c3⟩ := id C8
    go_wp2_with fail
    go_at_call 9
    refine (RR.out _).mono ?_
    rintro e w9 ⟨rfl, b9⟩
    have A9 := (A8.keep b9).alloc (.cells #[.int .i64 n, .int .i64 d, .bool dr] 31)
    have T9 := (T8.keep b9).alloc (.cells #[.int .i64 n, .int .i64 d, .bool dr] 31)
    have U9 := (U8.keep b9).alloc (.cells #[.int .i64 n, .int .i64 d, .bool dr] 31)
    have C9 := (C8.keep b9).alloc (.cells #[.int .i64 n, .int .i64 d, .bool dr] 31)
    have B9 := bup (bup B8 b9) (bel1 w9 (.cells #[.int .i64 n, .int .i64 d, .bool dr] 31))
    clear A8 T8 U8 C8 B8 a0 a1 a2 t0 t1 t2 t3 u0 u1 u2 u3 c0 c1 c2 c3
    clear b9
    have Q9 := RateAt.new w9 n d dr
    obtain ⟨_, a0, a1, a2⟩ := id A9
    obtain ⟨_, t0, t1, t2, t3⟩ := id T9
    obtain ⟨_, u0, u1, u2, u3⟩ := id U9
    obtain ⟨_, c0, c1, c2, c3⟩ := id C9
    obtain ⟨_, q0, q1, q2⟩ := id Q9
    go_wp2_with fail
    go_ret
    exact ⟨by simp, B9⟩
  · have q4 : (x.size : Int) = (y.size : Int) := by omega
    have q5 : ((x.size : Int) == (y.size : Int)) = true := by rw [beq_iff_eq]; exact q4
    have q6 : ¬ (x.size : Int) < (y.size : Int) := by omega
    clear HC
    go_wp2_with fail
    go_at_call 18
    refine (CM.out _).mono ?_
    rintro e w7 ⟨rfl, b7⟩
    have A7 := (A6.keep b7)
    have T7 := (T6.keep b7)
    have U7 := (U6.keep b7)
    have C7 := (C6.keep b7)
    have B7 := bup B6 b7
    clear A6 T6 U6 C6 B6 a0 a1 a2 t0 t1 t2 t3 u0 u1 u2 u3 c0 c1 c2 c3
    clear b7
    obtain ⟨_, a0, a1, a2⟩ := id A7
    obtain ⟨_, t0, t1, t2, t3⟩ := id T7
    obtain ⟨_, u0, u1, u2, u3⟩ := id U7
    obtain ⟨_, c0, c1, c2, c3⟩ := id C7
    go_wp2_with fail
    go_at_call 19
    refine (RT.out _ B7).mono ?_
    rintro e w8 ⟨rfl, b8⟩
    have A8 := (A7.keep b8)
    have T8 := (T7.keep b8)
    have U8 := (U7.keep b8)
    have C8 := (C7.keep b8)
    have B8 := bup B7 b8
    clear A7 T7 U7 C7 B7 a0 a1 a2 t0 t1 t2 t3 u0 u1 u2 u3 c0 c1 c2 c3
    clear b8
    obtain ⟨_, a0, a1, a2⟩ := id A8
    obtain ⟨_, t0, t1, t2, t3⟩ := id T8
    obtain ⟨_, u0, u1, u2, u3⟩ := id U8
    obtain ⟨_, c0, c1, c2, c3⟩ := id C8
    go_wp2_with fail
    go_at_call 9
    refine (RR.out _).mono ?_
    rintro e w9 ⟨rfl, b9⟩
    have A9 := (A8.keep b9).alloc (.cells #[.int .i64 n, .int .i64 d, .bool dr] 31)
    have T9 := (T8.keep b9).alloc (.cells #[.int .i64 n, .int .i64 d, .bool dr] 31)
    have U9 := (U8.keep b9).alloc (.cells #[.int .i64 n, .int .i64 d, .bool dr] 31)
    have C9 := (C8.keep b9).alloc (.cells #[.int .i64 n, .int .i64 d, .bool dr] 31)
    have B9 := bup (bup B8 b9) (bel1 w9 (.cells #[.int .i64 n, .int .i64 d, .bool dr] 31))
    clear A8 T8 U8 C8 B8 a0 a1 a2 t0 t1 t2 t3 u0 u1 u2 u3 c0 c1 c2 c3
    clear b9
    have Q9 := RateAt.new w9 n d dr
    obtain ⟨_, a0, a1, a2⟩ := id A9
    obtain ⟨_, t0, t1, t2, t3⟩ := id T9
    obtain ⟨_, u0, u1, u2, u3⟩ := id U9
    obtain ⟨_, c0, c1, c2, c3⟩ := id C9
    obtain ⟨_, q0, q1, q2⟩ := id Q9
    go_wp2_with fail
    go_ret
    exact ⟨by simp, B9⟩
  · have q4 : (x.size : Int) < (y.size : Int) := by omega
    have q7 : ¬ x.size = y.size := by omega
    have q5 : ((x.size : Int) == (y.size : Int)) = false := by rw [beq_eq_false_iff_ne]; omega
    clear HC
    go_wp2_with fail
    go_at_call 18
    refine (CM.out _).mono ?_
    rintro e w7 ⟨rfl, b7⟩
    have A7 := (A6.keep b7)
    have T7 := (T6.keep b7)
    have U7 := (U6.keep b7)
    have C7 := (C6.keep b7)
    have B7 := bup B6 b7
    clear A6 T6 U6 C6 B6 a0 a1 a2 t0 t1 t2 t3 u0 u1 u2 u3 c0 c1 c2 c3
    clear b7
    obtain ⟨_, a0, a1, a2⟩ := id A7
    obtain ⟨_, t0, t1, t2, t3⟩ := id T7
    obtain ⟨_, u0, u1, u2, u3⟩ := id U7
    obtain ⟨_, c0, c1, c2, c3⟩ := id C7
    go_wp2_with fail
    go_at_call 19
    refine (RT.out _ B7).mono ?_
    rintro e w8 ⟨rfl, b8⟩
    have A8 := (A7.keep b8)
    have T8 := (T7.keep b8)
    have U8 := (U7.keep b8)
    have C8 := (C7.keep b8)
    have B8 := bup B7 b8
    clear A7 T7 U7 C7 B7 a0 a1 a2 t0 t1 t2 t3 u0 u1 u2 u3 c0 c1 c2 c3
    clear b8
    obtain ⟨_, a0, a1, a2⟩ := id A8
    obtain ⟨_, t0, t1, t2, t3⟩ := id T8
    obtain ⟨_, u0, u1, u2, u3⟩ := id U8
    obtain ⟨_, c0, c1, c2, c3⟩ := id C8
    go_wp2_with fail
    go_at_call 9
    refine (RR.out _).mono ?_
    rintro e w9 ⟨rfl, b9⟩
    have A9 := (A8.keep b9).alloc (.cells #[.int .i64 n, .int .i64 d, .bool dr] 31)
    have T9 := (T8.keep b9).alloc (.cells #[.int .i64 n, .int .i64 d, .bool dr] 31)
    have U9 := (U8.keep b9).alloc (.cells #[.int .i64 n, .int .i64 d, .bool dr] 31)
    have C9 := (C8.keep b9).alloc (.cells #[.int .i64 n, .int .i64 d, .bool dr] 31)
    have B9 := bup (bup B8 b9) (bel1 w9 (.cells #[.int .i64 n, .int .i64 d, .bool dr] 31))
    clear A8 T8 U8 C8 B8 a0 a1 a2 t0 t1 t2 t3 u0 u1 u2 u3 c0 c1 c2 c3
    clear b9
    have Q9 := RateAt.new w9 n d dr
    obtain ⟨_, a0, a1, a2⟩ := id A9
    obtain ⟨_, t0, t1, t2, t3⟩ := id T9
    obtain ⟨_, u0, u1, u2, u3⟩ := id U9
    obtain ⟨_, c0, c1, c2, c3⟩ := id C9
    obtain ⟨_, q0, q1, q2⟩ := id Q9
    go_wp2_with fail
    go_ret
    exact ⟨by simp, B9⟩
  · have q6 : ¬ (x.size : Int) < (y.size : Int) := by omega
    have q7 : ¬ x.size = y.size := by omega
    have q5 : ((x.size : Int) == (y.size : Int)) = false := by rw [beq_eq_false_iff_ne]; omega
    clear HC
    go_wp2_with fail
    go_at_call 19
    refine (RT.out _ B6).mono ?_
    rintro e w7 ⟨rfl, b7⟩
    have A7 := (A6.keep b7)
    have T7 := (T6.keep b7)
    have U7 := (U6.keep b7)
    have C7 := (C6.keep b7)
    have B7 := bup B6 b7
    clear A6 T6 U6 C6 B6 a0 a1 a2 t0 t1 t2 t3 u0 u1 u2 u3 c0 c1 c2 c3
    clear b7
    obtain ⟨_, a0, a1, a2⟩ := id A7
    obtain ⟨_, t0, t1, t2, t3⟩ := id T7
    obtain ⟨_, u0, u1, u2, u3⟩ := id U7
    obtain ⟨_, c0, c1, c2, c3⟩ := id C7
    go_wp2_with fail
    go_at_call 9
    refine (RR.out _).mono ?_
    rintro e w8 ⟨rfl, b8⟩
    have A8 := (A7.keep b8).alloc (.cells #[.int .i64 n, .int .i64 d, .bool dr] 31)
    have T8 := (T7.keep b8).alloc (.cells #[.int .i64 n, .int .i64 d, .bool dr] 31)
    have U8 := (U7.keep b8).alloc (.cells #[.int .i64 n, .int .i64 d, .bool dr] 31)
    have C8 := (C7.keep b8).alloc (.cells #[.int .i64 n, .int .i64 d, .bool dr] 31)
    have B8 := bup (bup B7 b8) (bel1 w8 (.cells #[.int .i64 n, .int .i64 d, .bool dr] 31))
    clear A7 T7 U7 C7 B7 a0 a1 a2 t0 t1 t2 t3 u0 u1 u2 u3 c0 c1 c2 c3
    clear b8
    have Q8 := RateAt.new w8 n d dr
    obtain ⟨_, a0, a1, a2⟩ := id A8
    obtain ⟨_, t0, t1, t2, t3⟩ := id T8
    obtain ⟨_, u0, u1, u2, u3⟩ := id U8
    obtain ⟨_, c0, c1, c2, c3⟩ := id C8
    obtain ⟨_, q0, q1, q2⟩ := id Q8
    go_wp2_with fail
    go_ret
    exact ⟨by simp, B8⟩
set_option maxRecDepth 100000 in
set_option maxHeartbeats 4000000 in
theorem spk_2b (one two n d k1 k2 an ad bn bd : Int) (dr : Bool) (c : Int) (x y : ByteArray) (hcase : (x.size = y.size ∧ Op.bytesLess x.toList y.toList = true ∧ c < 0) ∨ (x.size = y.size ∧ Op.bytesLess x.toList y.toList = false ∧ ¬ c < 0) ∨ (x.size < y.size ∧ c < 0) ∨ y.size < x.size) (w : World)
    (HK : ∀ w0, Below w.heap.size w w0 → Calls Tryz.prog 6 #[] w0 fun e w' => e = .returned (.bool true) ∧ Below w0.heap.size w0 w')
    (W1 : ∀ w, Calls Tryz.prog 13 #[.int .i64 one, .int .i64 360000001] w fun e w' => e = .returned (.int .i64 k1) ∧ w' = w)
    (W2 : ∀ w, Calls Tryz.prog 13 #[.int .i64 two, .int .i64 360000001] w fun e w' => e = .returned (.int .i64 k2) ∧ w' = w)
    (N1 : ∀ w, Calls Tryz.prog 16 #[.int .i64 k1, .int .i64 1000] w fun e w' => e = .returned (.tuple #[.agg #[.int .i64 an, .int .i64 ad], .int .i64 0]) ∧ Below w.heap.size w w')
    (N2 : ∀ w, Calls Tryz.prog 16 #[.int .i64 k2, .int .i64 1000] w fun e w' => e = .returned (.tuple #[.agg #[.int .i64 bn, .int .i64 bd], .int .i64 0]) ∧ Below w.heap.size w w')
    (C1 : ∀ w0, Below w.heap.size w w0 → Calls Tryz.prog 17 #[.int .i64 2, .agg #[.int .i64 an, .int .i64 ad]] w0 fun e w' => e = .returned (.tuple #[.string x, .int .i64 0]) ∧ Below w0.heap.size w0 w')
    (C2 : ∀ w0, Below w.heap.size w w0 → Calls Tryz.prog 17 #[.int .i64 2, .agg #[.int .i64 bn, .int .i64 bd]] w0 fun e w' => e = .returned (.tuple #[.string y, .int .i64 0]) ∧ Below w0.heap.size w0 w')
    (PC : ∀ w, Calls Tryz.prog 7 #[.int .i64 2, .string x] w fun e w' => e = .returned (.tuple #[.agg #[.int .i64 an, .int .i64 ad], .int .i64 0]) ∧ Below w.heap.size w w')
    (CM : ∀ w, Calls Tryz.prog 18 #[.agg #[.int .i64 an, .int .i64 ad], .agg #[.int .i64 bn, .int .i64 bd]] w fun e w' => e = .returned (.int .i64 c) ∧ Below w.heap.size w w')
    (RT : ∀ w0, Below w.heap.size w w0 → Calls Tryz.prog 19 #[.agg #[.int .i64 n, .int .i64 d, .bool dr]] w0 fun e w' => e = .returned (.tuple #[.string ⟨#[]⟩, .int .i64 14]) ∧ Below w0.heap.size w0 w')
    (CK : ∀ w, Calls Tryz.prog 20 #[.agg #[.int .i64 n, .int .i64 d, .bool dr]] w fun e w' => e = .returned (.int .i64 14) ∧ Below w.heap.size w w') :
    Calls Tryz.prog 5 #[.int .i64 2, .int .i64 one, .int .i64 two, .agg #[.int .i64 n, .int .i64 d, .bool dr]] w fun e w' => e = .returned (.bool true) ∧ Below w.heap.size w w' := by
  have HK := hideR HK
  have W1 := hideR W1
  have W2 := hideR W2
  have N1 := hideR N1
  have N2 := hideR N2
  have C1 := hideR C1
  have C2 := hideR C2
  have PC := hideR PC
  have CM := hideR CM
  have RT := hideR RT
  have CK := hideR CK
  have HC := hideR hcase
  clear hcase
  go_enter Tryz.func5, Tryz.ntmps5
  go_wp2_with fail
  go_at_call 6
  refine (HK.out _ (bel1 w _)).mono ?_
  rintro e w1 ⟨rfl, b1⟩
  have A1 := ((RateAt.new w n d dr).keep b1)
  have B1 := bup (bel1 w _) b1
  clear b1
  obtain ⟨_, a0, a1, a2⟩ := id A1
  go_wp2_with fail
  go_at_call 13
  refine (W1.out _).mono ?_
  rintro e wv ⟨rfl, hwv⟩
  obtain rfl := hwv.symm
  clear hwv
  go_wp2_with fail
  go_at_call 16
  refine (N1.out _).mono ?_
  rintro e w2 ⟨rfl, b2⟩
  have A2 := (A1.keep b2).alloc (.cells #[.int .i64 an, .int .i64 ad] 24)
  have B2 := bup (bup B1 b2) (bel1 w2 (.cells #[.int .i64 an, .int .i64 ad] 24))
  clear A1 B1 a0 a1 a2
  clear b2
  have T2 := Two.new w2 (.int .i64 an) (.int .i64 ad) 24
  obtain ⟨_, a0, a1, a2⟩ := id A2
  obtain ⟨_, t0, t1, t2, t3⟩ := id T2
  go_wp2_with fail
  go_at_call 13
  refine (W2.out _).mono ?_
  rintro e wv ⟨rfl, hwv⟩
  obtain rfl := hwv.symm
  clear hwv
  go_wp2_with fail
  go_at_call 16
  refine (N2.out _).mono ?_
  rintro e w3 ⟨rfl, b3⟩
  have A3 := (A2.keep b3).alloc (.cells #[.int .i64 bn, .int .i64 bd] 24)
  have T3 := (T2.keep b3).alloc (.cells #[.int .i64 bn, .int .i64 bd] 24)
  have B3 := bup (bup B2 b3) (bel1 w3 (.cells #[.int .i64 bn, .int .i64 bd] 24))
  clear A2 T2 B2 a0 a1 a2 t0 t1 t2 t3
  clear b3
  have U3 := Two.new w3 (.int .i64 bn) (.int .i64 bd) 24
  obtain ⟨_, a0, a1, a2⟩ := id A3
  obtain ⟨_, t0, t1, t2, t3⟩ := id T3
  obtain ⟨_, u0, u1, u2, u3⟩ := id U3
  go_wp2_with fail
  go_at_call 17
  refine (C1.out _ B3).mono ?_
  rintro e w4 ⟨rfl, b4⟩
  have A4 := (A3.keep b4)
  have T4 := (T3.keep b4)
  have U4 := (U3.keep b4)
  have B4 := bup B3 b4
  clear A3 T3 U3 B3 a0 a1 a2 t0 t1 t2 t3 u0 u1 u2 u3
  clear b4
  obtain ⟨_, a0, a1, a2⟩ := id A4
  obtain ⟨_, t0, t1, t2, t3⟩ := id T4
  obtain ⟨_, u0, u1, u2, u3⟩ := id U4
  go_wp2_with fail
  go_at_call 17
  refine (C2.out _ B4).mono ?_
  rintro e w5 ⟨rfl, b5⟩
  have A5 := (A4.keep b5)
  have T5 := (T4.keep b5)
  have U5 := (U4.keep b5)
  have B5 := bup B4 b5
  clear A4 T4 U4 B4 a0 a1 a2 t0 t1 t2 t3 u0 u1 u2 u3
  clear b5
  obtain ⟨_, a0, a1, a2⟩ := id A5
  obtain ⟨_, t0, t1, t2, t3⟩ := id T5
  obtain ⟨_, u0, u1, u2, u3⟩ := id U5
  go_wp2_with fail
  go_at_call 7
  refine (PC.out _).mono ?_
  rintro e w6 ⟨rfl, b6⟩
  have A6 := (A5.keep b6).alloc (.cells #[.int .i64 an, .int .i64 ad] 24)
  have T6 := (T5.keep b6).alloc (.cells #[.int .i64 an, .int .i64 ad] 24)
  have U6 := (U5.keep b6).alloc (.cells #[.int .i64 an, .int .i64 ad] 24)
  have B6 := bup (bup B5 b6) (bel1 w6 (.cells #[.int .i64 an, .int .i64 ad] 24))
  clear A5 T5 U5 B5 a0 a1 a2 t0 t1 t2 t3 u0 u1 u2 u3
  clear b6
  have C6 := Two.new w6 (.int .i64 an) (.int .i64 ad) 24
  obtain ⟨_, a0, a1, a2⟩ := id A6
  obtain ⟨_, t0, t1, t2, t3⟩ := id T6
  obtain ⟨_, u0, u1, u2, u3⟩ := id U6
  obtain ⟨_, c0, c1, c2, c3⟩ := id C6
  rcases HC.out with ⟨q1, q2, q3⟩ | ⟨q1, q2, q3⟩ | ⟨q1, q3⟩ | q1
  · have q4 : (x.size : Int) = (y.size : Int) := by omega
    have q5 : ((x.size : Int) == (y.size : Int)) = true := by rw [beq_iff_eq]; exact q4
    have q6 : ¬ (x.size : Int) < (y.size : Int) := by omega
    clear HC
    go_wp2_with fail
    go_at_call 18
    refine (CM.out _).mono ?_
    rintro e w7 ⟨rfl, b7⟩
    have A7 := (A6.keep b7)
    have T7 := (T6.keep b7)
    have U7 := (U6.keep b7)
    have C7 := (C6.keep b7)
    have B7 := bup B6 b7
    clear A6 T6 U6 C6 B6 a0 a1 a2 t0 t1 t2 t3 u0 u1 u2 u3 c0 c1 c2 c3
    clear b7
    obtain ⟨_, a0, a1, a2⟩ := id A7
    obtain ⟨_, t0, t1, t2, t3⟩ := id T7
    obtain ⟨_, u0, u1, u2, u3⟩ := id U7
    obtain ⟨_, c0, c1, c2, c3⟩ := id C7
    go_wp2_with fail
    go_at_call 19
    refine (RT.out _ B7).mono ?_
    rintro e w8 ⟨rfl, b8⟩
    have A8 := (A7.keep b8)
    have T8 := (T7.keep b8)
    have U8 := (U7.keep b8)
    have C8 := (C7.keep b8)
    have B8 := bup B7 b8
    clear A7 T7 U7 C7 B7 a0 a1 a2 t0 t1 t2 t3 u0 u1 u2 u3 c0 c1 c2 c3
    clear b8
    obtain ⟨_, a0, a1, a2⟩ := id A8
    obtain ⟨_, t0, t1, t2, t3⟩ := id T8
    obtain ⟨_, u0, u1, u2, u3⟩ := id U8
    obtain ⟨_, c0, c1, c2, c3⟩ := id C8
    go_wp2_with fail
    go_at_call 20
    refine (CK.out _).mono ?_
    rintro e w9 ⟨rfl, b9⟩
    have A9 := (A8.keep b9)
    have T9 := (T8.keep b9)
    have U9 := (U8.keep b9)
    have C9 := (C8.keep b9)
    have B9 := bup B8 b9
    clear A8 T8 U8 C8 B8 a0 a1 a2 t0 t1 t2 t3 u0 u1 u2 u3 c0 c1 c2 c3
    clear b9
    obtain ⟨_, a0, a1, a2⟩ := id A9
    obtain ⟨_, t0, t1, t2, t3⟩ := id T9
    obtain ⟨_, u0, u1, u2, u3⟩ := id U9
    obtain ⟨_, c0, c1, c2, c3⟩ := id C9
    go_wp2_with fail
    go_ret
    exact ⟨by simp, B9⟩
  · have q4 : (x.size : Int) = (y.size : Int) := by omega
    have q5 : ((x.size : Int) == (y.size : Int)) = true := by rw [beq_iff_eq]; exact q4
    have q6 : ¬ (x.size : Int) < (y.size : Int) := by omega
    clear HC
    go_wp2_with fail
    go_at_call 18
    refine (CM.out _).mono ?_
    rintro e w7 ⟨rfl, b7⟩
    have A7 := (A6.keep b7)
    have T7 := (T6.keep b7)
    have U7 := (U6.keep b7)
    have C7 := (C6.keep b7)
    have B7 := bup B6 b7
    clear A6 T6 U6 C6 B6 a0 a1 a2 t0 t1 t2 t3 u0 u1 u2 u3 c0 c1 c2 c3
    clear b7
    obtain ⟨_, a0, a1, a2⟩ := id A7
    obtain ⟨_, t0, t1, t2, t3⟩ := id T7
    obtain ⟨_, u0, u1, u2, u3⟩ := id U7
    obtain ⟨_, c0, c1, c2, c3⟩ := id C7
    go_wp2_with fail
    go_at_call 19
    refine (RT.out _ B7).mono ?_
    rintro e w8 ⟨rfl, b8⟩
    have A8 := (A7.keep b8)
    have T8 := (T7.keep b8)
    have U8 := (U7.keep b8)
    have C8 := (C7.keep b8)
    have B8 := bup B7 b8
    clear A7 T7 U7 C7 B7 a0 a1 a2 t0 t1 t2 t3 u0 u1 u2 u3 c0 c1 c2 c3
    clear b8
    obtain ⟨_, a0, a1, a2⟩ := id A8
    obtain ⟨_, t0, t1, t2, t3⟩ := id T8
    obtain ⟨_, u0, u1, u2, u3⟩ := id U8
    obtain ⟨_, c0, c1, c2, c3⟩ := id C8
    go_wp2_with fail
    go_at_call 20
    refine (CK.out _).mono ?_
    rintro e w9 ⟨rfl, b9⟩
    have A9 := (A8.keep b9)
    have T9 := (T8.keep b9)
    have U9 := (U8.keep b9)
    have C9 := (C8.keep b9)
    have B9 := bup B8 b9
    clear A8 T8 U8 C8 B8 a0 a1 a2 t0 t1 t2 t3 u0 u1 u2 u3 c0 c1 c2 c3
    clear b9
    obtain ⟨_, a0, a1, a2⟩ := id A9
    obtain ⟨_, t0, t1, t2, t3⟩ := id T9
    obtain ⟨_, u0, u1, u2, u3⟩ := id U9
    obtain ⟨_, c0, c1, c2, c3⟩ := id C9
    go_wp2_with fail
    go_ret
    exact ⟨by simp, B9⟩
  · have q4 : (x.size : Int) < (y.size : Int) := by omega
    have q7 : ¬ x.size = y.size := by omega
    have q5 : ((x.size : Int) == (y.size : Int)) = false := by rw [beq_eq_false_iff_ne]; omega
    clear HC
    go_wp2_with fail
    go_at_call 18
    refine (CM.out _).mono ?_
    rintro e w7 ⟨rfl, b7⟩
    have A7 := (A6.keep b7)
    have T7 := (T6.keep b7)
    have U7 := (U6.keep b7)
    have C7 := (C6.keep b7)
    have B7 := bup B6 b7
    clear A6 T6 U6 C6 B6 a0 a1 a2 t0 t1 t2 t3 u0 u1 u2 u3 c0 c1 c2 c3
    clear b7
    obtain ⟨_, a0, a1, a2⟩ := id A7
    obtain ⟨_, t0, t1, t2, t3⟩ := id T7
    obtain ⟨_, u0, u1, u2, u3⟩ := id U7
    obtain ⟨_, c0, c1, c2, c3⟩ := id C7
    go_wp2_with fail
    go_at_call 19
    refine (RT.out _ B7).mono ?_
    rintro e w8 ⟨rfl, b8⟩
    have A8 := (A7.keep b8)
    have T8 := (T7.keep b8)
    have U8 := (U7.keep b8)
    have C8 := (C7.keep b8)
    have B8 := bup B7 b8
    clear A7 T7 U7 C7 B7 a0 a1 a2 t0 t1 t2 t3 u0 u1 u2 u3 c0 c1 c2 c3
    clear b8
    obtain ⟨_, a0, a1, a2⟩ := id A8
    obtain ⟨_, t0, t1, t2, t3⟩ := id T8
    obtain ⟨_, u0, u1, u2, u3⟩ := id U8
    obtain ⟨_, c0, c1, c2, c3⟩ := id C8
    go_wp2_with fail
    go_at_call 20
    refine (CK.out _).mono ?_
    rintro e w9 ⟨rfl, b9⟩
    have A9 := (A8.keep b9)
    have T9 := (T8.keep b9)
    have U9 := (U8.keep b9)
    have C9 := (C8.keep b9)
    have B9 := bup B8 b9
    clear A8 T8 U8 C8 B8 a0 a1 a2 t0 t1 t2 t3 u0 u1 u2 u3 c0 c1 c2 c3
    clear b9
    obtain ⟨_, a0, a1, a2⟩ := id A9
    obtain ⟨_, t0, t1, t2, t3⟩ := id T9
    obtain ⟨_, u0, u1, u2, u3⟩ := id U9
    obtain ⟨_, c0, c1, c2, c3⟩ := id C9
    go_wp2_with fail
    go_ret
    exact ⟨by simp, B9⟩
  · have q6 : ¬ (x.size : Int) < (y.size : Int) := by omega
    have q7 : ¬ x.size = y.size := by omega
    have q5 : ((x.size : Int) == (y.size : Int)) = false := by rw [beq_eq_false_iff_ne]; omega
    clear HC
    go_wp2_with fail
    go_at_call 19
    refine (RT.out _ B6).mono ?_
    rintro e w7 ⟨rfl, b7⟩
    have A7 := (A6.keep b7)
    have T7 := (T6.keep b7)
    have U7 := (U6.keep b7)
    have C7 := (C6.keep b7)
    have B7 := bup B6 b7
    clear A6 T6 U6 C6 B6 a0 a1 a2 t0 t1 t2 t3 u0 u1 u2 u3 c0 c1 c2 c3
    clear b7
    obtain ⟨_, a0, a1, a2⟩ := id A7
    obtain ⟨_, t0, t1, t2, t3⟩ := id T7
    obtain ⟨_, u0, u1, u2, u3⟩ := id U7
    obtain ⟨_, c0, c1, c2, c3⟩ := id C7
    go_wp2_with fail
    go_at_call 20
    refine (CK.out _).mono ?_
    rintro e w8 ⟨rfl, b8⟩
    have A8 := (A7.keep b8)
    have T8 := (T7.keep b8)
    have U8 := (U7.keep b8)
    have C8 := (C7.keep b8)
    have B8 := bup B7 b8
    clear A7 T7 U7 C7 B7 a0 a1 a2 t0 t1 t2 t3 u0 u1 u2 u3 c0 c1 c2 c3
    clear b8
    obtain ⟨_, a0, a1, a2⟩ := id A8
    obtain ⟨_, t0, t1, t2, t3⟩ := id T8
    obtain ⟨_, u0, u1, u2, u3⟩ := id U8
    obtain ⟨_, c0, c1, c2, c3⟩ := id C8
    go_wp2_with fail
    go_ret
    exact ⟨by simp, B8⟩
set_option maxRecDepth 100000 in
set_option maxHeartbeats 4000000 in
theorem spk_2k (one two n d k1 k2 an ad bn bd : Int) (dr : Bool) (c : Int) (x y : ByteArray) (s : ByteArray) (hcase : (x.size = y.size ∧ Op.bytesLess x.toList y.toList = true ∧ c < 0) ∨ (x.size = y.size ∧ Op.bytesLess x.toList y.toList = false ∧ ¬ c < 0) ∨ (x.size < y.size ∧ c < 0) ∨ y.size < x.size) (w : World)
    (HK : ∀ w0, Below w.heap.size w w0 → Calls Tryz.prog 6 #[] w0 fun e w' => e = .returned (.bool true) ∧ Below w0.heap.size w0 w')
    (W1 : ∀ w, Calls Tryz.prog 13 #[.int .i64 one, .int .i64 360000001] w fun e w' => e = .returned (.int .i64 k1) ∧ w' = w)
    (W2 : ∀ w, Calls Tryz.prog 13 #[.int .i64 two, .int .i64 360000001] w fun e w' => e = .returned (.int .i64 k2) ∧ w' = w)
    (N1 : ∀ w, Calls Tryz.prog 16 #[.int .i64 k1, .int .i64 1000] w fun e w' => e = .returned (.tuple #[.agg #[.int .i64 an, .int .i64 ad], .int .i64 0]) ∧ Below w.heap.size w w')
    (N2 : ∀ w, Calls Tryz.prog 16 #[.int .i64 k2, .int .i64 1000] w fun e w' => e = .returned (.tuple #[.agg #[.int .i64 bn, .int .i64 bd], .int .i64 0]) ∧ Below w.heap.size w w')
    (C1 : ∀ w0, Below w.heap.size w w0 → Calls Tryz.prog 17 #[.int .i64 2, .agg #[.int .i64 an, .int .i64 ad]] w0 fun e w' => e = .returned (.tuple #[.string x, .int .i64 0]) ∧ Below w0.heap.size w0 w')
    (C2 : ∀ w0, Below w.heap.size w w0 → Calls Tryz.prog 17 #[.int .i64 2, .agg #[.int .i64 bn, .int .i64 bd]] w0 fun e w' => e = .returned (.tuple #[.string y, .int .i64 0]) ∧ Below w0.heap.size w0 w')
    (PC : ∀ w, Calls Tryz.prog 7 #[.int .i64 2, .string x] w fun e w' => e = .returned (.tuple #[.agg #[.int .i64 an, .int .i64 ad], .int .i64 0]) ∧ Below w.heap.size w w')
    (CM : ∀ w, Calls Tryz.prog 18 #[.agg #[.int .i64 an, .int .i64 ad], .agg #[.int .i64 bn, .int .i64 bd]] w fun e w' => e = .returned (.int .i64 c) ∧ Below w.heap.size w w')
    (RT : ∀ w0, Below w.heap.size w w0 → Calls Tryz.prog 19 #[.agg #[.int .i64 n, .int .i64 d, .bool dr]] w0 fun e w' => e = .returned (.tuple #[.string s, .int .i64 0]) ∧ Below w0.heap.size w0 w')
    (RR : ∀ w, Calls Tryz.prog 9 #[.string s] w fun e w' => e = .returned (.tuple #[.agg #[.int .i64 n, .int .i64 d, .bool dr], .int .i64 0]) ∧ Below w.heap.size w w') :
    Calls Tryz.prog 5 #[.int .i64 2, .int .i64 one, .int .i64 two, .agg #[.int .i64 n, .int .i64 d, .bool dr]] w fun e w' => e = .returned (.bool true) ∧ Below w.heap.size w w' := by
  have HK := hideR HK
  have W1 := hideR W1
  have W2 := hideR W2
  have N1 := hideR N1
  have N2 := hideR N2
  have C1 := hideR C1
  have C2 := hideR C2
  have PC := hideR PC
  have CM := hideR CM
  have RT := hideR RT
  have RR := hideR RR
  have HC := hideR hcase
  clear hcase
  go_enter Tryz.func5, Tryz.ntmps5
  go_wp2_with fail
  go_at_call 6
  refine (HK.out _ (bel1 w _)).mono ?_
  rintro e w1 ⟨rfl, b1⟩
  have A1 := ((RateAt.new w n d dr).keep b1)
  have B1 := bup (bel1 w _) b1
  clear b1
  obtain ⟨_, a0, a1, a2⟩ := id A1
  go_wp2_with fail
  go_at_call 13
  refine (W1.out _).mono ?_
  rintro e wv ⟨rfl, hwv⟩
  obtain rfl := hwv.symm
  clear hwv
  go_wp2_with fail
  go_at_call 16
  refine (N1.out _).mono ?_
  rintro e w2 ⟨rfl, b2⟩
  have A2 := (A1.keep b2).alloc (.cells #[.int .i64 an, .int .i64 ad] 24)
  have B2 := bup (bup B1 b2) (bel1 w2 (.cells #[.int .i64 an, .int .i64 ad] 24))
  clear A1 B1 a0 a1 a2
  clear b2
  have T2 := Two.new w2 (.int .i64 an) (.int .i64 ad) 24
  obtain ⟨_, a0, a1, a2⟩ := id A2
  obtain ⟨_, t0, t1, t2, t3⟩ := id T2
  go_wp2_with fail
  go_at_call 13
  refine (W2.out _).mono ?_
  rintro e wv ⟨rfl, hwv⟩
  obtain rfl := hwv.symm
  clear hwv
  go_wp2_with fail
  go_at_call 16
  refine (N2.out _).mono ?_
  rintro e w3 ⟨rfl, b3⟩
  have A3 := (A2.keep b3).alloc (.cells #[.int .i64 bn, .int .i64 bd] 24)
  have T3 := (T2.keep b3).alloc (.cells #[.int .i64 bn, .int .i64 bd] 24)
  have B3 := bup (bup B2 b3) (bel1 w3 (.cells #[.int .i64 bn, .int .i64 bd] 24))
  clear A2 T2 B2 a0 a1 a2 t0 t1 t2 t3
  clear b3
  have U3 := Two.new w3 (.int .i64 bn) (.int .i64 bd) 24
  obtain ⟨_, a0, a1, a2⟩ := id A3
  obtain ⟨_, t0, t1, t2, t3⟩ := id T3
  obtain ⟨_, u0, u1, u2, u3⟩ := id U3
  go_wp2_with fail
  go_at_call 17
  refine (C1.out _ B3).mono ?_
  rintro e w4 ⟨rfl, b4⟩
  have A4 := (A3.keep b4)
  have T4 := (T3.keep b4)
  have U4 := (U3.keep b4)
  have B4 := bup B3 b4
  clear A3 T3 U3 B3 a0 a1 a2 t0 t1 t2 t3 u0 u1 u2 u3
  clear b4
  obtain ⟨_, a0, a1, a2⟩ := id A4
  obtain ⟨_, t0, t1, t2, t3⟩ := id T4
  obtain ⟨_, u0, u1, u2, u3⟩ := id U4
  go_wp2_with fail
  go_at_call 17
  refine (C2.out _ B4).mono ?_
  rintro e w5 ⟨rfl, b5⟩
  have A5 := (A4.keep b5)
  have T5 := (T4.keep b5)
  have U5 := (U4.keep b5)
  have B5 := bup B4 b5
  clear A4 T4 U4 B4 a0 a1 a2 t0 t1 t2 t3 u0 u1 u2 u3
  clear b5
  obtain ⟨_, a0, a1, a2⟩ := id A5
  obtain ⟨_, t0, t1, t2, t3⟩ := id T5
  obtain ⟨_, u0, u1, u2, u3⟩ := id U5
  go_wp2_with fail
  go_at_call 7
  refine (PC.out _).mono ?_
  rintro e w6 ⟨rfl, b6⟩
  have A6 := (A5.keep b6).alloc (.cells #[.int .i64 an, .int .i64 ad] 24)
  have T6 := (T5.keep b6).alloc (.cells #[.int .i64 an, .int .i64 ad] 24)
  have U6 := (U5.keep b6).alloc (.cells #[.int .i64 an, .int .i64 ad] 24)
  have B6 := bup (bup B5 b6) (bel1 w6 (.cells #[.int .i64 an, .int .i64 ad] 24))
  clear A5 T5 U5 B5 a0 a1 a2 t0 t1 t2 t3 u0 u1 u2 u3
  clear b6
  have C6 := Two.new w6 (.int .i64 an) (.int .i64 ad) 24
  obtain ⟨_, a0, a1, a2⟩ := id A6
  obtain ⟨_, t0, t1, t2, t3⟩ := id T6
  obtain ⟨_, u0, u1, u2, u3⟩ := id U6
  obtain ⟨_, c0, c1, c2, c3⟩ := id C6
  rcases HC.out with ⟨q1, q2, q3⟩ | ⟨q1, q2, q3⟩ | ⟨q1, q3⟩ | q1
  · have q4 : (x.size : Int) = (y.size : Int) := by omega
    have q5 : ((x.size : Int) == (y.size : Int)) = true := by rw [beq_iff_eq]; exact q4
    have q6 : ¬ (x.size : Int) < (y.size : Int) := by omega
    clear HC
    go_wp2_with fail
    go_at_call 18
    refine (CM.out _).mono ?_
    rintro e w7 ⟨rfl, b7⟩
    have A7 := (A6.keep b7)
    have T7 := (T6.keep b7)
    have U7 := (U6.keep b7)
    have C7 := (C6.keep b7)
    have B7 := bup B6 b7
    clear A6 T6 U6 C6 B6 a0 a1 a2 t0 t1 t2 t3 u0 u1 u2 u3 c0 c1 c2 c3
    clear b7
    obtain ⟨_, a0, a1, a2⟩ := id A7
    obtain ⟨_, t0, t1, t2, t3⟩ := id T7
    obtain ⟨_, u0, u1, u2, u3⟩ := id U7
    obtain ⟨_, c0, c1, c2, c3⟩ := id C7
    go_wp2_with fail
    go_at_call 19
    refine (RT.out _ B7).mono ?_
    rintro e w8 ⟨rfl, b8⟩
    have A8 := (A7.keep b8)
    have T8 := (T7.keep b8)
    have U8 := (U7.keep b8)
    have C8 := (C7.keep b8)
    have B8 := bup B7 b8
    clear A7 T7 U7 C7 B7 a0 a1 a2 t0 t1 t2 t3 u0 u1 u2 u3 c0 c1 c2 c3
    clear b8
    obtain ⟨_, a0, a1, a2⟩ := id A8
    obtain ⟨_, t0, t1, t2, t3⟩ := id T8
    obtain ⟨_, u0, u1, u2, u3⟩ := id U8
    obtain ⟨_, c0, c1, c2, c3⟩ := id C8
    go_wp2_with fail
    go_at_call 9
    refine (RR.out _).mono ?_
    rintro e w9 ⟨rfl, b9⟩
    have A9 := (A8.keep b9).alloc (.cells #[.int .i64 n, .int .i64 d, .bool dr] 31)
    have T9 := (T8.keep b9).alloc (.cells #[.int .i64 n, .int .i64 d, .bool dr] 31)
    have U9 := (U8.keep b9).alloc (.cells #[.int .i64 n, .int .i64 d, .bool dr] 31)
    have C9 := (C8.keep b9).alloc (.cells #[.int .i64 n, .int .i64 d, .bool dr] 31)
    have B9 := bup (bup B8 b9) (bel1 w9 (.cells #[.int .i64 n, .int .i64 d, .bool dr] 31))
    clear A8 T8 U8 C8 B8 a0 a1 a2 t0 t1 t2 t3 u0 u1 u2 u3 c0 c1 c2 c3
    clear b9
    have Q9 := RateAt.new w9 n d dr
    obtain ⟨_, a0, a1, a2⟩ := id A9
    obtain ⟨_, t0, t1, t2, t3⟩ := id T9
    obtain ⟨_, u0, u1, u2, u3⟩ := id U9
    obtain ⟨_, c0, c1, c2, c3⟩ := id C9
    obtain ⟨_, q0, q1, q2⟩ := id Q9
    go_wp2_with fail
    go_ret
    exact ⟨by simp, B9⟩
  · have q4 : (x.size : Int) = (y.size : Int) := by omega
    have q5 : ((x.size : Int) == (y.size : Int)) = true := by rw [beq_iff_eq]; exact q4
    have q6 : ¬ (x.size : Int) < (y.size : Int) := by omega
    clear HC
    go_wp2_with fail
    go_at_call 18
    refine (CM.out _).mono ?_
    rintro e w7 ⟨rfl, b7⟩
    have A7 := (A6.keep b7)
    have T7 := (T6.keep b7)
    have U7 := (U6.keep b7)
    have C7 := (C6.keep b7)
    have B7 := bup B6 b7
    clear A6 T6 U6 C6 B6 a0 a1 a2 t0 t1 t2 t3 u0 u1 u2 u3 c0 c1 c2 c3
    clear b7
    obtain ⟨_, a0, a1, a2⟩ := id A7
    obtain ⟨_, t0, t1, t2, t3⟩ := id T7
    obtain ⟨_, u0, u1, u2, u3⟩ := id U7
    obtain ⟨_, c0, c1, c2, c3⟩ := id C7
    go_wp2_with fail
    go_at_call 19
    refine (RT.out _ B7).mono ?_
    rintro e w8 ⟨rfl, b8⟩
    have A8 := (A7.keep b8)
    have T8 := (T7.keep b8)
    have U8 := (U7.keep b8)
    have C8 := (C7.keep b8)
    have B8 := bup B7 b8
    clear A7 T7 U7 C7 B7 a0 a1 a2 t0 t1 t2 t3 u0 u1 u2 u3 c0 c1 c2 c3
    clear b8
    obtain ⟨_, a0, a1, a2⟩ := id A8
    obtain ⟨_, t0, t1, t2, t3⟩ := id T8
    obtain ⟨_, u0, u1, u2, u3⟩ := id U8
    obtain ⟨_, c0, c1, c2, c3⟩ := id C8
    go_wp2_with fail
    go_at_call 9
    refine (RR.out _).mono ?_
    rintro e w9 ⟨rfl, b9⟩
    have A9 := (A8.keep b9).alloc (.cells #[.int .i64 n, .int .i64 d, .bool dr] 31)
    have T9 := (T8.keep b9).alloc (.cells #[.int .i64 n, .int .i64 d, .bool dr] 31)
    have U9 := (U8.keep b9).alloc (.cells #[.int .i64 n, .int .i64 d, .bool dr] 31)
    have C9 := (C8.keep b9).alloc (.cells #[.int .i64 n, .int .i64 d, .bool dr] 31)
    have B9 := bup (bup B8 b9) (bel1 w9 (.cells #[.int .i64 n, .int .i64 d, .bool dr] 31))
    clear A8 T8 U8 C8 B8 a0 a1 a2 t0 t1 t2 t3 u0 u1 u2 u3 c0 c1 c2 c3
    clear b9
    have Q9 := RateAt.new w9 n d dr
    obtain ⟨_, a0, a1, a2⟩ := id A9
    obtain ⟨_, t0, t1, t2, t3⟩ := id T9
    obtain ⟨_, u0, u1, u2, u3⟩ := id U9
    obtain ⟨_, c0, c1, c2, c3⟩ := id C9
    obtain ⟨_, q0, q1, q2⟩ := id Q9
    go_wp2_with fail
    go_ret
    exact ⟨by simp, B9⟩
  · have q4 : (x.size : Int) < (y.size : Int) := by omega
    have q7 : ¬ x.size = y.size := by omega
    have q5 : ((x.size : Int) == (y.size : Int)) = false := by rw [beq_eq_false_iff_ne]; omega
    clear HC
    go_wp2_with fail
    go_at_call 18
    refine (CM.out _).mono ?_
    rintro e w7 ⟨rfl, b7⟩
    have A7 := (A6.keep b7)
    have T7 := (T6.keep b7)
    have U7 := (U6.keep b7)
    have C7 := (C6.keep b7)
    have B7 := bup B6 b7
    clear A6 T6 U6 C6 B6 a0 a1 a2 t0 t1 t2 t3 u0 u1 u2 u3 c0 c1 c2 c3
    clear b7
    obtain ⟨_, a0, a1, a2⟩ := id A7
    obtain ⟨_, t0, t1, t2, t3⟩ := id T7
    obtain ⟨_, u0, u1, u2, u3⟩ := id U7
    obtain ⟨_, c0, c1, c2, c3⟩ := id C7
    go_wp2_with fail
    go_at_call 19
    refine (RT.out _ B7).mono ?_
    rintro e w8 ⟨rfl, b8⟩
    have A8 := (A7.keep b8)
    have T8 := (T7.keep b8)
    have U8 := (U7.keep b8)
    have C8 := (C7.keep b8)
    have B8 := bup B7 b8
    clear A7 T7 U7 C7 B7 a0 a1 a2 t0 t1 t2 t3 u0 u1 u2 u3 c0 c1 c2 c3
    clear b8
    obtain ⟨_, a0, a1, a2⟩ := id A8
    obtain ⟨_, t0, t1, t2, t3⟩ := id T8
    obtain ⟨_, u0, u1, u2, u3⟩ := id U8
    obtain ⟨_, c0, c1, c2, c3⟩ := id C8
    go_wp2_with fail
    go_at_call 9
    refine (RR.out _).mono ?_
    rintro e w9 ⟨rfl, b9⟩
    have A9 := (A8.keep b9).alloc (.cells #[.int .i64 n, .int .i64 d, .bool dr] 31)
    have T9 := (T8.keep b9).alloc (.cells #[.int .i64 n, .int .i64 d, .bool dr] 31)
    have U9 := (U8.keep b9).alloc (.cells #[.int .i64 n, .int .i64 d, .bool dr] 31)
    have C9 := (C8.keep b9).alloc (.cells #[.int .i64 n, .int .i64 d, .bool dr] 31)
    have B9 := bup (bup B8 b9) (bel1 w9 (.cells #[.int .i64 n, .int .i64 d, .bool dr] 31))
    clear A8 T8 U8 C8 B8 a0 a1 a2 t0 t1 t2 t3 u0 u1 u2 u3 c0 c1 c2 c3
    clear b9
    have Q9 := RateAt.new w9 n d dr
    obtain ⟨_, a0, a1, a2⟩ := id A9
    obtain ⟨_, t0, t1, t2, t3⟩ := id T9
    obtain ⟨_, u0, u1, u2, u3⟩ := id U9
    obtain ⟨_, c0, c1, c2, c3⟩ := id C9
    obtain ⟨_, q0, q1, q2⟩ := id Q9
    go_wp2_with fail
    go_ret
    exact ⟨by simp, B9⟩
  · have q6 : ¬ (x.size : Int) < (y.size : Int) := by omega
    have q7 : ¬ x.size = y.size := by omega
    have q5 : ((x.size : Int) == (y.size : Int)) = false := by rw [beq_eq_false_iff_ne]; omega
    clear HC
    go_wp2_with fail
    go_at_call 19
    refine (RT.out _ B6).mono ?_
    rintro e w7 ⟨rfl, b7⟩
    have A7 := (A6.keep b7)
    have T7 := (T6.keep b7)
    have U7 := (U6.keep b7)
    have C7 := (C6.keep b7)
    have B7 := bup B6 b7
    clear A6 T6 U6 C6 B6 a0 a1 a2 t0 t1 t2 t3 u0 u1 u2 u3 c0 c1 c2 c3
    clear b7
    obtain ⟨_, a0, a1, a2⟩ := id A7
    obtain ⟨_, t0, t1, t2, t3⟩ := id T7
    obtain ⟨_, u0, u1, u2, u3⟩ := id U7
    obtain ⟨_, c0, c1, c2, c3⟩ := id C7
    go_wp2_with fail
    go_at_call 9
    refine (RR.out _).mono ?_
    rintro e w8 ⟨rfl, b8⟩
    have A8 := (A7.keep b8).alloc (.cells #[.int .i64 n, .int .i64 d, .bool dr] 31)
    have T8 := (T7.keep b8).alloc (.cells #[.int .i64 n, .int .i64 d, .bool dr] 31)
    have U8 := (U7.keep b8).alloc (.cells #[.int .i64 n, .int .i64 d, .bool dr] 31)
    have C8 := (C7.keep b8).alloc (.cells #[.int .i64 n, .int .i64 d, .bool dr] 31)
    have B8 := bup (bup B7 b8) (bel1 w8 (.cells #[.int .i64 n, .int .i64 d, .bool dr] 31))
    clear A7 T7 U7 C7 B7 a0 a1 a2 t0 t1 t2 t3 u0 u1 u2 u3 c0 c1 c2 c3
    clear b8
    have Q8 := RateAt.new w8 n d dr
    obtain ⟨_, a0, a1, a2⟩ := id A8
    obtain ⟨_, t0, t1, t2, t3⟩ := id T8
    obtain ⟨_, u0, u1, u2, u3⟩ := id U8
    obtain ⟨_, c0, c1, c2, c3⟩ := id C8
    obtain ⟨_, q0, q1, q2⟩ := id Q8
    go_wp2_with fail
    go_ret
    exact ⟨by simp, B8⟩
set_option maxRecDepth 100000 in
set_option maxHeartbeats 4000000 in
theorem spk_4b (one two n d k1 k2 an ad bn bd : Int) (dr : Bool) (c : Int) (x y : ByteArray) (hcase : (x.size = y.size ∧ Op.bytesLess x.toList y.toList = true ∧ c < 0) ∨ (x.size = y.size ∧ Op.bytesLess x.toList y.toList = false ∧ ¬ c < 0) ∨ (x.size < y.size ∧ c < 0) ∨ y.size < x.size) (w : World)
    (HK : ∀ w0, Below w.heap.size w w0 → Calls Tryz.prog 6 #[] w0 fun e w' => e = .returned (.bool true) ∧ Below w0.heap.size w0 w')
    (W1 : ∀ w, Calls Tryz.prog 13 #[.int .i64 one, .int .i64 36000001] w fun e w' => e = .returned (.int .i64 k1) ∧ w' = w)
    (W2 : ∀ w, Calls Tryz.prog 13 #[.int .i64 two, .int .i64 36000001] w fun e w' => e = .returned (.int .i64 k2) ∧ w' = w)
    (N1 : ∀ w, Calls Tryz.prog 16 #[.int .i64 k1, .int .i64 100] w fun e w' => e = .returned (.tuple #[.agg #[.int .i64 an, .int .i64 ad], .int .i64 0]) ∧ Below w.heap.size w w')
    (N2 : ∀ w, Calls Tryz.prog 16 #[.int .i64 k2, .int .i64 100] w fun e w' => e = .returned (.tuple #[.agg #[.int .i64 bn, .int .i64 bd], .int .i64 0]) ∧ Below w.heap.size w w')
    (C1 : ∀ w0, Below w.heap.size w w0 → Calls Tryz.prog 17 #[.int .i64 4, .agg #[.int .i64 an, .int .i64 ad]] w0 fun e w' => e = .returned (.tuple #[.string x, .int .i64 0]) ∧ Below w0.heap.size w0 w')
    (C2 : ∀ w0, Below w.heap.size w w0 → Calls Tryz.prog 17 #[.int .i64 4, .agg #[.int .i64 bn, .int .i64 bd]] w0 fun e w' => e = .returned (.tuple #[.string y, .int .i64 0]) ∧ Below w0.heap.size w0 w')
    (PC : ∀ w, Calls Tryz.prog 7 #[.int .i64 4, .string x] w fun e w' => e = .returned (.tuple #[.agg #[.int .i64 an, .int .i64 ad], .int .i64 0]) ∧ Below w.heap.size w w')
    (CM : ∀ w, Calls Tryz.prog 18 #[.agg #[.int .i64 an, .int .i64 ad], .agg #[.int .i64 bn, .int .i64 bd]] w fun e w' => e = .returned (.int .i64 c) ∧ Below w.heap.size w w')
    (RT : ∀ w0, Below w.heap.size w w0 → Calls Tryz.prog 19 #[.agg #[.int .i64 n, .int .i64 d, .bool dr]] w0 fun e w' => e = .returned (.tuple #[.string ⟨#[]⟩, .int .i64 14]) ∧ Below w0.heap.size w0 w')
    (CK : ∀ w, Calls Tryz.prog 20 #[.agg #[.int .i64 n, .int .i64 d, .bool dr]] w fun e w' => e = .returned (.int .i64 14) ∧ Below w.heap.size w w') :
    Calls Tryz.prog 5 #[.int .i64 4, .int .i64 one, .int .i64 two, .agg #[.int .i64 n, .int .i64 d, .bool dr]] w fun e w' => e = .returned (.bool true) ∧ Below w.heap.size w w' := by
  have HK := hideR HK
  have W1 := hideR W1
  have W2 := hideR W2
  have N1 := hideR N1
  have N2 := hideR N2
  have C1 := hideR C1
  have C2 := hideR C2
  have PC := hideR PC
  have CM := hideR CM
  have RT := hideR RT
  have CK := hideR CK
  have HC := hideR hcase
  clear hcase
  go_enter Tryz.func5, Tryz.ntmps5
  go_wp2_with fail
  go_at_call 6
  refine (HK.out _ (bel1 w _)).mono ?_
  rintro e w1 ⟨rfl, b1⟩
  have A1 := ((RateAt.new w n d dr).keep b1)
  have B1 := bup (bel1 w _) b1
  clear b1
  obtain ⟨_, a0, a1, a2⟩ := id A1
  go_wp2_with fail
  go_at_call 13
  refine (W1.out _).mono ?_
  rintro e wv ⟨rfl, hwv⟩
  obtain rfl := hwv.symm
  clear hwv
  go_wp2_with fail
  go_at_call 16
  refine (N1.out _).mono ?_
  rintro e w2 ⟨rfl, b2⟩
  have A2 := (A1.keep b2).alloc (.cells #[.int .i64 an, .int .i64 ad] 24)
  have B2 := bup (bup B1 b2) (bel1 w2 (.cells #[.int .i64 an, .int .i64 ad] 24))
  clear A1 B1 a0 a1 a2
  clear b2
  have T2 := Two.new w2 (.int .i64 an) (.int .i64 ad) 24
  obtain ⟨_, a0, a1, a2⟩ := id A2
  obtain ⟨_, t0, t1, t2, t3⟩ := id T2
  go_wp2_with fail
  go_at_call 13
  refine (W2.out _).mono ?_
  rintro e wv ⟨rfl, hwv⟩
  obtain rfl := hwv.symm
  clear hwv
  go_wp2_with fail
  go_at_call 16
  refine (N2.out _).mono ?_
  rintro e w3 ⟨rfl, b3⟩
  have A3 := (A2.keep b3).alloc (.cells #[.int .i64 bn, .int .i64 bd] 24)
  have T3 := (T2.keep b3).alloc (.cells #[.int .i64 bn, .int .i64 bd] 24)
  have B3 := bup (bup B2 b3) (bel1 w3 (.cells #[.int .i64 bn, .int .i64 bd] 24))
  clear A2 T2 B2 a0 a1 a2 t0 t1 t2 t3
  clear b3
  have U3 := Two.new w3 (.int .i64 bn) (.int .i64 bd) 24
  obtain ⟨_, a0, a1, a2⟩ := id A3
  obtain ⟨_, t0, t1, t2, t3⟩ := id T3
  obtain ⟨_, u0, u1, u2, u3⟩ := id U3
  go_wp2_with fail
  go_at_call 17
  refine (C1.out _ B3).mono ?_
  rintro e w4 ⟨rfl, b4⟩
  have A4 := (A3.keep b4)
  have T4 := (T3.keep b4)
  have U4 := (U3.keep b4)
  have B4 := bup B3 b4
  clear A3 T3 U3 B3 a0 a1 a2 t0 t1 t2 t3 u0 u1 u2 u3
  clear b4
  obtain ⟨_, a0, a1, a2⟩ := id A4
  obtain ⟨_, t0, t1, t2, t3⟩ := id T4
  obtain ⟨_, u0, u1, u2, u3⟩ := id U4
  go_wp2_with fail
  go_at_call 17
  refine (C2.out _ B4).mono ?_
  rintro e w5 ⟨rfl, b5⟩
  have A5 := (A4.keep b5)
  have T5 := (T4.keep b5)
  have U5 := (U4.keep b5)
  have B5 := bup B4 b5
  clear A4 T4 U4 B4 a0 a1 a2 t0 t1 t2 t3 u0 u1 u2 u3
  clear b5
  obtain ⟨_, a0, a1, a2⟩ := id A5
  obtain ⟨_, t0, t1, t2, t3⟩ := id T5
  obtain ⟨_, u0, u1, u2, u3⟩ := id U5
  go_wp2_with fail
  go_at_call 7
  refine (PC.out _).mono ?_
  rintro e w6 ⟨rfl, b6⟩
  have A6 := (A5.keep b6).alloc (.cells #[.int .i64 an, .int .i64 ad] 24)
  have T6 := (T5.keep b6).alloc (.cells #[.int .i64 an, .int .i64 ad] 24)
  have U6 := (U5.keep b6).alloc (.cells #[.int .i64 an, .int .i64 ad] 24)
  have B6 := bup (bup B5 b6) (bel1 w6 (.cells #[.int .i64 an, .int .i64 ad] 24))
  clear A5 T5 U5 B5 a0 a1 a2 t0 t1 t2 t3 u0 u1 u2 u3
  clear b6
  have C6 := Two.new w6 (.int .i64 an) (.int .i64 ad) 24
  obtain ⟨_, a0, a1, a2⟩ := id A6
  obtain ⟨_, t0, t1, t2, t3⟩ := id T6
  obtain ⟨_, u0, u1, u2, u3⟩ := id U6
  obtain ⟨_, c0, c1, c2, c3⟩ := id C6
  rcases HC.out with ⟨q1, q2, q3⟩ | ⟨q1, q2, q3⟩ | ⟨q1, q3⟩ | q1
  · have q4 : (x.size : Int) = (y.size : Int) := by omega
    have q5 : ((x.size : Int) == (y.size : Int)) = true := by rw [beq_iff_eq]; exact q4
    have q6 : ¬ (x.size : Int) < (y.size : Int) := by omega
    clear HC
    go_wp2_with fail
    go_at_call 18
    refine (CM.out _).mono ?_
    rintro e w7 ⟨rfl, b7⟩
    have A7 := (A6.keep b7)
    have T7 := (T6.keep b7)
    have U7 := (U6.keep b7)
    have C7 := (C6.keep b7)
    have B7 := bup B6 b7
    clear A6 T6 U6 C6 B6 a0 a1 a2 t0 t1 t2 t3 u0 u1 u2 u3 c0 c1 c2 c3
    clear b7
    obtain ⟨_, a0, a1, a2⟩ := id A7
    obtain ⟨_, t0, t1, t2, t3⟩ := id T7
    obtain ⟨_, u0, u1, u2, u3⟩ := id U7
    obtain ⟨_, c0, c1, c2, c3⟩ := id C7
    go_wp2_with fail
    go_at_call 19
    refine (RT.out _ B7).mono ?_
    rintro e w8 ⟨rfl, b8⟩
    have A8 := (A7.keep b8)
    have T8 := (T7.keep b8)
    have U8 := (U7.keep b8)
    have C8 := (C7.keep b8)
    have B8 := bup B7 b8
    clear A7 T7 U7 C7 B7 a0 a1 a2 t0 t1 t2 t3 u0 u1 u2 u3 c0 c1 c2 c3
    clear b8
    obtain ⟨_, a0, a1, a2⟩ := id A8
    obtain ⟨_, t0, t1, t2, t3⟩ := id T8
    obtain ⟨_, u0, u1, u2, u3⟩ := id U8
    obtain ⟨_, c0, c1, c2, c3⟩ := id C8
    go_wp2_with fail
    go_at_call 20
    refine (CK.out _).mono ?_
    rintro e w9 ⟨rfl, b9⟩
    have A9 := (A8.keep b9)
    have T9 := (T8.keep b9)
    have U9 := (U8.keep b9)
    have C9 := (C8.keep b9)
    have B9 := bup B8 b9
    clear A8 T8 U8 C8 B8 a0 a1 a2 t0 t1 t2 t3 u0 u1 u2 u3 c0 c1 c2 c3
    clear b9
    obtain ⟨_, a0, a1, a2⟩ := id A9
    obtain ⟨_, t0, t1, t2, t3⟩ := id T9
    obtain ⟨_, u0, u1, u2, u3⟩ := id U9
    obtain ⟨_, c0, c1, c2, c3⟩ := id C9
    go_wp2_with fail
    go_ret
    exact ⟨by simp, B9⟩
  · have q4 : (x.size : Int) = (y.size : Int) := by omega
    have q5 : ((x.size : Int) == (y.size : Int)) = true := by rw [beq_iff_eq]; exact q4
    have q6 : ¬ (x.size : Int) < (y.size : Int) := by omega
    clear HC
    go_wp2_with fail
    go_at_call 18
    refine (CM.out _).mono ?_
    rintro e w7 ⟨rfl, b7⟩
    have A7 := (A6.keep b7)
    have T7 := (T6.keep b7)
    have U7 := (U6.keep b7)
    have C7 := (C6.keep b7)
    have B7 := bup B6 b7
    clear A6 T6 U6 C6 B6 a0 a1 a2 t0 t1 t2 t3 u0 u1 u2 u3 c0 c1 c2 c3
    clear b7
    obtain ⟨_, a0, a1, a2⟩ := id A7
    obtain ⟨_, t0, t1, t2, t3⟩ := id T7
    obtain ⟨_, u0, u1, u2, u3⟩ := id U7
    obtain ⟨_, c0, c1, c2, c3⟩ := id C7
    go_wp2_with fail
    go_at_call 19
    refine (RT.out _ B7).mono ?_
    rintro e w8 ⟨rfl, b8⟩
    have A8 := (A7.keep b8)
    have T8 := (T7.keep b8)
    have U8 := (U7.keep b8)
    have C8 := (C7.keep b8)
    have B8 := bup B7 b8
    clear A7 T7 U7 C7 B7 a0 a1 a2 t0 t1 t2 t3 u0 u1 u2 u3 c0 c1 c2 c3
    clear b8
    obtain ⟨_, a0, a1, a2⟩ := id A8
    obtain ⟨_, t0, t1, t2, t3⟩ := id T8
    obtain ⟨_, u0, u1, u2, u3⟩ := id U8
    obtain ⟨_, c0, c1, c2, c3⟩ := id C8
    go_wp2_with fail
    go_at_call 20
    refine (CK.out _).mono ?_
    rintro e w9 ⟨rfl, b9⟩
    have A9 := (A8.keep b9)
    have T9 := (T8.keep b9)
    have U9 := (U8.keep b9)
    have C9 := (C8.keep b9)
    have B9 := bup B8 b9
    clear A8 T8 U8 C8 B8 a0 a1 a2 t0 t1 t2 t3 u0 u1 u2 u3 c0 c1 c2 c3
    clear b9
    obtain ⟨_, a0, a1, a2⟩ := id A9
    obtain ⟨_, t0, t1, t2, t3⟩ := id T9
    obtain ⟨_, u0, u1, u2, u3⟩ := id U9
    obtain ⟨_, c0, c1, c2, c3⟩ := id C9
    go_wp2_with fail
    go_ret
    exact ⟨by simp, B9⟩
  · have q4 : (x.size : Int) < (y.size : Int) := by omega
    have q7 : ¬ x.size = y.size := by omega
    have q5 : ((x.size : Int) == (y.size : Int)) = false := by rw [beq_eq_false_iff_ne]; omega
    clear HC
    go_wp2_with fail
    go_at_call 18
    refine (CM.out _).mono ?_
    rintro e w7 ⟨rfl, b7⟩
    have A7 := (A6.keep b7)
    have T7 := (T6.keep b7)
    have U7 := (U6.keep b7)
    have C7 := (C6.keep b7)
    have B7 := bup B6 b7
    clear A6 T6 U6 C6 B6 a0 a1 a2 t0 t1 t2 t3 u0 u1 u2 u3 c0 c1 c2 c3
    clear b7
    obtain ⟨_, a0, a1, a2⟩ := id A7
    obtain ⟨_, t0, t1, t2, t3⟩ := id T7
    obtain ⟨_, u0, u1, u2, u3⟩ := id U7
    obtain ⟨_, c0, c1, c2, c3⟩ := id C7
    go_wp2_with fail
    go_at_call 19
    refine (RT.out _ B7).mono ?_
    rintro e w8 ⟨rfl, b8⟩
    have A8 := (A7.keep b8)
    have T8 := (T7.keep b8)
    have U8 := (U7.keep b8)
    have C8 := (C7.keep b8)
    have B8 := bup B7 b8
    clear A7 T7 U7 C7 B7 a0 a1 a2 t0 t1 t2 t3 u0 u1 u2 u3 c0 c1 c2 c3
    clear b8
    obtain ⟨_, a0, a1, a2⟩ := id A8
    obtain ⟨_, t0, t1, t2, t3⟩ := id T8
    obtain ⟨_, u0, u1, u2, u3⟩ := id U8
    obtain ⟨_, c0, c1, c2, c3⟩ := id C8
    go_wp2_with fail
    go_at_call 20
    refine (CK.out _).mono ?_
    rintro e w9 ⟨rfl, b9⟩
    have A9 := (A8.keep b9)
    have T9 := (T8.keep b9)
    have U9 := (U8.keep b9)
    have C9 := (C8.keep b9)
    have B9 := bup B8 b9
    clear A8 T8 U8 C8 B8 a0 a1 a2 t0 t1 t2 t3 u0 u1 u2 u3 c0 c1 c2 c3
    clear b9
    obtain ⟨_, a0, a1, a2⟩ := id A9
    obtain ⟨_, t0, t1, t2, t3⟩ := id T9
    obtain ⟨_, u0, u1, u2, u3⟩ := id U9
    obtain ⟨_, c0, c1, c2, c3⟩ := id C9
    go_wp2_with fail
    go_ret
    exact ⟨by simp, B9⟩
  · have q6 : ¬ (x.size : Int) < (y.size : Int) := by omega
    have q7 : ¬ x.size = y.size := by omega
    have q5 : ((x.size : Int) == (y.size : Int)) = false := by rw [beq_eq_false_iff_ne]; omega
    clear HC
    go_wp2_with fail
    go_at_call 19
    refine (RT.out _ B6).mono ?_
    rintro e w7 ⟨rfl, b7⟩
    have A7 := (A6.keep b7)
    have T7 := (T6.keep b7)
    have U7 := (U6.keep b7)
    have C7 := (C6.keep b7)
    have B7 := bup B6 b7
    clear A6 T6 U6 C6 B6 a0 a1 a2 t0 t1 t2 t3 u0 u1 u2 u3 c0 c1 c2 c3
    clear b7
    obtain ⟨_, a0, a1, a2⟩ := id A7
    obtain ⟨_, t0, t1, t2, t3⟩ := id T7
    obtain ⟨_, u0, u1, u2, u3⟩ := id U7
    obtain ⟨_, c0, c1, c2, c3⟩ := id C7
    go_wp2_with fail
    go_at_call 20
    refine (CK.out _).mono ?_
    rintro e w8 ⟨rfl, b8⟩
    have A8 := (A7.keep b8)
    have T8 := (T7.keep b8)
    have U8 := (U7.keep b8)
    have C8 := (C7.keep b8)
    have B8 := bup B7 b8
    clear A7 T7 U7 C7 B7 a0 a1 a2 t0 t1 t2 t3 u0 u1 u2 u3 c0 c1 c2 c3
    clear b8
    obtain ⟨_, a0, a1, a2⟩ := id A8
    obtain ⟨_, t0, t1, t2, t3⟩ := id T8
    obtain ⟨_, u0, u1, u2, u3⟩ := id U8
    obtain ⟨_, c0, c1, c2, c3⟩ := id C8
    go_wp2_with fail
    go_ret
    exact ⟨by simp, B8⟩
set_option maxRecDepth 100000 in
set_option maxHeartbeats 4000000 in
theorem spk_4k (one two n d k1 k2 an ad bn bd : Int) (dr : Bool) (c : Int) (x y : ByteArray) (s : ByteArray) (hcase : (x.size = y.size ∧ Op.bytesLess x.toList y.toList = true ∧ c < 0) ∨ (x.size = y.size ∧ Op.bytesLess x.toList y.toList = false ∧ ¬ c < 0) ∨ (x.size < y.size ∧ c < 0) ∨ y.size < x.size) (w : World)
    (HK : ∀ w0, Below w.heap.size w w0 → Calls Tryz.prog 6 #[] w0 fun e w' => e = .returned (.bool true) ∧ Below w0.heap.size w0 w')
    (W1 : ∀ w, Calls Tryz.prog 13 #[.int .i64 one, .int .i64 36000001] w fun e w' => e = .returned (.int .i64 k1) ∧ w' = w)
    (W2 : ∀ w, Calls Tryz.prog 13 #[.int .i64 two, .int .i64 36000001] w fun e w' => e = .returned (.int .i64 k2) ∧ w' = w)
    (N1 : ∀ w, Calls Tryz.prog 16 #[.int .i64 k1, .int .i64 100] w fun e w' => e = .returned (.tuple #[.agg #[.int .i64 an, .int .i64 ad], .int .i64 0]) ∧ Below w.heap.size w w')
    (N2 : ∀ w, Calls Tryz.prog 16 #[.int .i64 k2, .int .i64 100] w fun e w' => e = .returned (.tuple #[.agg #[.int .i64 bn, .int .i64 bd], .int .i64 0]) ∧ Below w.heap.size w w')
    (C1 : ∀ w0, Below w.heap.size w w0 → Calls Tryz.prog 17 #[.int .i64 4, .agg #[.int .i64 an, .int .i64 ad]] w0 fun e w' => e = .returned (.tuple #[.string x, .int .i64 0]) ∧ Below w0.heap.size w0 w')
    (C2 : ∀ w0, Below w.heap.size w w0 → Calls Tryz.prog 17 #[.int .i64 4, .agg #[.int .i64 bn, .int .i64 bd]] w0 fun e w' => e = .returned (.tuple #[.string y, .int .i64 0]) ∧ Below w0.heap.size w0 w')
    (PC : ∀ w, Calls Tryz.prog 7 #[.int .i64 4, .string x] w fun e w' => e = .returned (.tuple #[.agg #[.int .i64 an, .int .i64 ad], .int .i64 0]) ∧ Below w.heap.size w w')
    (CM : ∀ w, Calls Tryz.prog 18 #[.agg #[.int .i64 an, .int .i64 ad], .agg #[.int .i64 bn, .int .i64 bd]] w fun e w' => e = .returned (.int .i64 c) ∧ Below w.heap.size w w')
    (RT : ∀ w0, Below w.heap.size w w0 → Calls Tryz.prog 19 #[.agg #[.int .i64 n, .int .i64 d, .bool dr]] w0 fun e w' => e = .returned (.tuple #[.string s, .int .i64 0]) ∧ Below w0.heap.size w0 w')
    (RR : ∀ w, Calls Tryz.prog 9 #[.string s] w fun e w' => e = .returned (.tuple #[.agg #[.int .i64 n, .int .i64 d, .bool dr], .int .i64 0]) ∧ Below w.heap.size w w') :
    Calls Tryz.prog 5 #[.int .i64 4, .int .i64 one, .int .i64 two, .agg #[.int .i64 n, .int .i64 d, .bool dr]] w fun e w' => e = .returned (.bool true) ∧ Below w.heap.size w w' := by
  have HK := hideR HK
  have W1 := hideR W1
  have W2 := hideR W2
  have N1 := hideR N1
  have N2 := hideR N2
  have C1 := hideR C1
  have C2 := hideR C2
  have PC := hideR PC
  have CM := hideR CM
  have RT := hideR RT
  have RR := hideR RR
  have HC := hideR hcase
  clear hcase
  go_enter Tryz.func5, Tryz.ntmps5
  go_wp2_with fail
  go_at_call 6
  refine (HK.out _ (bel1 w _)).mono ?_
  rintro e w1 ⟨rfl, b1⟩
  have A1 := ((RateAt.new w n d dr).keep b1)
  have B1 := bup (bel1 w _) b1
  clear b1
  obtain ⟨_, a0, a1, a2⟩ := id A1
  go_wp2_with fail
  go_at_call 13
  refine (W1.out _).mono ?_
  rintro e wv ⟨rfl, hwv⟩
  obtain rfl := hwv.symm
  clear hwv
  go_wp2_with fail
  go_at_call 16
  refine (N1.out _).mono ?_
  rintro e w2 ⟨rfl, b2⟩
  have A2 := (A1.keep b2).alloc (.cells #[.int .i64 an, .int .i64 ad] 24)
  have B2 := bup (bup B1 b2) (bel1 w2 (.cells #[.int .i64 an, .int .i64 ad] 24))
  clear A1 B1 a0 a1 a2
  clear b2
  have T2 := Two.new w2 (.int .i64 an) (.int .i64 ad) 24
  obtain ⟨_, a0, a1, a2⟩ := id A2
  obtain ⟨_, t0, t1, t2, t3⟩ := id T2
  go_wp2_with fail
  go_at_call 13
  refine (W2.out _).mono ?_
  rintro e wv ⟨rfl, hwv⟩
  obtain rfl := hwv.symm
  clear hwv
  go_wp2_with fail
  go_at_call 16
  refine (N2.out _).mono ?_
  rintro e w3 ⟨rfl, b3⟩
  have A3 := (A2.keep b3).alloc (.cells #[.int .i64 bn, .int .i64 bd] 24)
  have T3 := (T2.keep b3).alloc (.cells #[.int .i64 bn, .int .i64 bd] 24)
  have B3 := bup (bup B2 b3) (bel1 w3 (.cells #[.int .i64 bn, .int .i64 bd] 24))
  clear A2 T2 B2 a0 a1 a2 t0 t1 t2 t3
  clear b3
  have U3 := Two.new w3 (.int .i64 bn) (.int .i64 bd) 24
  obtain ⟨_, a0, a1, a2⟩ := id A3
  obtain ⟨_, t0, t1, t2, t3⟩ := id T3
  obtain ⟨_, u0, u1, u2, u3⟩ := id U3
  go_wp2_with fail
  go_at_call 17
  refine (C1.out _ B3).mono ?_
  rintro e w4 ⟨rfl, b4⟩
  have A4 := (A3.keep b4)
  have T4 := (T3.keep b4)
  have U4 := (U3.keep b4)
  have B4 := bup B3 b4
  clear A3 T3 U3 B3 a0 a1 a2 t0 t1 t2 t3 u0 u1 u2 u3
  clear b4
  obtain ⟨_, a0, a1, a2⟩ := id A4
  obtain ⟨_, t0, t1, t2, t3⟩ := id T4
  obtain ⟨_, u0, u1, u2, u3⟩ := id U4
  go_wp2_with fail
  go_at_call 17
  refine (C2.out _ B4).mono ?_
  rintro e w5 ⟨rfl, b5⟩
  have A5 := (A4.keep b5)
  have T5 := (T4.keep b5)
  have U5 := (U4.keep b5)
  have B5 := bup B4 b5
  clear A4 T4 U4 B4 a0 a1 a2 t0 t1 t2 t3 u0 u1 u2 u3
  clear b5
  obtain ⟨_, a0, a1, a2⟩ := id A5
  obtain ⟨_, t0, t1, t2, t3⟩ := id T5
  obtain ⟨_, u0, u1, u2, u3⟩ := id U5
  go_wp2_with fail
  go_at_call 7
  refine (PC.out _).mono ?_
  rintro e w6 ⟨rfl, b6⟩
  have A6 := (A5.keep b6).alloc (.cells #[.int .i64 an, .int .i64 ad] 24)
  have T6 := (T5.keep b6).alloc (.cells #[.int .i64 an, .int .i64 ad] 24)
  have U6 := (U5.keep b6).alloc (.cells #[.int .i64 an, .int .i64 ad] 24)
  have B6 := bup (bup B5 b6) (bel1 w6 (.cells #[.int .i64 an, .int .i64 ad] 24))
  clear A5 T5 U5 B5 a0 a1 a2 t0 t1 t2 t3 u0 u1 u2 u3
  clear b6
  have C6 := Two.new w6 (.int .i64 an) (.int .i64 ad) 24
  obtain ⟨_, a0, a1, a2⟩ := id A6
  obtain ⟨_, t0, t1, t2, t3⟩ := id T6
  obtain ⟨_, u0, u1, u2, u3⟩ := id U6
  obtain ⟨_, c0, c1, c2, c3⟩ := id C6
  rcases HC.out with ⟨q1, q2, q3⟩ | ⟨q1, q2, q3⟩ | ⟨q1, q3⟩ | q1
  · have q4 : (x.size : Int) = (y.size : Int) := by omega
    have q5 : ((x.size : Int) == (y.size : Int)) = true := by rw [beq_iff_eq]; exact q4
    have q6 : ¬ (x.size : Int) < (y.size : Int) := by omega
    clear HC
    go_wp2_with fail
    go_at_call 18
    refine (CM.out _).mono ?_
    rintro e w7 ⟨rfl, b7⟩
    have A7 := (A6.keep b7)
    have T7 := (T6.keep b7)
    have U7 := (U6.keep b7)
    have C7 := (C6.keep b7)
    have B7 := bup B6 b7
    clear A6 T6 U6 C6 B6 a0 a1 a2 t0 t1 t2 t3 u0 u1 u2 u3 c0 c1 c2 c3
    clear b7
    obtain ⟨_, a0, a1, a2⟩ := id A7
    obtain ⟨_, t0, t1, t2, t3⟩ := id T7
    obtain ⟨_, u0, u1, u2, u3⟩ := id U7
    obtain ⟨_, c0, c1, c2, c3⟩ := id C7
    go_wp2_with fail
    go_at_call 19
    refine (RT.out _ B7).mono ?_
    rintro e w8 ⟨rfl, b8⟩
    have A8 := (A7.keep b8)
    have T8 := (T7.keep b8)
    have U8 := (U7.keep b8)
    have C8 := (C7.keep b8)
    have B8 := bup B7 b8
    clear A7 T7 U7 C7 B7 a0 a1 a2 t0 t1 t2 t3 u0 u1 u2 u3 c0 c1 c2 c3
    clear b8
    obtain ⟨_, a0, a1, a2⟩ := id A8
    obtain ⟨_, t0, t1, t2, t3⟩ := id T8
    obtain ⟨_, u0, u1, u2, u3⟩ := id U8
    obtain ⟨_, c0, c1, c2, c3⟩ := id C8
    go_wp2_with fail
    go_at_call 9
    refine (RR.out _).mono ?_
    rintro e w9 ⟨rfl, b9⟩
    have A9 := (A8.keep b9).alloc (.cells #[.int .i64 n, .int .i64 d, .bool dr] 31)
    have T9 := (T8.keep b9).alloc (.cells #[.int .i64 n, .int .i64 d, .bool dr] 31)
    have U9 := (U8.keep b9).alloc (.cells #[.int .i64 n, .int .i64 d, .bool dr] 31)
    have C9 := (C8.keep b9).alloc (.cells #[.int .i64 n, .int .i64 d, .bool dr] 31)
    have B9 := bup (bup B8 b9) (bel1 w9 (.cells #[.int .i64 n, .int .i64 d, .bool dr] 31))
    clear A8 T8 U8 C8 B8 a0 a1 a2 t0 t1 t2 t3 u0 u1 u2 u3 c0 c1 c2 c3
    clear b9
    have Q9 := RateAt.new w9 n d dr
    obtain ⟨_, a0, a1, a2⟩ := id A9
    obtain ⟨_, t0, t1, t2, t3⟩ := id T9
    obtain ⟨_, u0, u1, u2, u3⟩ := id U9
    obtain ⟨_, c0, c1, c2, c3⟩ := id C9
    obtain ⟨_, q0, q1, q2⟩ := id Q9
    go_wp2_with fail
    go_ret
    exact ⟨by simp, B9⟩
  · have q4 : (x.size : Int) = (y.size : Int) := by omega
    have q5 : ((x.size : Int) == (y.size : Int)) = true := by rw [beq_iff_eq]; exact q4
    have q6 : ¬ (x.size : Int) < (y.size : Int) := by omega
    clear HC
    go_wp2_with fail
    go_at_call 18
    refine (CM.out _).mono ?_
    rintro e w7 ⟨rfl, b7⟩
    have A7 := (A6.keep b7)
    have T7 := (T6.keep b7)
    have U7 := (U6.keep b7)
    have C7 := (C6.keep b7)
    have B7 := bup B6 b7
    clear A6 T6 U6 C6 B6 a0 a1 a2 t0 t1 t2 t3 u0 u1 u2 u3 c0 c1 c2 c3
    clear b7
    obtain ⟨_, a0, a1, a2⟩ := id A7
    obtain ⟨_, t0, t1, t2, t3⟩ := id T7
    obtain ⟨_, u0, u1, u2, u3⟩ := id U7
    obtain ⟨_, c0, c1, c2, c3⟩ := id C7
    go_wp2_with fail
    go_at_call 19
    refine (RT.out _ B7).mono ?_
    rintro e w8 ⟨rfl, b8⟩
    have A8 := (A7.keep b8)
    have T8 := (T7.keep b8)
    have U8 := (U7.keep b8)
    have C8 := (C7.keep b8)
    have B8 := bup B7 b8
    clear A7 T7 U7 C7 B7 a0 a1 a2 t0 t1 t2 t3 u0 u1 u2 u3 c0 c1 c2 c3
    clear b8
    obtain ⟨_, a0, a1, a2⟩ := id A8
    obtain ⟨_, t0, t1, t2, t3⟩ := id T8
    obtain ⟨_, u0, u1, u2, u3⟩ := id U8
    obtain ⟨_, c0, c1, c2, c3⟩ := id C8
    go_wp2_with fail
    go_at_call 9
    refine (RR.out _).mono ?_
    rintro e w9 ⟨rfl, b9⟩
    have A9 := (A8.keep b9).alloc (.cells #[.int .i64 n, .int .i64 d, .bool dr] 31)
    have T9 := (T8.keep b9).alloc (.cells #[.int .i64 n, .int .i64 d, .bool dr] 31)
    have U9 := (U8.keep b9).alloc (.cells #[.int .i64 n, .int .i64 d, .bool dr] 31)
    have C9 := (C8.keep b9).alloc (.cells #[.int .i64 n, .int .i64 d, .bool dr] 31)
    have B9 := bup (bup B8 b9) (bel1 w9 (.cells #[.int .i64 n, .int .i64 d, .bool dr] 31))
    clear A8 T8 U8 C8 B8 a0 a1 a2 t0 t1 t2 t3 u0 u1 u2 u3 c0 c1 c2 c3
    clear b9
    have Q9 := RateAt.new w9 n d dr
    obtain ⟨_, a0, a1, a2⟩ := id A9
    obtain ⟨_, t0, t1, t2, t3⟩ := id T9
    obtain ⟨_, u0, u1, u2, u3⟩ := id U9
    obtain ⟨_, c0, c1, c2, c3⟩ := id C9
    obtain ⟨_, q0, q1, q2⟩ := id Q9
    go_wp2_with fail
    go_ret
    exact ⟨by simp, B9⟩
  · have q4 : (x.size : Int) < (y.size : Int) := by omega
    have q7 : ¬ x.size = y.size := by omega
    have q5 : ((x.size : Int) == (y.size : Int)) = false := by rw [beq_eq_false_iff_ne]; omega
    clear HC
    go_wp2_with fail
    go_at_call 18
    refine (CM.out _).mono ?_
    rintro e w7 ⟨rfl, b7⟩
    have A7 := (A6.keep b7)
    have T7 := (T6.keep b7)
    have U7 := (U6.keep b7)
    have C7 := (C6.keep b7)
    have B7 := bup B6 b7
    clear A6 T6 U6 C6 B6 a0 a1 a2 t0 t1 t2 t3 u0 u1 u2 u3 c0 c1 c2 c3
    clear b7
    obtain ⟨_, a0, a1, a2⟩ := id A7
    obtain ⟨_, t0, t1, t2, t3⟩ := id T7
    obtain ⟨_, u0, u1, u2, u3⟩ := id U7
    obtain ⟨_, c0, c1, c2, c3⟩ := id C7
    go_wp2_with fail
    go_at_call 19
    refine (RT.out _ B7).mono ?_
    rintro e w8 ⟨rfl, b8⟩
    have A8 := (A7.keep b8)
    have T8 := (T7.keep b8)
    have U8 := (U7.keep b8)
    have C8 := (C7.keep b8)
    have B8 := bup B7 b8
    clear A7 T7 U7 C7 B7 a0 a1 a2 t0 t1 t2 t3 u0 u1 u2 u3 c0 c1 c2 c3
    clear b8
    obtain ⟨_, a0, a1, a2⟩ := id A8
    obtain ⟨_, t0, t1, t2, t3⟩ := id T8
    obtain ⟨_, u0, u1, u2, u3⟩ := id U8
    obtain ⟨_, c0, c1, c2, c3⟩ := id C8
    go_wp2_with fail
    go_at_call 9
    refine (RR.out _).mono ?_
    rintro e w9 ⟨rfl, b9⟩
    have A9 := (A8.keep b9).alloc (.cells #[.int .i64 n, .int .i64 d, .bool dr] 31)
    have T9 := (T8.keep b9).alloc (.cells #[.int .i64 n, .int .i64 d, .bool dr] 31)
    have U9 := (U8.keep b9).alloc (.cells #[.int .i64 n, .int .i64 d, .bool dr] 31)
    have C9 := (C8.keep b9).alloc (.cells #[.int .i64 n, .int .i64 d, .bool dr] 31)
    have B9 := bup (bup B8 b9) (bel1 w9 (.cells #[.int .i64 n, .int .i64 d, .bool dr] 31))
    clear A8 T8 U8 C8 B8 a0 a1 a2 t0 t1 t2 t3 u0 u1 u2 u3 c0 c1 c2 c3
    clear b9
    have Q9 := RateAt.new w9 n d dr
    obtain ⟨_, a0, a1, a2⟩ := id A9
    obtain ⟨_, t0, t1, t2, t3⟩ := id T9
    obtain ⟨_, u0, u1, u2, u3⟩ := id U9
    obtain ⟨_, c0, c1, c2, c3⟩ := id C9
    obtain ⟨_, q0, q1, q2⟩ := id Q9
    go_wp2_with fail
    go_ret
    exact ⟨by simp, B9⟩
  · have q6 : ¬ (x.size : Int) < (y.size : Int) := by omega
    have q7 : ¬ x.size = y.size := by omega
    have q5 : ((x.size : Int) == (y.size : Int)) = false := by rw [beq_eq_false_iff_ne]; omega
    clear HC
    go_wp2_with fail
    go_at_call 19
    refine (RT.out _ B6).mono ?_
    rintro e w7 ⟨rfl, b7⟩
    have A7 := (A6.keep b7)
    have T7 := (T6.keep b7)
    have U7 := (U6.keep b7)
    have C7 := (C6.keep b7)
    have B7 := bup B6 b7
    clear A6 T6 U6 C6 B6 a0 a1 a2 t0 t1 t2 t3 u0 u1 u2 u3 c0 c1 c2 c3
    clear b7
    obtain ⟨_, a0, a1, a2⟩ := id A7
    obtain ⟨_, t0, t1, t2, t3⟩ := id T7
    obtain ⟨_, u0, u1, u2, u3⟩ := id U7
    obtain ⟨_, c0, c1, c2, c3⟩ := id C7
    go_wp2_with fail
    go_at_call 9
    refine (RR.out _).mono ?_
    rintro e w8 ⟨rfl, b8⟩
    have A8 := (A7.keep b8).alloc (.cells #[.int .i64 n, .int .i64 d, .bool dr] 31)
    have T8 := (T7.keep b8).alloc (.cells #[.int .i64 n, .int .i64 d, .bool dr] 31)
    have U8 := (U7.keep b8).alloc (.cells #[.int .i64 n, .int .i64 d, .bool dr] 31)
    have C8 := (C7.keep b8).alloc (.cells #[.int .i64 n, .int .i64 d, .bool dr] 31)
    have B8 := bup (bup B7 b8) (bel1 w8 (.cells #[.int .i64 n, .int .i64 d, .bool dr] 31))
    clear A7 T7 U7 C7 B7 a0 a1 a2 t0 t1 t2 t3 u0 u1 u2 u3 c0 c1 c2 c3
    clear b8
    have Q8 := RateAt.new w8 n d dr
    obtain ⟨_, a0, a1, a2⟩ := id A8
    obtain ⟨_, t0, t1, t2, t3⟩ := id T8
    obtain ⟨_, u0, u1, u2, u3⟩ := id U8
    obtain ⟨_, c0, c1, c2, c3⟩ := id C8
    obtain ⟨_, q0, q1, q2⟩ := id Q8
    go_wp2_with fail
    go_ret
    exact ⟨by simp, B8⟩
set_option maxRecDepth 100000 in
set_option maxHeartbeats 4000000 in
theorem spk_o (fm : Int) (h1 : (fm != 1) = true) (h2 : (fm != 2) = true) (h4 : (fm != 4) = true) (h5 : (fm == 4) = false) (one two n d k1 k2 an ad bn bd : Int) (dr : Bool) (w : World)
    (HK : ∀ w0, Below w.heap.size w w0 → Calls Tryz.prog 6 #[] w0 fun e w' => e = .returned (.bool true) ∧ Below w0.heap.size w0 w')
    (W1 : ∀ w, Calls Tryz.prog 13 #[.int .i64 one, .int .i64 360000001] w fun e w' => e = .returned (.int .i64 k1) ∧ w' = w)
    (W2 : ∀ w, Calls Tryz.prog 13 #[.int .i64 two, .int .i64 360000001] w fun e w' => e = .returned (.int .i64 k2) ∧ w' = w)
    (N1 : ∀ w, Calls Tryz.prog 16 #[.int .i64 k1, .int .i64 1000] w fun e w' => e = .returned (.tuple #[.agg #[.int .i64 an, .int .i64 ad], .int .i64 0]) ∧ Below w.heap.size w w')
    (N2 : ∀ w, Calls Tryz.prog 16 #[.int .i64 k2, .int .i64 1000] w fun e w' => e = .returned (.tuple #[.agg #[.int .i64 bn, .int .i64 bd], .int .i64 0]) ∧ Below w.heap.size w w')
    (C1 : ∀ w0, Below w.heap.size w w0 → Calls Tryz.prog 17 #[.int .i64 fm, .agg #[.int .i64 an, .int .i64 ad]] w0 fun e w' => e = .returned (.tuple #[.string ⟨#[]⟩, .int .i64 5]) ∧ Below w0.heap.size w0 w')
    (C2 : ∀ w0, Below w.heap.size w w0 → Calls Tryz.prog 17 #[.int .i64 fm, .agg #[.int .i64 bn, .int .i64 bd]] w0 fun e w' => e = .returned (.tuple #[.string ⟨#[]⟩, .int .i64 5]) ∧ Below w0.heap.size w0 w') :
    Calls Tryz.prog 5 #[.int .i64 fm, .int .i64 one, .int .i64 two, .agg #[.int .i64 n, .int .i64 d, .bool dr]] w fun e w' => e = .returned (.bool true) ∧ Below w.heap.size w w' := by
  have HK := hideR HK
  have W1 := hideR W1
  have W2 := hideR W2
  have N1 := hideR N1
  have N2 := hideR N2
  have C1 := hideR C1
  have C2 := hideR C2
  go_enter Tryz.func5, Tryz.ntmps5
  go_wp2_with fail
  go_at_call 6
  refine (HK.out _ (bel1 w _)).mono ?_
  rintro e w1 ⟨rfl, b1⟩
  have A1 := ((RateAt.new w n d dr).keep b1)
  have B1 := bup (bel1 w _) b1
  clear b1
  obtain ⟨_, a0, a1, a2⟩ := id A1
  go_wp2_with fail
  go_at_call 13
  refine (W1.out _).mono ?_
  rintro e wv ⟨rfl, hwv⟩
  obtain rfl := hwv.symm
  clear hwv
  go_wp2_with fail
  go_at_call 16
  refine (N1.out _).mono ?_
  rintro e w2 ⟨rfl, b2⟩
  have A2 := (A1.keep b2).alloc (.cells #[.int .i64 an, .int .i64 ad] 24)
  have B2 := bup (bup B1 b2) (bel1 w2 (.cells #[.int .i64 an, .int .i64 ad] 24))
  clear A1 B1 a0 a1 a2
  clear b2
  have T2 := Two.new w2 (.int .i64 an) (.int .i64 ad) 24
  obtain ⟨_, a0, a1, a2⟩ := id A2
  obtain ⟨_, t0, t1, t2, t3⟩ := id T2
  go_wp2_with fail
  go_at_call 13
  refine (W2.out _).mono ?_
  rintro e wv ⟨rfl, hwv⟩
  obtain rfl := hwv.symm
  clear hwv
  go_wp2_with fail
  go_at_call 16
  refine (N2.out _).mono ?_
  rintro e w3 ⟨rfl, b3⟩
  have A3 := (A2.keep b3).alloc (.cells #[.int .i64 bn, .int .i64 bd] 24)
  have T3 := (T2.keep b3).alloc (.cells #[.int .i64 bn, .int .i64 bd] 24)
  have B3 := bup (bup B2 b3) (bel1 w3 (.cells #[.int .i64 bn, .int .i64 bd] 24))
  clear A2 T2 B2 a0 a1 a2 t0 t1 t2 t3
  clear b3
  have U3 := Two.new w3 (.int .i64 bn) (.int .i64 bd) 24
  obtain ⟨_, a0, a1, a2⟩ := id A3
  obtain ⟨_, t0, t1, t2, t3⟩ := id T3
  obtain ⟨_, u0, u1, u2, u3⟩ := id U3
  go_wp2_with fail
  go_at_call 17
  refine (C1.out _ B3).mono ?_
  rintro e w4 ⟨rfl, b4⟩
  have A4 := (A3.keep b4)
  have T4 := (T3.keep b4)
  have U4 := (U3.keep b4)
  have B4 := bup B3 b4
  clear A3 T3 U3 B3 a0 a1 a2 t0 t1 t2 t3 u0 u1 u2 u3
  clear b4
  obtain ⟨_, a0, a1, a2⟩ := id A4
  obtain ⟨_, t0, t1, t2, t3⟩ := id T4
  obtain ⟨_, u0, u1, u2, u3⟩ := id U4
  go_wp2_with fail
  go_at_call 17
  refine (C2.out _ B4).mono ?_
  rintro e w5 ⟨rfl, b5⟩
  have A5 := (A4.keep b5)
  have T5 := (T4.keep b5)
  have U5 := (U4.keep b5)
  have B5 := bup B4 b5
  clear A4 T4 U4 B4 a0 a1 a2 t0 t1 t2 t3 u0 u1 u2 u3
  clear b5
  obtain ⟨_, a0, a1, a2⟩ := id A5
  obtain ⟨_, t0, t1, t2, t3⟩ := id T5
  obtain ⟨_, u0, u1, u2, u3⟩ := id U5
  go_wp2_with fail
  go_ret
  exact ⟨by simp, B5⟩
end Go.Proofs.YtaipdckakgohjaaGreatDoor
