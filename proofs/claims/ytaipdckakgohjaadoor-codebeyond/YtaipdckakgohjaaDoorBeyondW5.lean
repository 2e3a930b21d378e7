/- The walk of surtitlelaw5.CodeBeyond. -/
import Derived.Test.YtaipdckakgohjaaDoorCdP
import Derived.Test.YtaipdckakgohjaaDoorCRefA
namespace Go.Proofs.YtaipdckakgohjaaDoor
open Go.RowKit Go.Shelf
attribute [local go_sem] Oper.semAt_some bs_toList

set_option maxRecDepth 100000 in
set_option maxHeartbeats 2000000 in
theorem beyond_bad (n d c : Int) (dr : Bool) (hc : (c != 0) = true) (w : World)
    (HK : ∀ w0, Below w.heap.size w w0 → Calls Tryd.prog 15 #[] w0 fun e w' => e = .returned (.bool true) ∧ Below w0.heap.size w0 w')
    (HC : ∀ w, Calls Tryd.prog 21 #[.agg #[.int .i64 n, .int .i64 d, .bool dr]] w fun e w' => e = .returned (.int .i64 c) ∧ Below w.heap.size w w') :
    Calls Tryd.prog 14 #[.agg #[.int .i64 n, .int .i64 d, .bool dr]] w fun e w' => e = .returned (.bool true) ∧ Below w.heap.size w w' := by
  have HK := hideR HK
  have HC := hideR HC
  go_enter Tryd.func14, Tryd.ntmps14
  go_wp2_with fail
  go_at_call 15
  refine (HK.out _ (bel1 w _)).mono ?_
  rintro e w1 ⟨rfl, b1⟩
  have A1 := ((RateAt.new w n d dr).keep b1)
  have B1 := bup (bel1 w _) b1
  clear b1
  obtain ⟨_, a0, a1, a2⟩ := id A1
  go_wp2_with fail
  go_at_call 21
  refine (HC.out _).mono ?_
  rintro e w2 ⟨rfl, b2⟩
  have A2 := (A1.keep b2)
  have B2 := bup B1 b2
  clear A1 B1 a0 a1 a2
  clear b2
  obtain ⟨_, a0, a1, a2⟩ := id A2
  go_wp2_with fail
  go_ret
  exact ⟨rfl, B2⟩
set_option maxRecDepth 100000 in
set_option maxHeartbeats 2000000 in
theorem beyond_fn (n d x y q an ad : Int) (s : ByteArray) (hx : x + 1 = y) (hx0 : 0 ≤ x ∧ x ≤ 1000000000) (hn : 1 ≤ n ∧ n ≤ 240000) (hd : 1 ≤ d ∧ d ≤ 1001) (hq : (n + d - 1) / d = q) (hw : q ≤ 100) (w : World)
    (HK : ∀ w0, Below w.heap.size w w0 → Calls Tryd.prog 15 #[] w0 fun e w' => e = .returned (.bool true) ∧ Below w0.heap.size w0 w')
    (HC : ∀ w, Calls Tryd.prog 21 #[.agg #[.int .i64 n, .int .i64 d, .bool false]] w fun e w' => e = .returned (.int .i64 0) ∧ Below w.heap.size w w')
    (H1 : ∀ w, Calls Tryd.prog 26 #[.agg #[.int .i64 n, .int .i64 d, .bool false], .agg #[.int .i64 360000, .int .i64 1], .int .i64 1] w fun e w' => e = .returned (.tuple #[.int .i64 x, .int .i64 0]) ∧ Below w.heap.size w w')
    (H2 : ∀ w, Calls Tryd.prog 22 #[.agg #[.int .i64 n, .int .i64 d, .bool false], .int .i64 x] w fun e w' => e = .returned (.tuple #[.agg #[.int .i64 an, .int .i64 ad], .int .i64 0]) ∧ Below w.heap.size w w')
    (H3 : ∀ w, Calls Tryd.prog 22 #[.agg #[.int .i64 n, .int .i64 d, .bool false], .int .i64 y] w fun e w' => e = .returned (.tuple #[.agg #[.int .i64 0, .int .i64 0], .int .i64 31]) ∧ Below w.heap.size w w')
    (H4 : ∀ w0, Below w.heap.size w w0 → Calls Tryd.prog 23 #[.agg #[.int .i64 n, .int .i64 d, .bool false], .int .i64 x] w0 fun e w' => e = .returned (.tuple #[.string s, .int .i64 0]) ∧ Below w0.heap.size w0 w')
    (H5 : ∀ w, Calls Tryd.prog 23 #[.agg #[.int .i64 n, .int .i64 d, .bool false], .int .i64 y] w fun e w' => e = .returned (.tuple #[.string ⟨#[]⟩, .int .i64 31]) ∧ Below w.heap.size w w')
    (H6 : ∀ w, Calls Tryd.prog 22 #[.agg #[.int .i64 n, .int .i64 d, .bool false], .int .i64 (-1)] w fun e w' => e = .returned (.tuple #[.agg #[.int .i64 0, .int .i64 0], .int .i64 31]) ∧ Below w.heap.size w w')
    (H7 : ∀ w0, Below w.heap.size w w0 → Calls Tryd.prog 23 #[.agg #[.int .i64 n, .int .i64 d, .bool false], .int .i64 0] w0 fun e w' => e = .returned (.tuple #[.string ⟨#[48, 48, 58, 48, 48, 58, 48, 48, 58, 48, 48]⟩, .int .i64 0]) ∧ Below w0.heap.size w0 w') :
    Calls Tryd.prog 14 #[.agg #[.int .i64 n, .int .i64 d, .bool false]] w fun e w' => e = .returned (.bool true) ∧ Below w.heap.size w w' := by
  have HK := hideR HK
  have HC := hideR HC
  have H1 := hideR H1
  have H2 := hideR H2
  have H3 := hideR H3
  have H4 := hideR H4
  have H5 := hideR H5
  have H6 := hideR H6
  have H7 := hideR H7
  go_enter Tryd.func14, Tryd.ntmps14
  go_wp2_with fail
  go_at_call 15
  refine (HK.out _ (bel1 w _)).mono ?_
  rintro e w1 ⟨rfl, b1⟩
  have A1 := ((RateAt.new w n d false).keep b1)
  have B1 := bup (bel1 w _) b1
  clear b1
  obtain ⟨_, a0, a1, a2⟩ := id A1
  go_wp2_with fail
  go_at_call 21
  refine (HC.out _).mono ?_
  rintro e w2 ⟨rfl, b2⟩
  have A2 := (A1.keep b2)
  have B2 := bup B1 b2
  clear A1 B1 a0 a1 a2
  clear b2
  obtain ⟨_, a0, a1, a2⟩ := id A2
  go_wp2_with fail
  go_at_call 26
  refine (H1.out _).mono ?_
  rintro e w3 ⟨rfl, b3⟩
  have A3 := (A2.keep b3)
  have B3 := bup B2 b3
  clear A2 B2 a0 a1 a2
  clear b3
  obtain ⟨_, a0, a1, a2⟩ := id A3
  go_wp2_with fail
  go_at_call 22
  refine (H2.out _).mono ?_
  rintro e w4 ⟨rfl, b4⟩
  have A4 := (A3.keep b4).alloc (.cells #[.int .i64 an, .int .i64 ad] 28)
  have B4 := bup (bup B3 b4) (bel1 w4 (.cells #[.int .i64 an, .int .i64 ad] 28))
  clear A3 B3 a0 a1 a2
  clear b4
  have G4 := Two.new w4 (.int .i64 an) (.int .i64 ad) 28
  obtain ⟨_, a0, a1, a2⟩ := id A4
  obtain ⟨_, g0, g1, g2, g3⟩ := id G4
  go_wp2_with fail
  go_at_call 22
  refine (H3.out _).mono ?_
  rintro e w5 ⟨rfl, b5⟩
  have A5 := (A4.keep b5).alloc (.cells #[.int .i64 0, .int .i64 0] 28)
  have G5 := (G4.keep b5).alloc (.cells #[.int .i64 0, .int .i64 0] 28)
  have B5 := bup (bup B4 b5) (bel1 w5 (.cells #[.int .i64 0, .int .i64 0] 28))
  clear A4 G4 B4 a0 a1 a2 g0 g1 g2 g3
  clear b5
  have I5 := Two.new w5 (.int .i64 0) (.int .i64 0) 28
  obtain ⟨_, a0, a1, a2⟩ := id A5
  obtain ⟨_, g0, g1, g2, g3⟩ := id G5
  obtain ⟨_, i0, i1, i2, i3⟩ := id I5
  go_wp2_with fail
  go_at_call 23
  refine (H4.out _ B5).mono ?_
  rintro e w6 ⟨rfl, b6⟩
  have A6 := (A5.keep b6)
  have G6 := (G5.keep b6)
  have I6 := (I5.keep b6)
  have B6 := bup B5 b6
  clear A5 G5 I5 B5 a0 a1 a2 g0 g1 g2 g3 i0 i1 i2 i3
  clear b6
  obtain ⟨_, a0, a1, a2⟩ := id A6
  obtain ⟨_, g0, g1, g2, g3⟩ := id G6
  obtain ⟨_, i0, i1, i2, i3⟩ := id I6
  go_wp2_with fail
  go_at_call 23
  refine (H5.out _).mono ?_
  rintro e w7 ⟨rfl, b7⟩
  have A7 := (A6.keep b7)
  have G7 := (G6.keep b7)
  have I7 := (I6.keep b7)
  have B7 := bup B6 b7
  clear A6 G6 I6 B6 a0 a1 a2 g0 g1 g2 g3 i0 i1 i2 i3
  clear b7
  obtain ⟨_, a0, a1, a2⟩ := id A7
  obtain ⟨_, g0, g1, g2, g3⟩ := id G7
  obtain ⟨_, i0, i1, i2, i3⟩ := id I7
  go_wp2_with fail
  go_at_call 22
  refine (H6.out _).mono ?_
  rintro e w8 ⟨rfl, b8⟩
  have A8 := (A7.keep b8).alloc (.cells #[.int .i64 0, .int .i64 0] 28)
  have G8 := (G7.keep b8).alloc (.cells #[.int .i64 0, .int .i64 0] 28)
  have I8 := (I7.keep b8).alloc (.cells #[.int .i64 0, .int .i64 0] 28)
  have B8 := bup (bup B7 b8) (bel1 w8 (.cells #[.int .i64 0, .int .i64 0] 28))
  clear A7 G7 I7 B7 a0 a1 a2 g0 g1 g2 g3 i0 i1 i2 i3
  clear b8
  have J8 := Two.new w8 (.int .i64 0) (.int .i64 0) 28
  obtain ⟨_, a0, a1, a2⟩ := id A8
  obtain ⟨_, g0, g1, g2, g3⟩ := id G8
  obtain ⟨_, i0, i1, i2, i3⟩ := id I8
  obtain ⟨_, j0, j1, j2, j3⟩ := id J8
  go_wp2_with fail
  go_at_call 23
  refine (H7.out _ B8).mono ?_
  rintro e w9 ⟨rfl, b9⟩
  have A9 := (A8.keep b9)
  have G9 := (G8.keep b9)
  have I9 := (I8.keep b9)
  have J9 := (J8.keep b9)
  have B9 := bup B8 b9
  clear A8 G8 I8 J8 B8 a0 a1 a2 g0 g1 g2 g3 i0 i1 i2 i3 j0 j1 j2 j3
  clear b9
  obtain ⟨_, a0, a1, a2⟩ := id A9
  obtain ⟨_, g0, g1, g2, g3⟩ := id G9
  obtain ⟨_, i0, i1, i2, i3⟩ := id I9
  obtain ⟨_, j0, j1, j2, j3⟩ := id J9
  go_wp2_with fail
  go_ret
  exact ⟨by first | rfl | kernel_rfl, B9⟩
set_option maxRecDepth 100000 in
set_option maxHeartbeats 2000000 in
theorem beyond_fw (n d x y q an ad : Int) (s : ByteArray) (hx : x + 1 = y) (hx0 : 0 ≤ x ∧ x ≤ 1000000000) (hn : 1 ≤ n ∧ n ≤ 240000) (hd : 1 ≤ d ∧ d ≤ 1001) (hq : (n + d - 1) / d = q) (hw : 100 < q) (w : World)
    (HK : ∀ w0, Below w.heap.size w w0 → Calls Tryd.prog 15 #[] w0 fun e w' => e = .returned (.bool true) ∧ Below w0.heap.size w0 w')
    (HC : ∀ w, Calls Tryd.prog 21 #[.agg #[.int .i64 n, .int .i64 d, .bool false]] w fun e w' => e = .returned (.int .i64 0) ∧ Below w.heap.size w w')
    (H1 : ∀ w, Calls Tryd.prog 26 #[.agg #[.int .i64 n, .int .i64 d, .bool false], .agg #[.int .i64 360000, .int .i64 1], .int .i64 1] w fun e w' => e = .returned (.tuple #[.int .i64 x, .int .i64 0]) ∧ Below w.heap.size w w')
    (H2 : ∀ w, Calls Tryd.prog 22 #[.agg #[.int .i64 n, .int .i64 d, .bool false], .int .i64 x] w fun e w' => e = .returned (.tuple #[.agg #[.int .i64 an, .int .i64 ad], .int .i64 0]) ∧ Below w.heap.size w w')
    (H3 : ∀ w, Calls Tryd.prog 22 #[.agg #[.int .i64 n, .int .i64 d, .bool false], .int .i64 y] w fun e w' => e = .returned (.tuple #[.agg #[.int .i64 0, .int .i64 0], .int .i64 31]) ∧ Below w.heap.size w w')
    (H4 : ∀ w0, Below w.heap.size w w0 → Calls Tryd.prog 23 #[.agg #[.int .i64 n, .int .i64 d, .bool false], .int .i64 x] w0 fun e w' => e = .returned (.tuple #[.string s, .int .i64 0]) ∧ Below w0.heap.size w0 w')
    (H5 : ∀ w, Calls Tryd.prog 23 #[.agg #[.int .i64 n, .int .i64 d, .bool false], .int .i64 y] w fun e w' => e = .returned (.tuple #[.string ⟨#[]⟩, .int .i64 31]) ∧ Below w.heap.size w w')
    (H6 : ∀ w, Calls Tryd.prog 22 #[.agg #[.int .i64 n, .int .i64 d, .bool false], .int .i64 (-1)] w fun e w' => e = .returned (.tuple #[.agg #[.int .i64 0, .int .i64 0], .int .i64 31]) ∧ Below w.heap.size w w')
    (H7 : ∀ w0, Below w.heap.size w w0 → Calls Tryd.prog 23 #[.agg #[.int .i64 n, .int .i64 d, .bool false], .int .i64 0] w0 fun e w' => e = .returned (.tuple #[.string ⟨#[48, 48, 58, 48, 48, 58, 48, 48, 58, 48, 48, 48]⟩, .int .i64 0]) ∧ Below w0.heap.size w0 w') :
    Calls Tryd.prog 14 #[.agg #[.int .i64 n, .int .i64 d, .bool false]] w fun e w' => e = .returned (.bool true) ∧ Below w.heap.size w w' := by
  have HK := hideR HK
  have HC := hideR HC
  have H1 := hideR H1
  have H2 := hideR H2
  have H3 := hideR H3
  have H4 := hideR H4
  have H5 := hideR H5
  have H6 := hideR H6
  have H7 := hideR H7
  go_enter Tryd.func14, Tryd.ntmps14
  go_wp2_with fail
  go_at_call 15
  refine (HK.out _ (bel1 w _)).mono ?_
  rintro e w1 ⟨rfl, b1⟩
  have A1 := ((RateAt.new w n d false).keep b1)
  have B1 := bup (bel1 w _) b1
  clear b1
  obtain ⟨_, a0, a1, a2⟩ := id A1
  go_wp2_with fail
  go_at_call 21
  refine (HC.out _).mono ?_
  rintro e w2 ⟨rfl, b2⟩
  have A2 := (A1.keep b2)
  have B2 := bup B1 b2
  clear A1 B1 a0 a1 a2
  clear b2
  obtain ⟨_, a0, a1, a2⟩ := id A2
  go_wp2_with fail
  go_at_call 26
  refine (H1.out _).mono ?_
  rintro e w3 ⟨rfl, b3⟩
  have A3 := (A2.keep b3)
  have B3 := bup B2 b3
  clear A2 B2 a0 a1 a2
  clear b3
  obtain ⟨_, a0, a1, a2⟩ := id A3
  go_wp2_with fail
  go_at_call 22
  refine (H2.out _).mono ?_
  rintro e w4 ⟨rfl, b4⟩
  have A4 := (A3.keep b4).alloc (.cells #[.int .i64 an, .int .i64 ad] 28)
  have B4 := bup (bup B3 b4) (bel1 w4 (.cells #[.int .i64 an, .int .i64 ad] 28))
  clear A3 B3 a0 a1 a2
  clear b4
  have G4 := Two.new w4 (.int .i64 an) (.int .i64 ad) 28
  obtain ⟨_, a0, a1, a2⟩ := id A4
  obtain ⟨_, g0, g1, g2, g3⟩ := id G4
  go_wp2_with fail
  go_at_call 22
  refine (H3.out _).mono ?_
  rintro e w5 ⟨rfl, b5⟩
  have A5 := (A4.keep b5).alloc (.cells #[.int .i64 0, .int .i64 0] 28)
  have G5 := (G4.keep b5).alloc (.cells #[.int .i64 0, .int .i64 0] 28)
  have B5 := bup (bup B4 b5) (bel1 w5 (.cells #[.int .i64 0, .int .i64 0] 28))
  clear A4 G4 B4 a0 a1 a2 g0 g1 g2 g3
  clear b5
  have I5 := Two.new w5 (.int .i64 0) (.int .i64 0) 28
  obtain ⟨_, a0, a1, a2⟩ := id A5
  obtain ⟨_, g0, g1, g2, g3⟩ := id G5
  obtain ⟨_, i0, i1, i2, i3⟩ := id I5
  go_wp2_with fail
  go_at_call 23
  refine (H4.out _ B5).mono ?_
  rintro e w6 ⟨rfl, b6⟩
  have A6 := (A5.keep b6)
  have G6 := (G5.keep b6)
  have I6 := (I5.keep b6)
  have B6 := bup B5 b6
  clear A5 G5 I5 B5 a0 a1 a2 g0 g1 g2 g3 i0 i1 i2 i3
  clear b6
  obtain ⟨_, a0, a1, a2⟩ := id A6
  obtain ⟨_, g0, g1, g2, g3⟩ := id G6
  obtain ⟨_, i0, i1, i2, i3⟩ := id I6
  go_wp2_with fail
  go_at_call 23
  refine (H5.out _).mono ?_
  rintro e w7 ⟨rfl, b7⟩
  have A7 := (A6.keep b7)
  have G7 := (G6.keep b7)
  have I7 := (I6.keep b7)
  have B7 := bup B6 b7
  clear A6 G6 I6 B6 a0 a1 a2 g0 g1 g2 g3 i0 i1 i2 i3
  clear b7
  obtain ⟨_, a0, a1, a2⟩ := id A7
  obtain ⟨_, g0, g1, g2, g3⟩ := id G7
  obtain ⟨_, i0, i1, i2, i3⟩ := id I7
  go_wp2_with fail
  go_at_call 22
  refine (H6.out _).mono ?_
  rintro e w8 ⟨rfl, b8⟩
  have A8 := (A7.keep b8).alloc (.cells #[.int .i64 0, .int .i64 0] 28)
  have G8 := (G7.keep b8).alloc (.cells #[.int .i64 0, .int .i64 0] 28)
  have I8 := (I7.keep b8).alloc (.cells #[.int .i64 0, .int .i64 0] 28)
  have B8 := bup (bup B7 b8) (bel1 w8 (.cells #[.int .i64 0, .int .i64 0] 28))
  clear A7 G7 I7 B7 a0 a1 a2 g0 g1 g2 g3 i0 i1 i2 i3
  clear b8
  have J8 := Two.new w8 (.int .i64 0) (.int .i64 0) 28
  obtain ⟨_, a0, a1, a2⟩ := id A8
  obtain ⟨_, g0, g1, g2, g3⟩ := id G8
  obtain ⟨_, i0, i1, i2, i3⟩ := id I8
  obtain ⟨_, j0, j1, j2, j3⟩ := id J8
  go_wp2_with fail
  go_at_call 23
  refine (H7.out _ B8).mono ?_
  rintro e w9 ⟨rfl, b9⟩
  have A9 := (A8.keep b9)
  have G9 := (G8.keep b9)
  have I9 := (I8.keep b9)
  have J9 := (J8.keep b9)
  have B9 := bup B8 b9
  clear A8 G8 I8 J8 B8 a0 a1 a2 g0 g1 g2 g3 i0 i1 i2 i3 j0 j1 j2 j3
  clear b9
  obtain ⟨_, a0, a1, a2⟩ := id A9
  obtain ⟨_, g0, g1, g2, g3⟩ := id G9
  obtain ⟨_, i0, i1, i2, i3⟩ := id I9
  obtain ⟨_, j0, j1, j2, j3⟩ := id J9
  go_wp2_with fail
  go_ret
  exact ⟨by first | rfl | kernel_rfl, B9⟩
set_option maxRecDepth 100000 in
set_option maxHeartbeats 2000000 in
theorem beyond_tn (n d x y q an ad : Int) (s : ByteArray) (hx : x + 1 = y) (hx0 : 0 ≤ x ∧ x ≤ 1000000000) (hn : 1 ≤ n ∧ n ≤ 240000) (hd : 1 ≤ d ∧ d ≤ 1001) (hq : (n + d - 1) / d = q) (hw : q ≤ 100) (w : World)
    (HK : ∀ w0, Below w.heap.size w w0 → Calls Tryd.prog 15 #[] w0 fun e w' => e = .returned (.bool true) ∧ Below w0.heap.size w0 w')
    (HC : ∀ w, Calls Tryd.prog 21 #[.agg #[.int .i64 n, .int .i64 d, .bool true]] w fun e w' => e = .returned (.int .i64 0) ∧ Below w.heap.size w w')
    (H1 : ∀ w, Calls Tryd.prog 26 #[.agg #[.int .i64 n, .int .i64 d, .bool true], .agg #[.int .i64 360000, .int .i64 1], .int .i64 1] w fun e w' => e = .returned (.tuple #[.int .i64 x, .int .i64 0]) ∧ Below w.heap.size w w')
    (H2 : ∀ w, Calls Tryd.prog 22 #[.agg #[.int .i64 n, .int .i64 d, .bool true], .int .i64 x] w fun e w' => e = .returned (.tuple #[.agg #[.int .i64 an, .int .i64 ad], .int .i64 0]) ∧ Below w.heap.size w w')
    (H3 : ∀ w, Calls Tryd.prog 22 #[.agg #[.int .i64 n, .int .i64 d, .bool true], .int .i64 y] w fun e w' => e = .returned (.tuple #[.agg #[.int .i64 0, .int .i64 0], .int .i64 31]) ∧ Below w.heap.size w w')
    (H4 : ∀ w0, Below w.heap.size w w0 → Calls Tryd.prog 23 #[.agg #[.int .i64 n, .int .i64 d, .bool true], .int .i64 x] w0 fun e w' => e = .returned (.tuple #[.string s, .int .i64 0]) ∧ Below w0.heap.size w0 w')
    (H5 : ∀ w, Calls Tryd.prog 23 #[.agg #[.int .i64 n, .int .i64 d, .bool true], .int .i64 y] w fun e w' => e = .returned (.tuple #[.string ⟨#[]⟩, .int .i64 31]) ∧ Below w.heap.size w w')
    (H6 : ∀ w, Calls Tryd.prog 22 #[.agg #[.int .i64 n, .int .i64 d, .bool true], .int .i64 (-1)] w fun e w' => e = .returned (.tuple #[.agg #[.int .i64 0, .int .i64 0], .int .i64 31]) ∧ Below w.heap.size w w')
    (H7 : ∀ w0, Below w.heap.size w w0 → Calls Tryd.prog 23 #[.agg #[.int .i64 n, .int .i64 d, .bool true], .int .i64 0] w0 fun e w' => e = .returned (.tuple #[.string ⟨#[48, 48, 58, 48, 48, 58, 48, 48, 59, 48, 48]⟩, .int .i64 0]) ∧ Below w0.heap.size w0 w') :
    Calls Tryd.prog 14 #[.agg #[.int .i64 n, .int .i64 d, .bool true]] w fun e w' => e = .returned (.bool true) ∧ Below w.heap.size w w' := by
  have HK := hideR HK
  have HC := hideR HC
  have H1 := hideR H1
  have H2 := hideR H2
  have H3 := hideR H3
  have H4 := hideR H4
  have H5 := hideR H5
  have H6 := hideR H6
  have H7 := hideR H7
  go_enter Tryd.func14, Tryd.ntmps14
  go_wp2_with fail
  go_at_call 15
  refine (HK.out _ (bel1 w _)).mono ?_
  rintro e w1 ⟨rfl, b1⟩
  have A1 := ((RateAt.new w n d true).keep b1)
  have B1 := bup (bel1 w _) b1
  clear b1
  obtain ⟨_, a0, a1, a2⟩ := id A1
  go_wp2_with fail
  go_at_call 21
  refine (HC.out _).mono ?_
  rintro e w2 ⟨rfl, b2⟩
  have A2 := (A1.keep b2)
  have B2 := bup B1 b2
  clear A1 B1 a0 a1 a2
  clear b2
  obtain ⟨_, a0, a1, a2⟩ := id A2
  go_wp2_with fail
  go_at_call 26
  refine (H1.out _).mono ?_
  rintro e w3 ⟨rfl, b3⟩
  have A3 := (A2.keep b3)
  have B3 := bup B2 b3
  clear A2 B2 a0 a1 a2
  clear b3
  obtain ⟨_, a0, a1, a2⟩ := id A3
  go_wp2_with fail
  go_at_call 22
  refine (H2.out _).mono ?_
  rintro e w4 ⟨rfl, b4⟩
  have A4 := (A3.keep b4).alloc (.cells #[.int .i64 an, .int .i64 ad] 28)
  have B4 := bup (bup B3 b4) (bel1 w4 (.cells #[.int .i64 an, .int .i64 ad] 28))
  clear A3 B3 a0 a1 a2
  clear b4
  have G4 := Two.new w4 (.int .i64 an) (.int .i64 ad) 28
  obtain ⟨_, a0, a1, a2⟩ := id A4
  obtain ⟨_, g0, g1, g2, g3⟩ := id G4
  go_wp2_with fail
  go_at_call 22
  refine (H3.out _).mono ?_
  rintro e w5 ⟨rfl, b5⟩
  have A5 := (A4.keep b5).alloc (.cells #[.int .i64 0, .int .i64 0] 28)
  have G5 := (G4.keep b5).alloc (.cells #[.int .i64 0, .int .i64 0] 28)
  have B5 := bup (bup B4 b5) (bel1 w5 (.cells #[.int .i64 0, .int .i64 0] 28))
  clear A4 G4 B4 a0 a1 a2 g0 g1 g2 g3
  clear b5
  have I5 := Two.new w5 (.int .i64 0) (.int .i64 0) 28
  obtain ⟨_, a0, a1, a2⟩ := id A5
  obtain ⟨_, g0, g1, g2, g3⟩ := id G5
  obtain ⟨_, i0, i1, i2, i3⟩ := id I5
  go_wp2_with fail
  go_at_call 23
  refine (H4.out _ B5).mono ?_
  rintro e w6 ⟨rfl, b6⟩
  have A6 := (A5.keep b6)
  have G6 := (G5.keep b6)
  have I6 := (I5.keep b6)
  have B6 := bup B5 b6
  clear A5 G5 I5 B5 a0 a1 a2 g0 g1 g2 g3 i0 i1 i2 i3
  clear b6
  obtain ⟨_, a0, a1, a2⟩ := id A6
  obtain ⟨_, g0, g1, g2, g3⟩ := id G6
  obtain ⟨_, i0, i1, i2, i3⟩ := id I6
  go_wp2_with fail
  go_at_call 23
  refine (H5.out _).mono ?_
  rintro e w7 ⟨rfl, b7⟩
  have A7 := (A6.keep b7)
  have G7 := (G6.keep b7)
  have I7 := (I6.keep b7)
  have B7 := bup B6 b7
  clear A6 G6 I6 B6 a0 a1 a2 g0 g1 g2 g3 i0 i1 i2 i3
  clear b7
  obtain ⟨_, a0, a1, a2⟩ := id A7
  obtain ⟨_, g0, g1, g2, g3⟩ := id G7
  obtain ⟨_, i0, i1, i2, i3⟩ := id I7
  go_wp2_with fail
  go_at_call 22
  refine (H6.out _).mono ?_
  rintro e w8 ⟨rfl, b8⟩
  have A8 := (A7.keep b8).alloc (.cells #[.int .i64 0, .int .i64 0] 28)
  have G8 := (G7.keep b8).alloc (.cells #[.int .i64 0, .int .i64 0] 28)
  have I8 := (I7.keep b8).alloc (.cells #[.int .i64 0, .int .i64 0] 28)
  have B8 := bup (bup B7 b8) (bel1 w8 (.cells #[.int .i64 0, .int .i64 0] 28))
  clear A7 G7 I7 B7 a0 a1 a2 g0 g1 g2 g3 i0 i1 i2 i3
  clear b8
  have J8 := Two.new w8 (.int .i64 0) (.int .i64 0) 28
  obtain ⟨_, a0, a1, a2⟩ := id A8
  obtain ⟨_, g0, g1, g2, g3⟩ := id G8
  obtain ⟨_, i0, i1, i2, i3⟩ := id I8
  obtain ⟨_, j0, j1, j2, j3⟩ := id J8
  go_wp2_with fail
  go_at_call 23
  refine (H7.out _ B8).mono ?_
  rintro e w9 ⟨rfl, b9⟩
  have A9 := (A8.keep b9)
  have G9 := (G8.keep b9)
  have I9 := (I8.keep b9)
  have J9 := (J8.keep b9)
  have B9 := bup B8 b9
  clear A8 G8 I8 J8 B8 a0 a1 a2 g0 g1 g2 g3 i0 i1 i2 i3 j0 j1 j2 j3
  clear b9
  obtain ⟨_, a0, a1, a2⟩ := id A9
  obtain ⟨_, g0, g1, g2, g3⟩ := id G9
  obtain ⟨_, i0, i1, i2, i3⟩ := id I9
  obtain ⟨_, j0, j1, j2, j3⟩ := id J9
  go_wp2_with fail
  go_ret
  exact ⟨by first | rfl | kernel_rfl, B9⟩
set_option maxRecDepth 100000 in
set_option maxHeartbeats 2000000 in
theorem beyond_tw (n d x y q an ad : Int) (s : ByteArray) (hx : x + 1 = y) (hx0 : 0 ≤ x ∧ x ≤ 1000000000) (hn : 1 ≤ n ∧ n ≤ 240000) (hd : 1 ≤ d ∧ d ≤ 1001) (hq : (n + d - 1) / d = q) (hw : 100 < q) (w : World)
    (HK : ∀ w0, Below w.heap.size w w0 → Calls Tryd.prog 15 #[] w0 fun e w' => e = .returned (.bool true) ∧ Below w0.heap.size w0 w')
    (HC : ∀ w, Calls Tryd.prog 21 #[.agg #[.int .i64 n, .int .i64 d, .bool true]] w fun e w' => e = .returned (.int .i64 0) ∧ Below w.heap.size w w')
    (H1 : ∀ w, Calls Tryd.prog 26 #[.agg #[.int .i64 n, .int .i64 d, .bool true], .agg #[.int .i64 360000, .int .i64 1], .int .i64 1] w fun e w' => e = .returned (.tuple #[.int .i64 x, .int .i64 0]) ∧ Below w.heap.size w w')
    (H2 : ∀ w, Calls Tryd.prog 22 #[.agg #[.int .i64 n, .int .i64 d, .bool true], .int .i64 x] w fun e w' => e = .returned (.tuple #[.agg #[.int .i64 an, .int .i64 ad], .int .i64 0]) ∧ Below w.heap.size w w')
    (H3 : ∀ w, Calls Tryd.prog 22 #[.agg #[.int .i64 n, .int .i64 d, .bool true], .int .i64 y] w fun e w' => e = .returned (.tuple #[.agg #[.int .i64 0, .int .i64 0], .int .i64 31]) ∧ Below w.heap.size w w')
    (H4 : ∀ w0, Below w.heap.size w w0 → Calls Tryd.prog 23 #[.agg #[.int .i64 n, .int .i64 d, .bool true], .int .i64 x] w0 fun e w' => e = .returned (.tuple #[.string s, .int .i64 0]) ∧ Below w0.heap.size w0 w')
    (H5 : ∀ w, Calls Tryd.prog 23 #[.agg #[.int .i64 n, .int .i64 d, .bool true], .int .i64 y] w fun e w' => e = .returned (.tuple #[.string ⟨#[]⟩, .int .i64 31]) ∧ Below w.heap.size w w')
    (H6 : ∀ w, Calls Tryd.prog 22 #[.agg #[.int .i64 n, .int .i64 d, .bool true], .int .i64 (-1)] w fun e w' => e = .returned (.tuple #[.agg #[.int .i64 0, .int .i64 0], .int .i64 31]) ∧ Below w.heap.size w w')
    (H7 : ∀ w0, Below w.heap.size w w0 → Calls Tryd.prog 23 #[.agg #[.int .i64 n, .int .i64 d, .bool true], .int .i64 0] w0 fun e w' => e = .returned (.tuple #[.string ⟨#[48, 48, 58, 48, 48, 58, 48, 48, 59, 48, 48, 48]⟩, .int .i64 0]) ∧ Below w0.heap.size w0 w') :
    Calls Tryd.prog 14 #[.agg #[.int .i64 n, .int .i64 d, .bool true]] w fun e w' => e = .returned (.bool true) ∧ Below w.heap.size w w' := by
  have HK := hideR HK
  have HC := hideR HC
  have H1 := hideR H1
  have H2 := hideR H2
  have H3 := hideR H3
  have H4 := hideR H4
  have H5 := hideR H5
  have H6 := hideR H6
  have H7 := hideR H7
  go_enter Tryd.func14, Tryd.ntmps14
  go_wp2_with fail
  go_at_call 15
  refine (HK.out _ (bel1 w _)).mono ?_
  rintro e w1 ⟨rfl, b1⟩
  have A1 := ((RateAt.new w n d true).keep b1)
  have B1 := bup (bel1 w _) b1
  clear b1
  obtain ⟨_, a0, a1, a2⟩ := id A1
  go_wp2_with fail
  go_at_call 21
  refine (HC.out _).mono ?_
  rintro e w2 ⟨rfl, b2⟩
  have A2 := (A1.keep b2)
  have B2 := bup B1 b2
  clear A1 B1 a0 a1 a2
  clear b2
  obtain ⟨_, a0, a1, a2⟩ := id A2
  go_wp2_with fail
  go_at_call 26
  refine (H1.out _).mono ?_
  rintro e w3 ⟨rfl, b3⟩
  have A3 := (A2.keep b3)
  have B3 := bup B2 b3
  clear A2 B2 a0 a1 a2
  clear b3
  obtain ⟨_, a0, a1, a2⟩ := id A3
  go_wp2_with fail
  go_at_call 22
  refine (H2.out _).mono ?_
  rintro e w4 ⟨rfl, b4⟩
  have A4 := (A3.keep b4).alloc (.cells #[.int .i64 an, .int .i64 ad] 28)
  have B4 := bup (bup B3 b4) (bel1 w4 (.cells #[.int .i64 an, .int .i64 ad] 28))
  clear A3 B3 a0 a1 a2
  clear b4
  have G4 := Two.new w4 (.int .i64 an) (.int .i64 ad) 28
  obtain ⟨_, a0, a1, a2⟩ := id A4
  obtain ⟨_, g0, g1, g2, g3⟩ := id G4
  go_wp2_with fail
  go_at_call 22
  refine (H3.out _).mono ?_
  rintro e w5 ⟨rfl, b5⟩
  have A5 := (A4.keep b5).alloc (.cells #[.int .i64 0, .int .i64 0] 28)
  have G5 := (G4.keep b5).alloc (.cells #[.int .i64 0, .int .i64 0] 28)
  have B5 := bup (bup B4 b5) (bel1 w5 (.cells #[.int .i64 0, .int .i64 0] 28))
  clear A4 G4 B4 a0 a1 a2 g0 g1 g2 g3
  clear b5
  have I5 := Two.new w5 (.int .i64 0) (.int .i64 0) 28
  obtain ⟨_, a0, a1, a2⟩ := id A5
  obtain ⟨_, g0, g1, g2, g3⟩ := id G5
  obtain ⟨_, i0, i1, i2, i3⟩ := id I5
  go_wp2_with fail
  go_at_call 23
  refine (H4.out _ B5).mono ?_
  rintro e w6 ⟨rfl, b6⟩
  have A6 := (A5.keep b6)
  have G6 := (G5.keep b6)
  have I6 := (I5.keep b6)
  have B6 := bup B5 b6
  clear A5 G5 I5 B5 a0 a1 a2 g0 g1 g2 g3 i0 i1 i2 i3
  clear b6
  obtain ⟨_, a0, a1, a2⟩ := id A6
  obtain ⟨_, g0, g1, g2, g3⟩ := id G6
  obtain ⟨_, i0, i1, i2, i3⟩ := id I6
  go_wp2_with fail
  go_at_call 23
  refine (H5.out _).mono ?_
  rintro e w7 ⟨rfl, b7⟩
  have A7 := (A6.keep b7)
  have G7 := (G6.keep b7)
  have I7 := (I6.keep b7)
  have B7 := bup B6 b7
  clear A6 G6 I6 B6 a0 a1 a2 g0 g1 g2 g3 i0 i1 i2 i3
  clear b7
  obtain ⟨_, a0, a1, a2⟩ := id A7
  obtain ⟨_, g0, g1, g2, g3⟩ := id G7
  obtain ⟨_, i0, i1, i2, i3⟩ := id I7
  go_wp2_with fail
  go_at_call 22
  refine (H6.out _).mono ?_
  rintro e w8 ⟨rfl, b8⟩
  have A8 := (A7.keep b8).alloc (.cells #[.int .i64 0, .int .i64 0] 28)
  have G8 := (G7.keep b8).alloc (.cells #[.int .i64 0, .int .i64 0] 28)
  have I8 := (I7.keep b8).alloc (.cells #[.int .i64 0, .int .i64 0] 28)
  have B8 := bup (bup B7 b8) (bel1 w8 (.cells #[.int .i64 0, .int .i64 0] 28))
  clear A7 G7 I7 B7 a0 a1 a2 g0 g1 g2 g3 i0 i1 i2 i3
  clear b8
  have J8 := Two.new w8 (.int .i64 0) (.int .i64 0) 28
  obtain ⟨_, a0, a1, a2⟩ := id A8
  obtain ⟨_, g0, g1, g2, g3⟩ := id G8
  obtain ⟨_, i0, i1, i2, i3⟩ := id I8
  obtain ⟨_, j0, j1, j2, j3⟩ := id J8
  go_wp2_with fail
  go_at_call 23
  refine (H7.out _ B8).mono ?_
  rintro e w9 ⟨rfl, b9⟩
  have A9 := (A8.keep b9)
  have G9 := (G8.keep b9)
  have I9 := (I8.keep b9)
  have J9 := (J8.keep b9)
  have B9 := bup B8 b9
  clear A8 G8 I8 J8 B8 a0 a1 a2 g0 g1 g2 g3 i0 i1 i2 i3 j0 j1 j2 j3
  clear b9
  obtain ⟨_, a0, a1, a2⟩ := id A9
  obtain ⟨_, g0, g1, g2, g3⟩ := id G9
  obtain ⟨_, i0, i1, i2, i3⟩ := id I9
  obtain ⟨_, j0, j1, j2, j3⟩ := id J9
  go_wp2_with fail
  go_ret
  exact ⟨by first | rfl | kernel_rfl, B9⟩
theorem dial0 (m : UInt8) (per dg : Nat) : dialL 2 m per dg 0 = [48, 48, 58, 48, 48, 58, 48, 48, m] ++ padL 0 dg := by
  unfold dialL
  simp only [Nat.zero_div, Nat.zero_mod]
  rw [show padL 0 2 = [48, 48] by kernel_rfl]
  rfl
theorem num0 (f l : Int) (h : Full f l) : numI f l 0 = 0 := by
  unfold numI
  rw [Int.zero_ediv, Int.zero_emod, if_neg (by have := h.1; omega)]
  omega
theorem beyond_any (n d : Int) (dr : Bool) (hn : I64 n) (hd : I64 d) (w : World) (hp : PowAt w) :
    Calls Tryd.prog 14 #[.agg #[.int .i64 n, .int .i64 d, .bool dr]] w fun e w' => e = .returned (.bool true) ∧ Below w.heap.size w w' := by
  have HK := fun (w0 : World) (b0 : Below w.heap.size w w0) => known5_any w0 (hp.keep b0)
  have HC := rcheck_any n d dr
  by_cases h : checkI n d dr = 0
  · rw [h] at HC
    obtain ⟨n1, d1, nd, nd2, hF⟩ := full_ok n d dr h
    have H1 := frame5_any n d dr hn hd ⟨360000, 1⟩ ⟨⟨by simp, by simp⟩, ⟨by simp, by simp⟩⟩ 1
    unfold frameF at H1
    rw [if_pos h, if_pos (by kernel_rfl), if_pos (by decide)] at H1
    rw [show wholeI 1 ((⟨360000, 1⟩ : Rt).N * n) ((⟨360000, 1⟩ : Rt).D * d) = 360000 * n / d by show 360000 * n / (1 * d) = _; rw [Int.one_mul]] at H1
    obtain ⟨x, hx⟩ : ∃ x, 360000 * n / d = x := ⟨_, rfl⟩
    rw [hx] at H1
    have x0 : 0 ≤ x := by rw [← hx]; exact Int.ediv_nonneg (by omega) (by omega)
    have x1 : x ≤ 86400000 := by
      rw [← hx]
      have : 360000 * n / d < 86400001 := (Int.ediv_lt_iff_lt_mul (by omega)).2 (by omega)
      omega
    have le : x * d ≤ 360000 * n := by rw [← hx]; exact Int.ediv_mul_le _ (by omega)
    have lt : ¬ (0 ≤ x + 1 ∧ (x + 1) * d ≤ 360000 * n) := by
      rintro ⟨_, y⟩
      have := (Int.le_ediv_iff_mul_le (show 0 < d by omega)).2 y
      omega
    have ix : I64 x := ⟨by omega, by omega⟩
    have iy : I64 (x + 1) := ⟨by omega, by omega⟩
    have H2 := ctime_any n d dr hn hd x ix
    rw [time_form n d dr x h, if_pos ⟨x0, le⟩] at H2
    have H3 := ctime_any n d dr hn hd (x + 1) iy
    rw [time_form n d dr (x + 1) h, if_neg lt] at H3
    have H6 := ctime_any n d dr hn hd (-1) ⟨by omega, by omega⟩
    rw [time_form n d dr (-1) h, if_neg (by omega)] at H6
    have H4 := fun (w0 : World) (b0 : Below w.heap.size w w0) => label_ok n d dr hn hd x ix h ⟨x0, le⟩ w0 (hp.keep b0)
    have H5 := fun w => label_no n d dr hn hd (x + 1) iy h lt w
    have H7 := fun (w0 : World) (b0 : Below w.heap.size w w0) => label_ok n d dr hn hd 0 ⟨by omega, by omega⟩ h ⟨by omega, by omega⟩ w0 (hp.keep b0)
    unfold labelF at H7
    rw [num0 _ _ hF, show (0 : Int).toNat = 0 from rfl, dial0] at H7
    cases dr
    · by_cases hw : 100 < fullI n d
      · rw [if_pos hw, show padL 0 3 = [48, 48, 48] by kernel_rfl] at H7
        exact beyond_fw n d x _ _ _ _ _ rfl ⟨x0, by omega⟩ n1 d1 rfl hw w HK HC H1 H2 H3 H4 H5 H6 H7
      · rw [if_neg hw, show padL 0 2 = [48, 48] by kernel_rfl] at H7
        exact beyond_fn n d x _ _ _ _ _ rfl ⟨x0, by omega⟩ n1 d1 rfl (by unfold fullI at hw; omega) w HK HC H1 H2 H3 H4 H5 H6 H7
    · by_cases hw : 100 < fullI n d
      · rw [if_pos hw, show padL 0 3 = [48, 48, 48] by kernel_rfl] at H7
        exact beyond_tw n d x _ _ _ _ _ rfl ⟨x0, by omega⟩ n1 d1 rfl hw w HK HC H1 H2 H3 H4 H5 H6 H7
      · rw [if_neg hw, show padL 0 2 = [48, 48] by kernel_rfl] at H7
        exact beyond_tn n d x _ _ _ _ _ rfl ⟨x0, by omega⟩ n1 d1 rfl (by unfold fullI at hw; omega) w HK HC H1 H2 H3 H4 H5 H6 H7
  · rw [(check_two n d dr).resolve_left h] at HC
    exact beyond_bad n d 14 dr rfl w HK HC
end Go.Proofs.YtaipdckakgohjaaDoor
