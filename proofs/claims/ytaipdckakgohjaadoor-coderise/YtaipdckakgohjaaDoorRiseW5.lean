/- The walk of surtitlelaw5.CodeRise. -/
import Derived.Test.YtaipdckakgohjaaDoorG2
import Derived.Test.YtaipdckakgohjaaDoorCRefC
namespace Go.Proofs.YtaipdckakgohjaaDoor
open Go.RowKit Go.Shelf
attribute [local go_sem] Oper.semAt_some

set_option maxRecDepth 100000 in
set_option maxHeartbeats 1000000 in
theorem rise_bad (n d a b c : Int) (dr : Bool) (hc : (c != 0) = true) (w : World)
    (HK : ∀ w0, Below w.heap.size w w0 → Calls Tryd.prog 15 #[] w0 fun e w' => e = .returned (.bool true) ∧ Below w0.heap.size w0 w')
    (HC : ∀ w, Calls Tryd.prog 21 #[.agg #[.int .i64 n, .int .i64 d, .bool dr]] w fun e w' => e = .returned (.int .i64 c) ∧ Below w.heap.size w w') :
    Calls Tryd.prog 11 #[.agg #[.int .i64 n, .int .i64 d, .bool dr], .int .i64 a, .int .i64 b] w fun e w' => e = .returned (.bool true) ∧ Below w.heap.size w w' := by
  have HK := hideR HK
  have HC := hideR HC
  go_enter Tryd.func11, Tryd.ntmps11
  go_wp2_with fail
  go_at_call 15
  refine (HK.out _ (bel1 w _)).mono ?_
  rintro e w1 ⟨rfl, b1⟩
  have A1 := ((RateAt.new w n d dr).keep b1)
  have B1 := bup (bel1 w _) b1
  clear b1
  obtain ⟨_, a0, a1, a2⟩ := id A1
  go_wp2_with fail
  go_at_call 21
  refine (HC.out _).mono ?_
  rintro e w2 ⟨rfl, b2⟩
  have A2 := (A1.keep b2)
  have B2 := bup B1 b2
  clear A1 B1 a0 a1 a2
  clear b2
  obtain ⟨_, a0, a1, a2⟩ := id A2
  go_wp2_with fail
  go_ret
  exact ⟨rfl, B2⟩
set_option maxRecDepth 100000 in
set_option maxHeartbeats 1000000 in
theorem rise_e1 (n d a b le lf : Int) (dr : Bool) (sa sb : ByteArray) (hc : (le != 0) = true) (w : World)
    (HK : ∀ w0, Below w.heap.size w w0 → Calls Tryd.prog 15 #[] w0 fun e w' => e = .returned (.bool true) ∧ Below w0.heap.size w0 w')
    (HC : ∀ w, Calls Tryd.prog 21 #[.agg #[.int .i64 n, .int .i64 d, .bool dr]] w fun e w' => e = .returned (.int .i64 0) ∧ Below w.heap.size w w')
    (H1 : ∀ w0, Below w.heap.size w w0 → Calls Tryd.prog 23 #[.agg #[.int .i64 n, .int .i64 d, .bool dr], .int .i64 a] w0 fun e w' => e = .returned (.tuple #[.string sa, .int .i64 le]) ∧ Below w0.heap.size w0 w')
    (H2 : ∀ w0, Below w.heap.size w w0 → Calls Tryd.prog 23 #[.agg #[.int .i64 n, .int .i64 d, .bool dr], .int .i64 b] w0 fun e w' => e = .returned (.tuple #[.string sb, .int .i64 lf]) ∧ Below w0.heap.size w0 w') :
    Calls Tryd.prog 11 #[.agg #[.int .i64 n, .int .i64 d, .bool dr], .int .i64 a, .int .i64 b] w fun e w' => e = .returned (.bool true) ∧ Below w.heap.size w w' := by
  have HK := hideR HK
  have HC := hideR HC
  have H1 := hideR H1
  have H2 := hideR H2
  go_enter Tryd.func11, Tryd.ntmps11
  go_wp2_with fail
  go_at_call 15
  refine (HK.out _ (bel1 w _)).mono ?_
  rintro e w1 ⟨rfl, b1⟩
  have A1 := ((RateAt.new w n d dr).keep b1)
  have B1 := bup (bel1 w _) b1
  clear b1
  obtain ⟨_, a0, a1, a2⟩ := id A1
  go_wp2_with fail
  go_at_call 21
  refine (HC.out _).mono ?_
  rintro e w2 ⟨rfl, b2⟩
  have A2 := (A1.keep b2)
  have B2 := bup B1 b2
  clear A1 B1 a0 a1 a2
  clear b2
  obtain ⟨_, a0, a1, a2⟩ := id A2
  go_wp2_with fail
  go_at_call 23
  refine (H1.out _ B2).mono ?_
  rintro e w3 ⟨rfl, b3⟩
  have A3 := (A2.keep b3)
  have B3 := bup B2 b3
  clear A2 B2 a0 a1 a2
  clear b3
  obtain ⟨_, a0, a1, a2⟩ := id A3
  go_wp2_with fail
  go_at_call 23
  refine (H2.out _ B3).mono ?_
  rintro e w4 ⟨rfl, b4⟩
  have A4 := (A3.keep b4)
  have B4 := bup B3 b4
  clear A3 B3 a0 a1 a2
  clear b4
  obtain ⟨_, a0, a1, a2⟩ := id A4
  go_wp2_with fail
  go_ret
  exact ⟨by first | rfl | (simp; done) | (simp; omega), B4⟩
set_option maxRecDepth 100000 in
set_option maxHeartbeats 1000000 in
theorem rise_e2 (n d a b lf : Int) (dr : Bool) (sa sb : ByteArray) (hc : (lf != 0) = true) (w : World)
    (HK : ∀ w0, Below w.heap.size w w0 → Calls Tryd.prog 15 #[] w0 fun e w' => e = .returned (.bool true) ∧ Below w0.heap.size w0 w')
    (HC : ∀ w, Calls Tryd.prog 21 #[.agg #[.int .i64 n, .int .i64 d, .bool dr]] w fun e w' => e = .returned (.int .i64 0) ∧ Below w.heap.size w w')
    (H1 : ∀ w0, Below w.heap.size w w0 → Calls Tryd.prog 23 #[.agg #[.int .i64 n, .int .i64 d, .bool dr], .int .i64 a] w0 fun e w' => e = .returned (.tuple #[.string sa, .int .i64 0]) ∧ Below w0.heap.size w0 w')
    (H2 : ∀ w0, Below w.heap.size w w0 → Calls Tryd.prog 23 #[.agg #[.int .i64 n, .int .i64 d, .bool dr], .int .i64 b] w0 fun e w' => e = .returned (.tuple #[.string sb, .int .i64 lf]) ∧ Below w0.heap.size w0 w') :
    Calls Tryd.prog 11 #[.agg #[.int .i64 n, .int .i64 d, .bool dr], .int .i64 a, .int .i64 b] w fun e w' => e = .returned (.bool true) ∧ Below w.heap.size w w' := by
  have HK := hideR HK
  have HC := hideR HC
  have H1 := hideR H1
  have H2 := hideR H2
  go_enter Tryd.func11, Tryd.ntmps11
  go_wp2_with fail
  go_at_call 15
  refine (HK.out _ (bel1 w _)).mono ?_
  rintro e w1 ⟨rfl, b1⟩
  have A1 := ((RateAt.new w n d dr).keep b1)
  have B1 := bup (bel1 w _) b1
  clear b1
  obtain ⟨_, a0, a1, a2⟩ := id A1
  go_wp2_with fail
  go_at_call 21
  refine (HC.out _).mono ?_
  rintro e w2 ⟨rfl, b2⟩
  have A2 := (A1.keep b2)
  have B2 := bup B1 b2
  clear A1 B1 a0 a1 a2
  clear b2
  obtain ⟨_, a0, a1, a2⟩ := id A2
  go_wp2_with fail
  go_at_call 23
  refine (H1.out _ B2).mono ?_
  rintro e w3 ⟨rfl, b3⟩
  have A3 := (A2.keep b3)
  have B3 := bup B2 b3
  clear A2 B2 a0 a1 a2
  clear b3
  obtain ⟨_, a0, a1, a2⟩ := id A3
  go_wp2_with fail
  go_at_call 23
  refine (H2.out _ B3).mono ?_
  rintro e w4 ⟨rfl, b4⟩
  have A4 := (A3.keep b4)
  have B4 := bup B3 b4
  clear A3 B3 a0 a1 a2
  clear b4
  obtain ⟨_, a0, a1, a2⟩ := id A4
  go_wp2_with fail
  go_ret
  exact ⟨by first | rfl | (simp; done) | (simp; omega), B4⟩
set_option maxRecDepth 100000 in
set_option maxHeartbeats 1000000 in
theorem rise_eq (n d a : Int) (dr : Bool) (sa : ByteArray) (w : World)
    (HK : ∀ w0, Below w.heap.size w w0 → Calls Tryd.prog 15 #[] w0 fun e w' => e = .returned (.bool true) ∧ Below w0.heap.size w0 w')
    (HC : ∀ w, Calls Tryd.prog 21 #[.agg #[.int .i64 n, .int .i64 d, .bool dr]] w fun e w' => e = .returned (.int .i64 0) ∧ Below w.heap.size w w')
    (H1 : ∀ w0, Below w.heap.size w w0 → Calls Tryd.prog 23 #[.agg #[.int .i64 n, .int .i64 d, .bool dr], .int .i64 a] w0 fun e w' => e = .returned (.tuple #[.string sa, .int .i64 0]) ∧ Below w0.heap.size w0 w')
    (H2 : ∀ w0, Below w.heap.size w w0 → Calls Tryd.prog 23 #[.agg #[.int .i64 n, .int .i64 d, .bool dr], .int .i64 a] w0 fun e w' => e = .returned (.tuple #[.string sa, .int .i64 0]) ∧ Below w0.heap.size w0 w') :
    Calls Tryd.prog 11 #[.agg #[.int .i64 n, .int .i64 d, .bool dr], .int .i64 a, .int .i64 a] w fun e w' => e = .returned (.bool true) ∧ Below w.heap.size w w' := by
  have HK := hideR HK
  have HC := hideR HC
  have H1 := hideR H1
  have H2 := hideR H2
  go_enter Tryd.func11, Tryd.ntmps11
  go_wp2_with fail
  go_at_call 15
  refine (HK.out _ (bel1 w _)).mono ?_
  rintro e w1 ⟨rfl, b1⟩
  have A1 := ((RateAt.new w n d dr).keep b1)
  have B1 := bup (bel1 w _) b1
  clear b1
  obtain ⟨_, a0, a1, a2⟩ := id A1
  go_wp2_with fail
  go_at_call 21
  refine (HC.out _).mono ?_
  rintro e w2 ⟨rfl, b2⟩
  have A2 := (A1.keep b2)
  have B2 := bup B1 b2
  clear A1 B1 a0 a1 a2
  clear b2
  obtain ⟨_, a0, a1, a2⟩ := id A2
  go_wp2_with fail
  go_at_call 23
  refine (H1.out _ B2).mono ?_
  rintro e w3 ⟨rfl, b3⟩
  have A3 := (A2.keep b3)
  have B3 := bup B2 b3
  clear A2 B2 a0 a1 a2
  clear b3
  obtain ⟨_, a0, a1, a2⟩ := id A3
  go_wp2_with fail
  go_at_call 23
  refine (H2.out _ B3).mono ?_
  rintro e w4 ⟨rfl, b4⟩
  have A4 := (A3.keep b4)
  have B4 := bup B3 b4
  clear A3 B3 a0 a1 a2
  clear b4
  obtain ⟨_, a0, a1, a2⟩ := id A4
  go_wp2_with fail
  go_ret
  exact ⟨by first | rfl | (simp; done) | (simp; omega), B4⟩
set_option maxRecDepth 100000 in
set_option maxHeartbeats 1000000 in
theorem rise_len_lt (n d a b : Int) (dr : Bool) (sa sb : ByteArray) (ne : (a == b) = false) (h : a < b) (hs : sa.size < sb.size) (w : World)
    (HK : ∀ w0, Below w.heap.size w w0 → Calls Tryd.prog 15 #[] w0 fun e w' => e = .returned (.bool true) ∧ Below w0.heap.size w0 w')
    (HC : ∀ w, Calls Tryd.prog 21 #[.agg #[.int .i64 n, .int .i64 d, .bool dr]] w fun e w' => e = .returned (.int .i64 0) ∧ Below w.heap.size w w')
    (H1 : ∀ w0, Below w.heap.size w w0 → Calls Tryd.prog 23 #[.agg #[.int .i64 n, .int .i64 d, .bool dr], .int .i64 a] w0 fun e w' => e = .returned (.tuple #[.string sa, .int .i64 0]) ∧ Below w0.heap.size w0 w')
    (H2 : ∀ w0, Below w.heap.size w w0 → Calls Tryd.prog 23 #[.agg #[.int .i64 n, .int .i64 d, .bool dr], .int .i64 b] w0 fun e w' => e = .returned (.tuple #[.string sb, .int .i64 0]) ∧ Below w0.heap.size w0 w') :
    Calls Tryd.prog 11 #[.agg #[.int .i64 n, .int .i64 d, .bool dr], .int .i64 a, .int .i64 b] w fun e w' => e = .returned (.bool true) ∧ Below w.heap.size w w' := by
  have HK := hideR HK
  have HC := hideR HC
  have H1 := hideR H1
  have H2 := hideR H2
  have hi : (sa.size : Int) < (sb.size : Int) := by omega
  have hne : ((sa.size : Int) != (sb.size : Int)) = true := by rw [bne_iff_ne]; omega
  have hn2 : ¬ sa.size = sb.size := by omega
  go_enter Tryd.func11, Tryd.ntmps11
  go_wp2_with fail
  go_at_call 15
  refine (HK.out _ (bel1 w _)).mono ?_
  rintro e w1 ⟨rfl, b1⟩
  have A1 := ((RateAt.new w n d dr).keep b1)
  have B1 := bup (bel1 w _) b1
  clear b1
  obtain ⟨_, a0, a1, a2⟩ := id A1
  go_wp2_with fail
  go_at_call 21
  refine (HC.out _).mono ?_
  rintro e w2 ⟨rfl, b2⟩
  have A2 := (A1.keep b2)
  have B2 := bup B1 b2
  clear A1 B1 a0 a1 a2
  clear b2
  obtain ⟨_, a0, a1, a2⟩ := id A2
  go_wp2_with fail
  go_at_call 23
  refine (H1.out _ B2).mono ?_
  rintro e w3 ⟨rfl, b3⟩
  have A3 := (A2.keep b3)
  have B3 := bup B2 b3
  clear A2 B2 a0 a1 a2
  clear b3
  obtain ⟨_, a0, a1, a2⟩ := id A3
  go_wp2_with fail
  go_at_call 23
  refine (H2.out _ B3).mono ?_
  rintro e w4 ⟨rfl, b4⟩
  have A4 := (A3.keep b4)
  have B4 := bup B3 b4
  clear A3 B3 a0 a1 a2
  clear b4
  obtain ⟨_, a0, a1, a2⟩ := id A4
  go_wp2_with fail
  go_ret
  exact ⟨by first | rfl | (simp; done) | (simp; omega), B4⟩
set_option maxRecDepth 100000 in
set_option maxHeartbeats 1000000 in
theorem rise_tx_lt (n d a b : Int) (dr : Bool) (sa sb : ByteArray) (ne : (a == b) = false) (h : a < b) (hs : sa.size = sb.size) (w : World)
    (HK : ∀ w0, Below w.heap.size w w0 → Calls Tryd.prog 15 #[] w0 fun e w' => e = .returned (.bool true) ∧ Below w0.heap.size w0 w')
    (HC : ∀ w, Calls Tryd.prog 21 #[.agg #[.int .i64 n, .int .i64 d, .bool dr]] w fun e w' => e = .returned (.int .i64 0) ∧ Below w.heap.size w w')
    (H1 : ∀ w0, Below w.heap.size w w0 → Calls Tryd.prog 23 #[.agg #[.int .i64 n, .int .i64 d, .bool dr], .int .i64 a] w0 fun e w' => e = .returned (.tuple #[.string sa, .int .i64 0]) ∧ Below w0.heap.size w0 w')
    (H2 : ∀ w0, Below w.heap.size w w0 → Calls Tryd.prog 23 #[.agg #[.int .i64 n, .int .i64 d, .bool dr], .int .i64 b] w0 fun e w' => e = .returned (.tuple #[.string sb, .int .i64 0]) ∧ Below w0.heap.size w0 w')
    (z1 : Op.bytesLess sa.toList sb.toList = true)
    (z2 : ¬ sa.toList = sb.toList) :
    Calls Tryd.prog 11 #[.agg #[.int .i64 n, .int .i64 d, .bool dr], .int .i64 a, .int .i64 b] w fun e w' => e = .returned (.bool true) ∧ Below w.heap.size w w' := by
  have HK := hideR HK
  have HC := hideR HC
  have H1 := hideR H1
  have H2 := hideR H2
  have z3 : (sa.toList == sb.toList) = false := beq_eq_false_iff_ne.2 z2
  go_enter Tryd.func11, Tryd.ntmps11
  go_wp2_with fail
  go_at_call 15
  refine (HK.out _ (bel1 w _)).mono ?_
  rintro e w1 ⟨rfl, b1⟩
  have A1 := ((RateAt.new w n d dr).keep b1)
  have B1 := bup (bel1 w _) b1
  clear b1
  obtain ⟨_, a0, a1, a2⟩ := id A1
  go_wp2_with fail
  go_at_call 21
  refine (HC.out _).mono ?_
  rintro e w2 ⟨rfl, b2⟩
  have A2 := (A1.keep b2)
  have B2 := bup B1 b2
  clear A1 B1 a0 a1 a2
  clear b2
  obtain ⟨_, a0, a1, a2⟩ := id A2
  go_wp2_with fail
  go_at_call 23
  refine (H1.out _ B2).mono ?_
  rintro e w3 ⟨rfl, b3⟩
  have A3 := (A2.keep b3)
  have B3 := bup B2 b3
  clear A2 B2 a0 a1 a2
  clear b3
  obtain ⟨_, a0, a1, a2⟩ := id A3
  go_wp2_with fail
  go_at_call 23
  refine (H2.out _ B3).mono ?_
  rintro e w4 ⟨rfl, b4⟩
  have A4 := (A3.keep b4)
  have B4 := bup B3 b4
  clear A3 B3 a0 a1 a2
  clear b4
  obtain ⟨_, a0, a1, a2⟩ := id A4
  go_wp2_with fail
  go_ret
  exact ⟨by first | rfl | (simp; done) | (simp; omega), B4⟩
set_option maxRecDepth 100000 in
set_option maxHeartbeats 1000000 in
theorem rise_len_gt (n d a b : Int) (dr : Bool) (sa sb : ByteArray) (ne : (a == b) = false) (h : b < a) (hs : sb.size < sa.size) (w : World)
    (HK : ∀ w0, Below w.heap.size w w0 → Calls Tryd.prog 15 #[] w0 fun e w' => e = .returned (.bool true) ∧ Below w0.heap.size w0 w')
    (HC : ∀ w, Calls Tryd.prog 21 #[.agg #[.int .i64 n, .int .i64 d, .bool dr]] w fun e w' => e = .returned (.int .i64 0) ∧ Below w.heap.size w w')
    (H1 : ∀ w0, Below w.heap.size w w0 → Calls Tryd.prog 23 #[.agg #[.int .i64 n, .int .i64 d, .bool dr], .int .i64 a] w0 fun e w' => e = .returned (.tuple #[.string sa, .int .i64 0]) ∧ Below w0.heap.size w0 w')
    (H2 : ∀ w0, Below w.heap.size w w0 → Calls Tryd.prog 23 #[.agg #[.int .i64 n, .int .i64 d, .bool dr], .int .i64 b] w0 fun e w' => e = .returned (.tuple #[.string sb, .int .i64 0]) ∧ Below w0.heap.size w0 w') :
    Calls Tryd.prog 11 #[.agg #[.int .i64 n, .int .i64 d, .bool dr], .int .i64 a, .int .i64 b] w fun e w' => e = .returned (.bool true) ∧ Below w.heap.size w w' := by
  have HK := hideR HK
  have HC := hideR HC
  have H1 := hideR H1
  have H2 := hideR H2
  have hi : (sb.size : Int) < (sa.size : Int) := by omega
  have hne : ((sa.size : Int) != (sb.size : Int)) = true := by rw [bne_iff_ne]; omega
  have hn2 : ¬ sa.size = sb.size := by omega
  go_enter Tryd.func11, Tryd.ntmps11
  go_wp2_with fail
  go_at_call 15
  refine (HK.out _ (bel1 w _)).mono ?_
  rintro e w1 ⟨rfl, b1⟩
  have A1 := ((RateAt.new w n d dr).keep b1)
  have B1 := bup (bel1 w _) b1
  clear b1
  obtain ⟨_, a0, a1, a2⟩ := id A1
  go_wp2_with fail
  go_at_call 21
  refine (HC.out _).mono ?_
  rintro e w2 ⟨rfl, b2⟩
  have A2 := (A1.keep b2)
  have B2 := bup B1 b2
  clear A1 B1 a0 a1 a2
  clear b2
  obtain ⟨_, a0, a1, a2⟩ := id A2
  go_wp2_with fail
  go_at_call 23
  refine (H1.out _ B2).mono ?_
  rintro e w3 ⟨rfl, b3⟩
  have A3 := (A2.keep b3)
  have B3 := bup B2 b3
  clear A2 B2 a0 a1 a2
  clear b3
  obtain ⟨_, a0, a1, a2⟩ := id A3
  go_wp2_with fail
  go_at_call 23
  refine (H2.out _ B3).mono ?_
  rintro e w4 ⟨rfl, b4⟩
  have A4 := (A3.keep b4)
  have B4 := bup B3 b4
  clear A3 B3 a0 a1 a2
  clear b4
  obtain ⟨_, a0, a1, a2⟩ := id A4
  go_wp2_with fail
  go_ret
  exact ⟨by first | rfl | (simp; done) | (simp; omega), B4⟩
set_option maxRecDepth 100000 in
set_option maxHeartbeats 1000000 in
theorem rise_tx_gt (n d a b : Int) (dr : Bool) (sa sb : ByteArray) (ne : (a == b) = false) (h : b < a) (hs : sa.size = sb.size) (w : World)
    (HK : ∀ w0, Below w.heap.size w w0 → Calls Tryd.prog 15 #[] w0 fun e w' => e = .returned (.bool true) ∧ Below w0.heap.size w0 w')
    (HC : ∀ w, Calls Tryd.prog 21 #[.agg #[.int .i64 n, .int .i64 d, .bool dr]] w fun e w' => e = .returned (.int .i64 0) ∧ Below w.heap.size w w')
    (H1 : ∀ w0, Below w.heap.size w w0 → Calls Tryd.prog 23 #[.agg #[.int .i64 n, .int .i64 d, .bool dr], .int .i64 a] w0 fun e w' => e = .returned (.tuple #[.string sa, .int .i64 0]) ∧ Below w0.heap.size w0 w')
    (H2 : ∀ w0, Below w.heap.size w w0 → Calls Tryd.prog 23 #[.agg #[.int .i64 n, .int .i64 d, .bool dr], .int .i64 b] w0 fun e w' => e = .returned (.tuple #[.string sb, .int .i64 0]) ∧ Below w0.heap.size w0 w')
    (z1 : Op.bytesLess sa.toList sb.toList = false)
    (z2 : ¬ sa.toList = sb.toList) :
    Calls Tryd.prog 11 #[.agg #[.int .i64 n, .int .i64 d, .bool dr], .int .i64 a, .int .i64 b] w fun e w' => e = .returned (.bool true) ∧ Below w.heap.size w w' := by
  have HK := hideR HK
  have HC := hideR HC
  have H1 := hideR H1
  have H2 := hideR H2
  have z3 : (sa.toList == sb.toList) = false := beq_eq_false_iff_ne.2 z2
  go_enter Tryd.func11, Tryd.ntmps11
  go_wp2_with fail
  go_at_call 15
  refine (HK.out _ (bel1 w _)).mono ?_
  rintro e w1 ⟨rfl, b1⟩
  have A1 := ((RateAt.new w n d dr).keep b1)
  have B1 := bup (bel1 w _) b1
  clear b1
  obtain ⟨_, a0, a1, a2⟩ := id A1
  go_wp2_with fail
  go_at_call 21
  refine (HC.out _).mono ?_
  rintro e w2 ⟨rfl, b2⟩
  have A2 := (A1.keep b2)
  have B2 := bup B1 b2
  clear A1 B1 a0 a1 a2
  clear b2
  obtain ⟨_, a0, a1, a2⟩ := id A2
  go_wp2_with fail
  go_at_call 23
  refine (H1.out _ B2).mono ?_
  rintro e w3 ⟨rfl, b3⟩
  have A3 := (A2.keep b3)
  have B3 := bup B2 b3
  clear A2 B2 a0 a1 a2
  clear b3
  obtain ⟨_, a0, a1, a2⟩ := id A3
  go_wp2_with fail
  go_at_call 23
  refine (H2.out _ B3).mono ?_
  rintro e w4 ⟨rfl, b4⟩
  have A4 := (A3.keep b4)
  have B4 := bup B3 b4
  clear A3 B3 a0 a1 a2
  clear b4
  obtain ⟨_, a0, a1, a2⟩ := id A4
  go_wp2_with fail
  go_ret
  exact ⟨by first | rfl | (simp; done) | (simp; omega), B4⟩
theorem rise5_any (n d : Int) (dr : Bool) (hn : I64 n) (hd : I64 d) (a : Int) (ha : I64 a) (b : Int) (hb : I64 b) (w : World) (hp : PowAt w) :
    Calls Tryd.prog 11 #[.agg #[.int .i64 n, .int .i64 d, .bool dr], .int .i64 a, .int .i64 b] w fun e w' => e = .returned (.bool true) ∧ Below w.heap.size w w' := by
  have HK := fun (w0 : World) (b0 : Below w.heap.size w w0) => known5_any w0 (hp.keep b0)
  have HC := rcheck_any n d dr
  by_cases h : checkI n d dr = 0
  · rw [h] at HC
    obtain ⟨n1, d1, _, nd, hF⟩ := full_ok n d dr h
    have f1 := hF.1
    have f2 := hF.2.1
    have LN := fun (x : Int) (hx : I64 x) (c : ¬ (0 ≤ x ∧ x * d ≤ 360000 * n)) (w0 : World) (_ : Below w.heap.size w w0) => label_no n d dr hn hd x hx h c w0
    have LO := fun (x : Int) (hx : I64 x) (c : 0 ≤ x ∧ x * d ≤ 360000 * n) (w0 : World) (b0 : Below w.heap.size w w0) => label_ok n d dr hn hd x hx h c w0 (hp.keep b0)
    by_cases ca : 0 ≤ a ∧ a * d ≤ 360000 * n
    · by_cases cb : 0 ≤ b ∧ b * d ≤ 360000 * n
      · by_cases e : a = b
        · subst e
          exact rise_eq n d a dr _ w HK HC (LO a ha ca) (LO a ha ca)
        · have ne : (a == b) = false := by rw [beq_eq_false_iff_ne]; exact e
          have ka := num_hours _ _ a hF ca.1 (frame_few n d a dr h ca.2)
          have kb := num_hours _ _ b hF cb.1 (frame_few n d b dr h cb.2)
          have r1 := fun (x : a < b) => num_rise _ _ a b hF ca.1 x
          have r2 := fun (x : b < a) => num_rise _ _ b a hF cb.1 x
          have H1 := LO a ha ca
          have H2 := LO b hb cb
          unfold labelF at H1 H2
          have dl := dial_less (if dr = true then 59 else 58) (fullI n d).toNat (if 100 < fullI n d then 3 else 2) (numI (fullI n d) (if dr = true then leftI n d else 0) a).toNat (numI (fullI n d) (if dr = true then leftI n d else 0) b).toNat (by omega) (by split <;> omega) (by split <;> omega)
          have dg := dial_long (if dr = true then 59 else 58) (fullI n d).toNat (if 100 < fullI n d then 3 else 2) (numI (fullI n d) (if dr = true then leftI n d else 0) a).toNat (numI (fullI n d) (if dr = true then leftI n d else 0) b).toNat (by omega) (by split <;> omega) (by split <;> omega) ka.1 kb.1
          have ra := read_dial 2 (fullI n d).toNat (if 100 < fullI n d then 3 else 2) (numI (fullI n d) (if dr = true then leftI n d else 0) a).toNat (if dr = true then 59 else 58) false (by omega) (by omega) (by omega) (by split <;> omega) (by split <;> omega) ka.1
          have rb := read_dial 2 (fullI n d).toNat (if 100 < fullI n d then 3 else 2) (numI (fullI n d) (if dr = true then leftI n d else 0) b).toNat (if dr = true then 59 else 58) false (by omega) (by omega) (by omega) (by split <;> omega) (by split <;> omega) kb.1
          have ka2 := ka.2
          have kb2 := kb.2
          generalize numI (fullI n d) (if dr = true then leftI n d else 0) a = N1 at *
          generalize numI (fullI n d) (if dr = true then leftI n d else 0) b = N2 at *
          have key : N1.toNat < N2.toNat ↔ a < b := by
            constructor
            · intro x
              refine Int.lt_of_not_ge fun y => ?_
              have := r2 (by omega)
              omega
            · intro x
              have := r1 x
              omega
          have kne : N1.toNat ≠ N2.toNat := by
            rcases Int.lt_or_gt_of_ne e with x | x
            · have := r1 x; omega
            · have := r2 x; omega
          generalize dialL 2 (if dr = true then 59 else 58) (fullI n d).toNat (if 100 < fullI n d then 3 else 2) N1.toNat = la at *
          generalize dialL 2 (if dr = true then 59 else 58) (fullI n d).toNat (if 100 < fullI n d then 3 else 2) N2.toNat = lb at *
          have lne : la ≠ lb := fun x => by
            subst x
            rw [ra] at rb
            have := congrArg Prod.fst rb
            simp only at this
            omega
          have sa := bs_size la
          have sb := bs_size lb
          by_cases ll : la.length = lb.length
          · have z2 : ¬ (bs la).toList = (bs lb).toList := by
              rw [bs_toList, bs_toList]
              exact lne
            have kd : decide (N1.toNat < N2.toNat) = decide (a < b) := decide_eq_decide.2 key
            have z1 : Op.bytesLess (bs la).toList (bs lb).toList = decide (a < b) := by rw [bs_toList, bs_toList, dl ll, kd]
            rcases Int.lt_or_gt_of_ne e with x | x
            · rw [decide_eq_true x] at z1
              exact rise_tx_lt n d a b dr _ _ ne x (by omega) w HK HC H1 H2 z1 z2
            · rw [decide_eq_false (by omega)] at z1
              exact rise_tx_gt n d a b dr _ _ ne x (by omega) w HK HC H1 H2 z1 z2
          · have g := dg ll
            rcases Int.lt_or_gt_of_ne e with x | x
            · have : la.length < lb.length := by rw [g]; exact key.2 x
              exact rise_len_lt n d a b dr _ _ ne x (by omega) w HK HC H1 H2
            · have : ¬ la.length < lb.length := by
                rw [g]
                intro y
                have := key.1 y
                omega
              exact rise_len_gt n d a b dr _ _ ne x (by omega) w HK HC H1 H2
      · exact rise_e2 n d a b 31 dr _ _ rfl w HK HC (LO a ha ca) (LN b hb cb)
    · by_cases cb : 0 ≤ b ∧ b * d ≤ 360000 * n
      · exact rise_e1 n d a b 31 0 dr _ _ rfl w HK HC (LN a ha ca) (LO b hb cb)
      · exact rise_e1 n d a b 31 31 dr _ _ rfl w HK HC (LN a ha ca) (LN b hb cb)
  · rw [(check_two n d dr).resolve_left h] at HC
    exact rise_bad n d a b 14 dr rfl w HK HC
end Go.Proofs.YtaipdckakgohjaaDoor
