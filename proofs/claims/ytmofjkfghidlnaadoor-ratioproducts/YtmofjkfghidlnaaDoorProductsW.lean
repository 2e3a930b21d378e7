/- The walk of surtitlelaw3.RatioProducts. -/
import Derived.Test.YtmofjkfghidlnaaDoorTold
import Derived.Test.YtmofjkfghidlnaaDoorRefA8
import Derived.Test.YtmofjkfghidlnaaDoorRefA9
import Derived.Test.YtmofjkfghidlnaaDoorRatW11
namespace Go.Proofs.YtmofjkfghidlnaaDoor
open Go.RowKit
attribute [local go_sem] Oper.semAt_some

set_option maxRecDepth 100000 in
set_option maxHeartbeats 1000000 in
theorem products_walk (an ad bn bd x0 y0 e0 x1 y1 e1 : Int)
    (A0 : ∀ w, Calls Tryd.prog 30 #[.agg #[.int .i64 an, .int .i64 ad], .agg #[.int .i64 bn, .int .i64 bd]] w fun e w' => e = .returned (.tuple #[.agg #[.int .i64 x0, .int .i64 y0], .int .i64 e0]) ∧ Below w.heap.size w w')
    (R0 : ∀ w, Calls Tryd.prog 31 #[.agg #[.int .i64 an, .int .i64 ad], .agg #[.int .i64 bn, .int .i64 bd]] w fun e w' => e = .returned (.tuple #[.agg #[.int .i64 x0, .int .i64 y0], .int .i64 e0]) ∧ Below w.heap.size w w')
    (A1 : ∀ w, Calls Tryd.prog 32 #[.agg #[.int .i64 an, .int .i64 ad], .agg #[.int .i64 bn, .int .i64 bd]] w fun e w' => e = .returned (.tuple #[.agg #[.int .i64 x1, .int .i64 y1], .int .i64 e1]) ∧ Below w.heap.size w w')
    (R1 : ∀ w, Calls Tryd.prog 33 #[.agg #[.int .i64 an, .int .i64 ad], .agg #[.int .i64 bn, .int .i64 bd]] w fun e w' => e = .returned (.tuple #[.agg #[.int .i64 x1, .int .i64 y1], .int .i64 e1]) ∧ Below w.heap.size w w') (w : World) :
    Calls Tryd.prog 6 #[.agg #[.int .i64 an, .int .i64 ad], .agg #[.int .i64 bn, .int .i64 bd]] w fun e w' => e = .returned (.bool true) ∧ Below w.heap.size w w' := by
  have HK := hideR known_any
  have A0 := hideR A0
  have R0 := hideR R0
  have T0 := hideR (told_any x0 y0 e0)
  have A1 := hideR A1
  have R1 := hideR R1
  have T1 := hideR (told_any x1 y1 e1)
  go_enter Tryd.func6, Tryd.ntmps6
  go_wp2_with fail
  go_at_call 17
  refine Calls.mono (HK.out _) ?_
  rintro e w1 ⟨rfl, b1⟩
  have P1 := ((Two.new w (.int .i64 an) (.int .i64 ad) 26).alloc (.cells #[.int .i64 bn, .int .i64 bd] 26)).keep b1
  have Q1 := (Two.new (w.alloc (.cells #[.int .i64 an, .int .i64 ad] 26)) (.int .i64 bn) (.int .i64 bd) 26).keep b1
  rw [show (w.alloc (.cells #[.int .i64 an, .int .i64 ad] 26)).heap.size = w.heap.size + 1 by simp] at Q1
  have B1 := bup (bel2 w _ _) b1
  clear b1
  obtain ⟨_, p0, p1, _, _⟩ := id P1
  obtain ⟨_, q0, q1, _, _⟩ := id Q1
  go_wp2_with fail
  go_at_call 30
  refine Calls.mono (A0.out _) ?_
  rintro e w2 ⟨rfl, b2⟩
  have z2 : w.heap.size + 1 < w2.heap.size := (Q1.keep b2).1
  have P2 := (P1.keep b2).alloc (.cells #[.int .i64 x0, .int .i64 y0] 26)
  have Q2 := (Q1.keep b2).alloc (.cells #[.int .i64 x0, .int .i64 y0] 26)
  have X2 := Two.new w2 (.int .i64 x0) (.int .i64 y0) 26
  have B2 := bup (bup B1 b2) (bel1 w2 (.cells #[.int .i64 x0, .int .i64 y0] 26))
  clear P1 Q1 B1 b2 p0 p1 q0 q1
  obtain ⟨_, p0, p1, _, _⟩ := id P2
  obtain ⟨_, q0, q1, _, _⟩ := id Q2
  obtain ⟨_, u0, u1, u2, u3⟩ := id X2
  go_wp2_with fail
  go_at_call 31
  refine Calls.mono (R0.out _) ?_
  rintro e w3 ⟨rfl, b3⟩
  have z3 : w2.heap.size < w3.heap.size := (X2.keep b3).1
  have P3 := (P2.keep b3).alloc (.cells #[.int .i64 x0, .int .i64 y0] 26)
  have Q3 := (Q2.keep b3).alloc (.cells #[.int .i64 x0, .int .i64 y0] 26)
  have X3 := (X2.keep b3).alloc (.cells #[.int .i64 x0, .int .i64 y0] 26)
  have Y3 := Two.new w3 (.int .i64 x0) (.int .i64 y0) 26
  have B3 := bup (bup B2 b3) (bel1 w3 (.cells #[.int .i64 x0, .int .i64 y0] 26))
  clear P2 Q2 X2 B2 b3 p0 p1 q0 q1 u0 u1 u2 u3
  obtain ⟨_, p0, p1, _, _⟩ := id P3
  obtain ⟨_, q0, q1, _, _⟩ := id Q3
  obtain ⟨_, u0, u1, u2, u3⟩ := id X3
  obtain ⟨_, v0, v1, v2, v3⟩ := id Y3
  go_wp2_with fail
  go_at_call 25
  refine Calls.mono (T0.out _) ?_
  rintro e w4 ⟨rfl, b4⟩
  have P4 := P3.keep b4
  have Q4 := Q3.keep b4
  have X4 := X3.keep b4
  have Y4 := Y3.keep b4
  have B4 := bup B3 b4
  clear P3 Q3 X3 Y3 B3 b4 p0 p1 q0 q1 u0 u1 u2 u3 v0 v1 v2 v3
  obtain ⟨_, p0, p1, _, _⟩ := id P4
  obtain ⟨_, q0, q1, _, _⟩ := id Q4
  obtain ⟨_, u0, u1, u2, u3⟩ := id X4
  obtain ⟨_, v0, v1, v2, v3⟩ := id Y4
  go_wp2_with fail
  go_at_call 32
  refine Calls.mono (A1.out _) ?_
  rintro e w5 ⟨rfl, b5⟩
  have P5 := (P4.keep b5).other (S := w2.heap.size) (x2 := .int .i64 x1) (y2 := .int .i64 y1) (by omega)
  have Q5 := (Q4.keep b5).other (S := w2.heap.size) (x2 := .int .i64 x1) (y2 := .int .i64 y1) (by omega)
  have X5 := (X4.keep b5).set (x2 := .int .i64 x1) (y2 := .int .i64 y1)
  have Y5 := (Y4.keep b5).other (S := w2.heap.size) (x2 := .int .i64 x1) (y2 := .int .i64 y1) (by omega)
  have B5 := ((bup B4 b5).setCell (p := ⟨w2.heap.size, 0, none⟩) (by simp; omega) (.int .i64 x1)).setCell (p := ⟨w2.heap.size, 1, none⟩) (by simp; omega) (.int .i64 y1)
  obtain ⟨_, m0, m1, m2, m3⟩ := id (X4.keep b5)
  clear P4 Q4 X4 Y4 B4 b5 p0 p1 q0 q1 u0 u1 u2 u3 v0 v1 v2 v3
  obtain ⟨_, p0, p1, _, _⟩ := id P5
  obtain ⟨_, q0, q1, _, _⟩ := id Q5
  obtain ⟨_, u0, u1, u2, u3⟩ := id X5
  obtain ⟨_, v0, v1, v2, v3⟩ := id Y5
  go_wp2_with fail
  go_at_call 33
  refine Calls.mono (R1.out _) ?_
  rintro e w6 ⟨rfl, b6⟩
  have P6 := (P5.keep b6).other (S := w3.heap.size) (x2 := .int .i64 x1) (y2 := .int .i64 y1) (by omega)
  have Q6 := (Q5.keep b6).other (S := w3.heap.size) (x2 := .int .i64 x1) (y2 := .int .i64 y1) (by omega)
  have Y6 := (Y5.keep b6).set (x2 := .int .i64 x1) (y2 := .int .i64 y1)
  have X6 := (X5.keep b6).other (S := w3.heap.size) (x2 := .int .i64 x1) (y2 := .int .i64 y1) (by omega)
  have B6 := ((bup B5 b6).setCell (p := ⟨w3.heap.size, 0, none⟩) (by simp; omega) (.int .i64 x1)).setCell (p := ⟨w3.heap.size, 1, none⟩) (by simp; omega) (.int .i64 y1)
  obtain ⟨_, m0, m1, m2, m3⟩ := id (Y5.keep b6)
  clear P5 Q5 X5 Y5 B5 b6 p0 p1 q0 q1 u0 u1 u2 u3 v0 v1 v2 v3
  obtain ⟨_, p0, p1, _, _⟩ := id P6
  obtain ⟨_, q0, q1, _, _⟩ := id Q6
  obtain ⟨_, u0, u1, u2, u3⟩ := id X6
  obtain ⟨_, v0, v1, v2, v3⟩ := id Y6
  go_wp2_with fail
  go_at_call 25
  refine Calls.mono (T1.out _) ?_
  rintro e w7 ⟨rfl, b7⟩
  go_wp2_with fail
  go_ret
  exact ⟨rfl, bup B6 b7⟩
theorem products_any (a : Rt) (ha : RtIn a) (b : Rt) (hb : RtIn b) (w : World) :
    Calls Tryd.prog 6 #[rtv a, rtv b] w fun e w' => e = .returned (.bool true) ∧ Below w.heap.size w w' :=
  products_walk a.N a.D b.N b.D _ _ _ _ _ _ (mul_any a b ha hb) (rmul_any a b ha hb) (quo_any a b ha hb) (rdiv_any a b ha hb) w
end Go.Proofs.YtmofjkfghidlnaaDoor
