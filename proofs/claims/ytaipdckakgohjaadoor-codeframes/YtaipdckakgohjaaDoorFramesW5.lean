/- The walk of surtitlelaw5.CodeFrames. -/
import Derived.Test.YtaipdckakgohjaaDoorCRefC
namespace Go.Proofs.YtaipdckakgohjaaDoor
open Go.RowKit Go.Shelf
attribute [local go_sem] Oper.semAt_some

set_option maxRecDepth 100000 in
set_option maxHeartbeats 1000000 in
theorem frames_walk (n d N D how z ze : Int) (dr : Bool) (w : World)
    (HK : ∀ w0, Below w.heap.size w w0 → Calls Tryd.prog 15 #[] w0 fun e w' => e = .returned (.bool true) ∧ Below w0.heap.size w0 w')
    (H1 : ∀ w, Calls Tryd.prog 26 #[.agg #[.int .i64 n, .int .i64 d, .bool dr], .agg #[.int .i64 N, .int .i64 D], .int .i64 how] w fun e w' => e = .returned (.tuple #[.int .i64 z, .int .i64 ze]) ∧ Below w.heap.size w w')
    (H2 : ∀ w, Calls Tryd.prog 27 #[.agg #[.int .i64 n, .int .i64 d, .bool dr], .agg #[.int .i64 N, .int .i64 D], .int .i64 how] w fun e w' => e = .returned (.tuple #[.int .i64 z, .int .i64 ze]) ∧ Below w.heap.size w w') :
    Calls Tryd.prog 6 #[.agg #[.int .i64 n, .int .i64 d, .bool dr], .agg #[.int .i64 N, .int .i64 D], .int .i64 how] w fun e w' => e = .returned (.bool true) ∧ Below w.heap.size w w' := by
  have HK := hideR HK
  have H1 := hideR H1
  have H2 := hideR H2
  go_enter Tryd.func6, Tryd.ntmps6
  go_wp2_with fail
  go_at_call 15
  refine (HK.out _ (bel2 w _ _)).mono ?_
  rintro e w1 ⟨rfl, b1⟩
  have A1 := (((RateAt.new w n d dr).alloc (.cells #[.int .i64 N, .int .i64 D] 28)).keep b1)
  have X1 := (((Two.new (w.alloc (.cells #[.int .i64 n, .int .i64 d, .bool dr] 24)) (.int .i64 N) (.int .i64 D) 28).keep b1).at (R2 := w.heap.size + 1) (by simp))
  have B1 := bup (bel2 w _ _) b1
  clear b1
  obtain ⟨_, a0, a1, a2⟩ := id A1
  obtain ⟨_, x0, x1, x2, x3⟩ := id X1
  go_wp2_with fail
  go_at_call 26
  refine (H1.out _).mono ?_
  rintro e w2 ⟨rfl, b2⟩
  have A2 := (A1.keep b2)
  have X2 := (X1.keep b2)
  have B2 := bup B1 b2
  clear A1 X1 B1 a0 a1 a2 x0 x1 x2 x3
  clear b2
  obtain ⟨_, a0, a1, a2⟩ := id A2
  obtain ⟨_, x0, x1, x2, x3⟩ := id X2
  go_wp2_with fail
  go_at_call 27
  refine (H2.out _).mono ?_
  rintro e w3 ⟨rfl, b3⟩
  have A3 := (A2.keep b3)
  have X3 := (X2.keep b3)
  have B3 := bup B2 b3
  clear A2 X2 B2 a0 a1 a2 x0 x1 x2 x3
  clear b3
  obtain ⟨_, a0, a1, a2⟩ := id A3
  obtain ⟨_, x0, x1, x2, x3⟩ := id X3
  go_wp2_with fail
  go_ret
  exact ⟨by simp, B3⟩
theorem frames_any (n d : Int) (dr : Bool) (hn : I64 n) (hd : I64 d) (t : Rt) (ht : RtIn t) (how : Int) (_ : I64 how) (w : World) (hp : PowAt w) :
    Calls Tryd.prog 6 #[.agg #[.int .i64 n, .int .i64 d, .bool dr], rtv t, .int .i64 how] w fun e w' => e = .returned (.bool true) ∧ Below w.heap.size w w' :=
  frames_walk n d t.N t.D how _ _ dr w (fun w0 b0 => known5_any w0 (hp.keep b0)) (frame5_any n d dr hn hd t ht how) (rframe_any n d dr t how)
end Go.Proofs.YtaipdckakgohjaaDoor
