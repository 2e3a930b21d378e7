/- The walk of surtitlelaw3.RatioWholes. -/
import Derived.Test.YtmofjkfghidlnaaDoorRatFine
import Derived.Test.YtmofjkfghidlnaaDoorRatW13
import Derived.Test.YtmofjkfghidlnaaDoorRefB6
namespace Go.Proofs.YtmofjkfghidlnaaDoor
open Go.RowKit
attribute [local go_sem] Oper.semAt_some

set_option maxRecDepth 100000 in
set_option maxHeartbeats 1000000 in
theorem wholes_walk (an ad t how x ec : Int)
    (H1 : ∀ w, Calls Tryd.prog 41 #[.agg #[.int .i64 an, .int .i64 ad], .int .i64 t, .int .i64 how] w fun e w' => e = .returned (.tuple #[.int .i64 x, .int .i64 ec]) ∧ Below w.heap.size w w')
    (H2 : ∀ w, Calls Tryd.prog 42 #[.agg #[.int .i64 an, .int .i64 ad], .int .i64 t, .int .i64 how] w fun e w' => e = .returned (.tuple #[.int .i64 x, .int .i64 ec]) ∧ Below w.heap.size w w') (w : World) :
    Calls Tryd.prog 8 #[.agg #[.int .i64 an, .int .i64 ad], .int .i64 t, .int .i64 how] w fun e w' => e = .returned (.bool true) ∧ Below w.heap.size w w' := by
  have HK := hideR known_any
  have H1 := hideR H1
  have H2 := hideR H2
  go_enter Tryd.func8, Tryd.ntmps8
  go_wp2_with fail
  go_at_call 17
  refine Calls.mono (HK.out _) ?_
  rintro e w1 ⟨rfl, b1⟩
  have T1 := (Two.new w (.int .i64 an) (.int .i64 ad) 26).keep b1
  have B1 := bup (bel1 w _) b1
  clear b1
  obtain ⟨_, t0, t1, _, _⟩ := id T1
  go_wp2_with fail
  go_at_call 41
  refine Calls.mono (H1.out _) ?_
  rintro e w2 ⟨rfl, b2⟩
  have T2 := T1.keep b2
  have B2 := bup B1 b2
  clear b2 T1 B1 t0 t1
  obtain ⟨_, t0, t1, _, _⟩ := id T2
  go_wp2_with fail
  go_at_call 42
  refine Calls.mono (H2.out _) ?_
  rintro e w3 ⟨rfl, b3⟩
  go_wp2_with fail
  go_ret
  exact ⟨by simp, bup B2 b3⟩
theorem wholes_any (a : Rt) (ha : RtIn a) (t : Int) (ht : I64 t) (how : Int) (_ : I64 how) (w : World) :
    Calls Tryd.prog 8 #[rtv a, .int .i64 t, .int .i64 how] w fun e w' => e = .returned (.bool true) ∧ Below w.heap.size w w' :=
  wholes_walk a.N a.D t how _ _ (whole_any a ha t ht how) (rWhole_any a ha t ht how) w
end Go.Proofs.YtmofjkfghidlnaaDoor
