/- The walk of surtitlelaw3.RatioSnaps. -/
import Derived.Test.YtmofjkfghidlnaaDoorTold
import Derived.Test.YtmofjkfghidlnaaDoorRatW15
import Derived.Test.YtmofjkfghidlnaaDoorRefB4
import Derived.Test.YtmofjkfghidlnaaDoorRefC4
import Derived.Deep.RegionHeld3
namespace Go.Proofs.YtmofjkfghidlnaaDoor
open Go.RowKit
attribute [local go_sem] Oper.semAt_some

theorem t6 {V : World} {A B C : Nat} {a0 a1 b0 b1 c0 c1 : Value} (x : Two V A a0 a1) (y : Two V B b0 b1) (z : Two V C c0 c1) : V.cell? ⟨A, 0, none⟩ = some a0 ∧ V.cell? ⟨A, 1, none⟩ = some a1 ∧ V.cell? ⟨B, 0, none⟩ = some b0 ∧ V.cell? ⟨B, 1, none⟩ = some b1 ∧ V.cell? ⟨C, 0, none⟩ = some c0 ∧ V.cell? ⟨C, 1, none⟩ = some c1 :=
  ⟨x.2.1, x.2.2.1, y.2.1, y.2.2.1, z.2.1, z.2.2.1⟩
set_option maxRecDepth 100000 in
set_option maxHeartbeats 1000000 in
theorem snaps_walk (an ad bn bd how xn xd ec te : Int)
    (H1 : ∀ w, Calls Tryd.prog 43 #[.agg #[.int .i64 an, .int .i64 ad], .agg #[.int .i64 bn, .int .i64 bd], .int .i64 how] w fun e w' => e = .returned (.tuple #[.agg #[.int .i64 xn, .int .i64 xd], .int .i64 ec]) ∧ Below w.heap.size w w')
    (H2 : ∀ w, Calls Tryd.prog 44 #[.agg #[.int .i64 an, .int .i64 ad], .agg #[.int .i64 bn, .int .i64 bd], .int .i64 how] w fun e w' => e = .returned (.tuple #[.agg #[.int .i64 xn, .int .i64 xd], .int .i64 ec]) ∧ Below w.heap.size w w')
    (H3 : ∀ w, Calls Tryd.prog 45 #[.agg #[.int .i64 an, .int .i64 ad]] w fun e w' => e = .returned (.int .i64 te) ∧ Below w.heap.size w w')
    (H4 : ∀ w, Calls Tryd.prog 46 #[.agg #[.int .i64 an, .int .i64 ad]] w fun e w' => e = .returned (.int .i64 te) ∧ Below w.heap.size w w') (w : World) :
    Calls Tryd.prog 9 #[.agg #[.int .i64 an, .int .i64 ad], .agg #[.int .i64 bn, .int .i64 bd], .int .i64 how] w fun e w' => e = .returned (.bool true) ∧ Below w.heap.size w w' := by
  have HK := hideR known_any
  have H1 := hideR H1
  have H2 := hideR H2
  have H3 := hideR H3
  have H4 := hideR H4
  have HT := hideR (told_any xn xd ec)
  go_enter Tryd.func9, Tryd.ntmps9
  go_wp2_with fail
  go_at_call 17
  refine Calls.mono (HK.out _) ?_
  rintro e w1 ⟨rfl, b1⟩
  have P1 := ((Two.new w (.int .i64 an) (.int .i64 ad) 26).alloc (.cells #[.int .i64 bn, .int .i64 bd] 26)).keep b1
  have Q1 := (Two.new (w.alloc (.cells #[.int .i64 an, .int .i64 ad] 26)) (.int .i64 bn) (.int .i64 bd) 26).keep b1
  rw [show (w.alloc (.cells #[.int .i64 an, .int .i64 ad] 26)).heap.size = w.heap.size + 1 by simp] at Q1
  have B1 := bup (bel2 w _ _) b1
  clear b1
  obtain ⟨_, p0, p1, _, _⟩ := id P1
  obtain ⟨_, q0, q1, _, _⟩ := id Q1
  go_wp2_with fail
  go_at_call 43
  refine Calls.mono (H1.out _) ?_
  rintro e w2 ⟨rfl, b2⟩
  have P2 := (P1.keep b2).alloc (.cells #[.int .i64 xn, .int .i64 xd] 26)
  have Q2 := (Q1.keep b2).alloc (.cells #[.int .i64 xn, .int .i64 xd] 26)
  have X2 := Two.new w2 (.int .i64 xn) (.int .i64 xd) 26
  have B2 := bup (bup B1 b2) (bel1 w2 (.cells #[.int .i64 xn, .int .i64 xd] 26))
  clear P1 Q1 B1 b2 p0 p1 q0 q1
  obtain ⟨_, p0, p1, _, _⟩ := id P2
  obtain ⟨_, q0, q1, _, _⟩ := id Q2
  go_wp2_with fail
  go_at_call 44
  refine Calls.mono (H2.out _) ?_
  rintro e w3 ⟨rfl, b3⟩
  have P3 := (P2.keep b3).alloc (.cells #[.int .i64 xn, .int .i64 xd] 26)
  have X3 := (X2.keep b3).alloc (.cells #[.int .i64 xn, .int .i64 xd] 26)
  have Y3 := Two.new w3 (.int .i64 xn) (.int .i64 xd) 26
  have B3 := bup (bup B2 b3) (bel1 w3 (.cells #[.int .i64 xn, .int .i64 xd] 26))
  clear P2 Q2 X2 B2 b3 p0 p1 q0 q1
  obtain ⟨_, p0, p1, _, _⟩ := id P3
  obtain ⟨_, x0, x1, _, _⟩ := id X3
  obtain ⟨_, y0, y1, _, _⟩ := id Y3
  have SC := t6 P3 X3 Y3
  go_wp2_with fail
  go_region_held3 (fun w' => w'.cell? ⟨w.heap.size, 0, none⟩ = some (.int .i64 an) ∧ w'.cell? ⟨w.heap.size, 1, none⟩ = some (.int .i64 ad) ∧ w'.cell? ⟨w2.heap.size, 0, none⟩ = some (.int .i64 xn) ∧ w'.cell? ⟨w2.heap.size, 1, none⟩ = some (.int .i64 xd) ∧ w'.cell? ⟨w3.heap.size, 0, none⟩ = some (.int .i64 xn) ∧ w'.cell? ⟨w3.heap.size, 1, none⟩ = some (.int .i64 xd)) (first | assumption | go_keep)
    (first | (go_at_call 25; refine (HT.out _).mono ?_; rintro e w4 ⟨rfl, b4⟩; have P4 := P3.drew.keep b4; have X4 := X3.drew.keep b4; have Y4 := Y3.drew.keep b4; have S4 := t6 P4 X4 Y4) | (go_at_call 45; refine (H3.out _).mono ?_; rintro e w5 ⟨rfl, b5⟩; have P5 := P4.keep b5; have X5 := X4.keep b5; have Y5 := Y4.keep b5; have S5 := t6 P5 X5 Y5) | (go_at_call 46; refine (H4.out _).mono ?_; rintro e w6 ⟨rfl, b6⟩; have S6 := t6 (P5.keep b6) (X5.keep b6) (Y5.keep b6)))
  all_goals (try go_wp2_with fail)
  all_goals (go_ret; exact ⟨by simp, bup (bup (bup B3.drew b4) b5) b6⟩)
theorem snaps_any (a : Rt) (ha : RtIn a) (g : Rt) (hg : RtIn g) (how : Int) (_ : I64 how) (w : World) :
    Calls Tryd.prog 9 #[rtv a, rtv g, .int .i64 how] w fun e w' => e = .returned (.bool true) ∧ Below w.heap.size w w' :=
  snaps_walk a.N a.D g.N g.D how _ _ _ _ (snap_any a ha g hg how) (rsnap_any a ha g hg how) (time_any a ha) (rtime_any a ha) w
end Go.Proofs.YtmofjkfghidlnaaDoor
