/- The walk of surtitlelaw3.RatioNews. -/
import Derived.Test.YtmofjkfghidlnaaDoorRatFine
import Derived.Test.YtmofjkfghidlnaaDoorRefA8
import Derived.Deep.RegionHeld3
namespace Go.Proofs.YtmofjkfghidlnaaDoor
open Go.RowKit
attribute [local go_sem] Oper.semAt_some

theorem s6 {V : World} {A B C : Nat} {a0 a1 b0 b1 c0 c1 : Value} (x : Two V A a0 a1) (y : Two V B b0 b1) (z : Two V C c0 c1) : V.cell? ⟨A, 0, none⟩ = some a0 ∧ V.cell? ⟨A, 1, none⟩ = some a1 ∧ V.cell? ⟨B, 0, none⟩ = some b0 ∧ V.cell? ⟨B, 1, none⟩ = some b1 ∧ V.cell? ⟨C, 0, none⟩ = some c0 ∧ V.cell? ⟨C, 1, none⟩ = some c1 :=
  ⟨x.2.1, x.2.2.1, y.2.1, y.2.2.1, z.2.1, z.2.2.1⟩
set_option maxRecDepth 100000 in
set_option maxHeartbeats 1000000 in
theorem news_walk (n d xn xd ec : Int) (ok : Bool)
    (H1 : ∀ w, Calls Tryd.prog 19 #[.int .i64 n, .int .i64 d] w fun e w' => e = .returned (.tuple #[.agg #[.int .i64 xn, .int .i64 xd], .int .i64 ec]) ∧ Below w.heap.size w w')
    (H2 : ∀ w, Calls Tryd.prog 20 #[.int .i64 n, .int .i64 d] w fun e w' => e = .returned (.tuple #[.agg #[.int .i64 xn, .int .i64 xd], .int .i64 ec]) ∧ Below w.heap.size w w')
    (H3 : ∀ w, Calls Tryd.prog 21 #[.agg #[.int .i64 n, .int .i64 d]] w fun e w' => e = .returned (.bool ok) ∧ Below w.heap.size w w')
    (H4 : ∀ w, Calls Tryd.prog 22 #[.agg #[.int .i64 n, .int .i64 d]] w fun e w' => e = .returned (.bool ok) ∧ Below w.heap.size w w') (w : World) :
    Calls Tryd.prog 4 #[.int .i64 n, .int .i64 d] w fun e w' => e = .returned (.bool true) ∧ Below w.heap.size w w' := by
  have HK := hideR known_any
  have H1 := hideR H1
  have H2 := hideR H2
  have H3 := hideR H3
  have H4 := hideR H4
  go_enter Tryd.func4, Tryd.ntmps4
  go_wp2_with fail
  go_at_call 17
  refine Calls.mono (HK.out _) ?_
  rintro e w1 ⟨rfl, b1⟩
  go_wp2_with fail
  go_at_call 19
  refine Calls.mono (H1.out _) ?_
  rintro e w2 ⟨rfl, b2⟩
  have B2 := bup (bup b1 b2) (bel1 w2 (.cells #[.int .i64 xn, .int .i64 xd] 26))
  have X2 := Two.new w2 (.int .i64 xn) (.int .i64 xd) 26
  clear b1 b2
  go_wp2_with fail
  go_at_call 20
  refine Calls.mono (H2.out _) ?_
  rintro e w3 ⟨rfl, b3⟩
  have B3 := bup (bup (bup B2 b3) (bel1 w3 (.cells #[.int .i64 xn, .int .i64 xd] 26))) (bel1 (w3.alloc (.cells #[.int .i64 xn, .int .i64 xd] 26)) (.cells #[.int .i64 n, .int .i64 d] 26))
  have X3 := ((X2.keep b3).alloc (.cells #[.int .i64 xn, .int .i64 xd] 26)).alloc (.cells #[.int .i64 n, .int .i64 d] 26)
  have Y3 := (Two.new w3 (.int .i64 xn) (.int .i64 xd) 26).alloc (.cells #[.int .i64 n, .int .i64 d] 26)
  have R3 := Two.new (w3.alloc (.cells #[.int .i64 xn, .int .i64 xd] 26)) (.int .i64 n) (.int .i64 d) 26
  rw [show (w3.alloc (.cells #[.int .i64 xn, .int .i64 xd] 26)).heap.size = w3.heap.size + 1 by simp] at R3
  clear b3 B2 X2
  obtain ⟨_, x0, x1, _, _⟩ := id X3
  obtain ⟨_, y0, y1, _, _⟩ := id Y3
  obtain ⟨_, r0, r1, _, _⟩ := id R3
  have SC := s6 X3 Y3 R3
  go_wp2_with fail
  go_region_held3 (fun w' => w'.cell? ⟨w2.heap.size, 0, none⟩ = some (.int .i64 xn) ∧ w'.cell? ⟨w2.heap.size, 1, none⟩ = some (.int .i64 xd) ∧ w'.cell? ⟨w3.heap.size, 0, none⟩ = some (.int .i64 xn) ∧ w'.cell? ⟨w3.heap.size, 1, none⟩ = some (.int .i64 xd) ∧ w'.cell? ⟨w3.heap.size + 1, 0, none⟩ = some (.int .i64 n) ∧ w'.cell? ⟨w3.heap.size + 1, 1, none⟩ = some (.int .i64 d)) (first | assumption | go_keep)
    (first | (go_at_call 21; refine (H3.out _).mono ?_; rintro e w4 ⟨rfl, b4⟩; have X4 := X3.drew.keep b4; have Y4 := Y3.drew.keep b4; have R4 := R3.drew.keep b4; have S4 := s6 X4 Y4 R4) | (go_at_call 22; refine (H4.out _).mono ?_; rintro e w5 ⟨rfl, b5⟩; have S5 := s6 (X4.keep b5) (Y4.keep b5) (R4.keep b5)))
  all_goals (try go_wp2_with fail)
  all_goals (go_ret; exact ⟨by simp, bup (bup B3.drew b4) b5⟩)
theorem news_any (n : Int) (hn : I64 n) (d : Int) (hd : I64 d) (w : World) :
    Calls Tryd.prog 4 #[.int .i64 n, .int .i64 d] w fun e w' => e = .returned (.bool true) ∧ Below w.heap.size w w' :=
  news_walk n d _ _ _ _ (new_any n d hn hd) (rnew_full n d hn hd) (right_any ⟨n, d⟩ ⟨hn, hd⟩) (rright_r ⟨n, d⟩ ⟨hn, hd⟩) w
end Go.Proofs.YtmofjkfghidlnaaDoor
