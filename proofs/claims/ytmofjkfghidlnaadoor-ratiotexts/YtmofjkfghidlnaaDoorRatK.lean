/- The statements' own head, surtitlelaw3.known: it returns true. -/
import Derived.Test.YtmofjkfghidlnaaDoorRatP5
import Derived.Test.YtmofjkfghidlnaaDoorRatQ
import Derived.Test.YtmofjkfghidlnaaDoorMgB
namespace Go.Proofs.YtmofjkfghidlnaaDoor
open Go.RowKit Go.Shelf
attribute [local go_sem] Oper.semAt_some bs_toList

theorem quarter_any (w : World) :
    Calls Tryd.prog 47 #[.string ⟨#[48, 46, 50, 53]⟩] w fun e w' => e = .returned (.tuple #[.agg #[.int .i64 1, .int .i64 4], .int .i64 0]) ∧ Below w.heap.size w w' := by
  have hp : ∀ w, Calls Tryd.prog 99 #[.string (bs [48, 46, 50, 53]), .string ⟨#[45]⟩] w fun e w' => e = .returned (.tuple #[.string (bs [48, 46, 50, 53]), .bool false]) ∧ w' = w := fun w => prefix_any [48, 46, 50, 53] w
  have hc : ∀ w, Calls Tryd.prog 100 #[.string (bs [48, 46, 50, 53]), .string ⟨#[47]⟩] w fun e w' => e = .returned (.tuple #[.string (bs [48, 46, 50, 53]), .string (bs []), .bool false]) ∧ ∃ n, w' = w.drewN n := fun w => cut_any [48, 46, 50, 53] (by decide) 47 w
  have hd : ∀ w, Calls Tryd.prog 100 #[.string (bs [48, 46, 50, 53]), .string ⟨#[46]⟩] w fun e w' => e = .returned (.tuple #[.string (bs [48]), .string (bs [50, 53]), .bool true]) ∧ ∃ n, w' = w.drewN n := fun w => cut_any [48, 46, 50, 53] (by decide) 46 w
  have hr := read_point3 [48, 46, 50, 53] [48, 46, 50, 53] [48] [50, 53] false hp hc hd (isNumber_any [48] (by decide)) (areDigits_any [50, 53] (by decide)) (by decide)
  exact parse_low [48, 46, 50, 53] [48] [] [50, 53] 25 100 (⟨1, 4⟩, 0) (by decide) (by decide) (by decide) hr
    (fun b w hb c0 c1 c3 => top_any b false [48] [50, 53] (by decide) (by decide) (by decide) (by decide) w hb c0 c1 c3)
    (fun b w c2 c3 => bottom_any b [] [50, 53] (by decide) (by decide) (by decide) w c2 c3)
    (fun w => lowest_any 25 100 (by unfold In128; omega) (by omega) (by omega) w) w

theorem new1_any (w : World) : Calls Tryd.prog 19 #[.int .i64 6, .int .i64 (-4)] w fun e w' => e = .returned (.tuple #[.agg #[.int .i64 (-3), .int .i64 2], .int .i64 0]) ∧ Below w.heap.size w w' :=
  new_any 6 (-4) (by unfold I64; omega) (by unfold I64; omega) w
theorem new2_any (w : World) : Calls Tryd.prog 19 #[.int .i64 1, .int .i64 0] w fun e w' => e = .returned (.tuple #[.agg #[.int .i64 0, .int .i64 0], .int .i64 11]) ∧ Below w.heap.size w w' :=
  new_any 1 0 (by unfold I64; omega) (by unfold I64; omega) w
theorem add1_any (w : World) : Calls Tryd.prog 23 #[.agg #[.int .i64 1, .int .i64 3], .agg #[.int .i64 1, .int .i64 6]] w fun e w' => e = .returned (.tuple #[.agg #[.int .i64 1, .int .i64 2], .int .i64 0]) ∧ Below w.heap.size w w' := by
  have h := add_any ⟨1, 3⟩ ⟨1, 6⟩ (by unfold RtIn I64; simp) (by unfold RtIn I64; simp) w
  rw [show addA ⟨1, 3⟩ ⟨1, 6⟩ = (⟨1, 2⟩, 0) by rw [addA_right (by kernel_rfl) (by kernel_rfl), val_add _ _ (by kernel_rfl) (by kernel_rfl)]; kernel_rfl] at h
  exact h
theorem right1_any (w : World) : Calls Tryd.prog 21 #[.agg #[.int .i64 1, .int .i64 4]] w fun e w' => e = .returned (.bool true) ∧ Below w.heap.size w w' :=
  right_any ⟨1, 4⟩ (by unfold RtIn I64; simp) w
theorem right2_any (w : World) : Calls Tryd.prog 21 #[.agg #[.int .i64 0, .int .i64 0]] w fun e w' => e = .returned (.bool false) ∧ Below w.heap.size w w' :=
  right_any ⟨0, 0⟩ (by unfold RtIn I64; simp) w

set_option maxRecDepth 100000 in
set_option maxHeartbeats 1000000 in
theorem known_any (w : World) : Calls Tryd.prog 17 #[] w fun e w' => e = .returned (.bool true) ∧ Below w.heap.size w w' := by
  have H1 := hideR new1_any
  have H2 := hideR add1_any
  have H3 := hideR new2_any
  have H4 := hideR quarter_any
  have H5 := hideR right1_any
  have H6 := hideR right2_any
  go_enter Tryd.func17, Tryd.ntmps17
  go_wp2_with fail
  go_at_call 19
  refine Calls.mono (H1.out _) ?_
  rintro e w1 ⟨rfl, b1⟩
  go_wp2_with fail
  go_at_call 23
  refine Calls.mono (H2.out _) ?_
  rintro e w2 ⟨rfl, b2⟩
  have A2 := (Two.new w1 (.int .i64 (-3)) (.int .i64 2) 26).keep b2
  have B2 := bup (bup b1 (bel1 _ _)) b2
  clear b1 b2
  go_wp2_with fail
  go_at_call 19
  refine Calls.mono (H3.out _) ?_
  rintro e w3 ⟨rfl, b3⟩
  have A3 := (A2.alloc _).keep b3
  have C3 := (Two.new w2 (.int .i64 1) (.int .i64 2) 26).keep b3
  have B3 := bup (bup B2 (bel1 _ _)) b3
  clear A2 B2 b3
  go_wp2_with fail
  go_at_call 47
  refine Calls.mono (H4.out _) ?_
  rintro e w4 ⟨rfl, b4⟩
  have A4 := ((A3.alloc _).keep b4).alloc (.cells #[.int .i64 1, .int .i64 4] 26)
  have C4 := ((C3.alloc _).keep b4).alloc (.cells #[.int .i64 1, .int .i64 4] 26)
  have D4 := ((Two.new w3 (.int .i64 0) (.int .i64 0) 26).keep b4).alloc (.cells #[.int .i64 1, .int .i64 4] 26)
  have E4 := Two.new w4 (.int .i64 1) (.int .i64 4) 26
  have B4 := bup (bup (bup B3 (bel1 _ _)) b4) (bel1 w4 (.cells #[.int .i64 1, .int .i64 4] 26))
  clear A3 C3 B3 b4
  obtain ⟨_, a0, a1, _, _⟩ := id A4
  obtain ⟨_, c0, c1, _, _⟩ := id C4
  obtain ⟨_, d0, d1, _, _⟩ := id D4
  obtain ⟨_, e0, e1, _, _⟩ := id E4
  go_wp2_with fail
  go_at_call 21
  refine Calls.mono (H5.out _) ?_
  rintro e w5 ⟨rfl, b5⟩
  have D5 := D4.keep b5
  obtain ⟨_, d0, d1, _, _⟩ := id D5
  go_wp2_with fail
  go_at_call 21
  refine Calls.mono (H6.out _) ?_
  rintro e w6 ⟨rfl, b6⟩
  go_wp2_with fail
  go_ret
  exact ⟨rfl, bup (bup B4 b5) b6⟩
end Go.Proofs.YtmofjkfghidlnaaDoor
