/- surtitlelaw5.known: the walk. -/
import Derived.Test.YtaipdckakgohjaaDoorCdG
import Derived.Deep.RegionHeld3
namespace Go.Proofs.YtaipdckakgohjaaDoor
open Go.RowKit Go.Shelf
attribute [local go_sem] Oper.semAt_some bs_toList

theorem RateAt.at {V : World} {B R2 : Nat} {n d : Int} {dr : Bool} (h : RateAt V B n d dr) (e : B = R2) : RateAt V R2 n d dr := e ▸ h
set_option maxRecDepth 100000 in
set_option maxHeartbeats 2000000 in
theorem known5_walk (w : World)
    (H1 : ∀ w, Calls Tryd.prog 22 #[.agg #[.int .i64 24000, .int .i64 1001, .bool false], .int .i64 24] w fun e w' => e = .returned (.tuple #[.agg #[.int .i64 1001, .int .i64 1000], .int .i64 0]) ∧ Below w.heap.size w w')
    (H2 : ∀ w0, Below w.heap.size w w0 → Calls Tryd.prog 30 #[.int .i64 1, .agg #[.int .i64 7, .int .i64 2]] w0 fun e w' => e = .returned (.tuple #[.string ⟨#[48, 48, 58, 48, 48, 58, 48, 51, 44, 53, 48, 48]⟩, .int .i64 0]) ∧ Below w0.heap.size w0 w')
    (H3 : ∀ w0, Below w.heap.size w w0 → Calls Tryd.prog 23 #[.agg #[.int .i64 30000, .int .i64 1001, .bool true], .int .i64 1800] w0 fun e w' => e = .returned (.tuple #[.string ⟨#[48, 48, 58, 48, 49, 58, 48, 48, 59, 48, 50]⟩, .int .i64 0]) ∧ Below w0.heap.size w0 w')
    (H4 : ∀ w, Calls Tryd.prog 28 #[.agg #[.int .i64 30000, .int .i64 1001, .bool true], .string ⟨#[48, 48, 58, 48, 49, 58, 48, 48, 59, 48, 49]⟩] w fun e w' => e = .returned (.tuple #[.int .i64 0, .int .i64 15]) ∧ Below w.heap.size w w') :
    Calls Tryd.prog 15 #[] w fun e w' => e = .returned (.bool true) ∧ Below w.heap.size w w' := by
  have H1 := hideR H1
  have H2 := hideR H2
  have H3 := hideR H3
  have H4 := hideR H4
  go_enter Tryd.func15, Tryd.ntmps15
  go_wp2_with fail
  go_at_call 22
  refine (H1.out _).mono ?_
  rintro e w1 ⟨rfl, b1⟩
  have A1 := (((RateAt.new w 24000 1001 false).alloc (.cells #[.int .i64 30000, .int .i64 1001, .bool true] 24)).keep b1).alloc (.cells #[.int .i64 1001, .int .i64 1000] 28)
  have V1 := (((RateAt.new (w.alloc (.cells #[.int .i64 24000, .int .i64 1001, .bool false] 24)) 30000 1001 true).keep b1).at (R2 := w.heap.size + 1) (by simp)).alloc (.cells #[.int .i64 1001, .int .i64 1000] 28)
  have B1 := bup (bup (bel2 w _ _) b1) (bel1 w1 (.cells #[.int .i64 1001, .int .i64 1000] 28))
  clear b1
  have T1 := Two.new w1 (.int .i64 1001) (.int .i64 1000) 28
  obtain ⟨_, a0, a1, a2⟩ := id A1
  obtain ⟨_, v0, v1, v2⟩ := id V1
  obtain ⟨_, t0, t1, t2, t3⟩ := id T1
  go_wp2_with fail
  go_at_call 30
  refine (H2.out _ B1).mono ?_
  rintro e w2 ⟨rfl, b2⟩
  have A2 := (A1.keep b2)
  have V2 := (V1.keep b2)
  have T2 := (T1.keep b2)
  have B2 := bup B1 b2
  clear A1 V1 T1 B1 a0 a1 a2 v0 v1 v2 t0 t1 t2 t3
  clear b2
  obtain ⟨_, a0, a1, a2⟩ := id A2
  obtain ⟨_, v0, v1, v2⟩ := id V2
  obtain ⟨_, t0, t1, t2, t3⟩ := id T2
  go_wp2_with fail
  go_at_call 23
  refine (H3.out _ B2).mono ?_
  rintro e w3 ⟨rfl, b3⟩
  have A3 := (A2.keep b3)
  have V3 := (V2.keep b3)
  have T3 := (T2.keep b3)
  have B3 := bup B2 b3
  clear A2 V2 T2 B2 a0 a1 a2 v0 v1 v2 t0 t1 t2 t3
  clear b3
  obtain ⟨_, a0, a1, a2⟩ := id A3
  obtain ⟨_, v0, v1, v2⟩ := id V3
  obtain ⟨_, t0, t1, t2, t3⟩ := id T3
  go_wp2_with fail
  go_at_call 28
  refine (H4.out _).mono ?_
  rintro e w4 ⟨rfl, b4⟩
  have A4 := (A3.keep b4)
  have V4 := (V3.keep b4)
  have T4 := (T3.keep b4)
  have B4 := bup B3 b4
  clear A3 V3 T3 B3 a0 a1 a2 v0 v1 v2 t0 t1 t2 t3
  clear b4
  obtain ⟨_, a0, a1, a2⟩ := id A4
  obtain ⟨_, v0, v1, v2⟩ := id V4
  obtain ⟨_, t0, t1, t2, t3⟩ := id T4
  go_wp2_with fail
  go_ret
  exact ⟨rfl, B4⟩
end Go.Proofs.YtaipdckakgohjaaDoor
