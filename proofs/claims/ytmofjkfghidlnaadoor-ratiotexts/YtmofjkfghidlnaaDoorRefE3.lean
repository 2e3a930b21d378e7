/- surtitleref3.Parse: a nought below. -/
import Derived.Test.YtmofjkfghidlnaaDoorRatP2
import Derived.Test.YtmofjkfghidlnaaDoorMgB
import Derived.Test.YtmofjkfghidlnaaDoorMgD
namespace Go.Proofs.YtmofjkfghidlnaaDoor
open Go.RowKit Go.Shelf
attribute [local go_sem] Oper.semAt_some bs_toList

set_option maxRecDepth 100000 in
set_option maxHeartbeats 1000000 in
theorem rp_over11F (l : List UInt8) (hd rs m : List UInt8) (n k : Nat) (vh vl : Int) (h0 : 0 < (bs l).size)
    (hl : (bs l).size ≤ 9223372036854775806)
    (hg : ¬ (bs l)[0] = 45)
    (HR : ∀ w, Calls Tryd.prog 83 #[.string (bs l), .int .i64 0] w fun e w' => e = .returned (.int .i64 n) ∧ w' = w)
    (hn : 0 < n)
    (hn2 : 0 + n ≤ (bs l).size)
    (hnz : n ≤ 1 ∨ 1 < n ∧ ((((bs l)[0]'(by omega)).toNat : Int) == 48) = false)
    (hh : (bs l).extract 0 n = bs hd)
    (hr : (bs l).extract n (bs l).size = bs rs)
    (HS : ∀ w, Calls Tryd.prog 83 #[.string (bs rs), .int .i64 1] w fun e w' => e = .returned (.int .i64 k) ∧ w' = w)
    (he : rs.isEmpty = false)
    (hs : 0 < (bs rs).size)
    (hsl : (bs rs).size ≤ 9223372036854775806)
    (hc : (bs rs)[0]'hs = 47)
    (hk : 0 < k) (hk2 : k + 1 = (bs rs).size)
    (hm : (bs rs).extract 1 (bs rs).size = bs m) (hms : 0 < (bs m).size)
    (hmz : k ≤ 1 ∨ 1 < k ∧ ((((bs m)[0]'hms).toNat : Int) == 48) = false)
    (hw : (bs hd).size ≤ 19)
    (hw2 : (bs m).size ≤ 19)
    (HB : ∀ w, Calls Tryd.prog 85 #[.string (bs hd)] w fun e w' => e = .returned (.agg #[.bool false, .int .u64 vh, .int .u64 vl]) ∧ Below w.heap.size w w')
    (HM : ∀ w, Calls Tryd.prog 85 #[.string (bs m)] w fun e w' => e = .returned (.agg #[.bool false, .int .u64 0, .int .u64 0]) ∧ Below w.heap.size w w') (w : World) :
    Calls Tryd.prog 48 #[.string (bs l)] w fun e w' => e = .returned (.tuple #[.agg #[.int .i64 0, .int .i64 0], .int .i64 11]) ∧ Below w.heap.size w w' := by
  have HR := hideR HR
  have HB := hideR HB
  have HM := hideR HM
  have HS := hideR HS
  have z0 : (0 : Int) < ((bs l).size : Int) := by omega
  have z3 : ¬ (bs l)[0].toNat = 45 := fun h => hg (UInt8.toNat_inj.1 h)
  have z1 : ((n : Int) == 0) = false := by simp; omega
  have z5 : (n : Int) ≤ ((bs l).size : Int) := by omega
  have z6 : n ≤ (bs l).size := by omega
  have y0 : (0 : Int) < ((bs rs).size : Int) := by omega
  have yk : ((k : Int) == 0) = false := by simp; omega
  have yw : IntKind.i64.wrap ((k : Int) + 1) = (k : Int) + 1 := by rw [IntKind.wrap_i64]; omega
  have ye : (((k : Int) + 1) == ((bs rs).size : Int)) = true := by simp; omega
  have y3 : (1 : Int) ≤ ((bs rs).size : Int) := by omega
  have y4 : 1 ≤ (bs rs).size := by omega
  have y5 : (0 : Int) < ((bs m).size : Int) := by omega
  have x1 : ((bs hd).size : Int) ≤ 19 := by omega
  have x2 : ((bs m).size : Int) ≤ 19 := by omega
  rcases hnz with z2 | ⟨z2, z9⟩
  all_goals rcases hmz with y2 | ⟨y2, y9⟩
  all_goals (
    have z2 := Int.ofNat_le.2 z2
    have y2 := Int.ofNat_le.2 y2
    go_enter Tryd.func48, Tryd.ntmps48
    go_wp2_with fail
    go_at_call 83
    refine (HR.out _).mono ?_
    rintro e w1 ⟨rfl, rfl⟩
    go_wp2_with fail
    go_at_call 83
    refine (HS.out _).mono ?_
    rintro e w1 ⟨rfl, rfl⟩
    go_wp2_with fail
    go_at_call 85
    refine (HB.out _).mono ?_
    rintro e w1 ⟨rfl, b1⟩
    have T1 := (Two.new w (.int .i64 0) (.int .i64 0) 26).keep b1
    have B1 := bup (bel1 w _) b1
    clear b1
    go_wp2_with fail
    have T2 := (T1.alloc (.cells #[.bool false, .int .u64 vh, .int .u64 vl] 76)).alloc (.cells #[.bool false, .int .u64 0, .int .u64 1] 76)
    have B2 := bup B1 (bel2 w1 (.cells #[.bool false, .int .u64 vh, .int .u64 vl] 76) (.cells #[.bool false, .int .u64 0, .int .u64 1] 76))
    have D2 := (Tri.new (w1.alloc (.cells #[.bool false, .int .u64 vh, .int .u64 vl] 76)) false 0 1 76).at (R2 := w1.heap.size + 1) (by simp)
    have hle := B1.size
    have hlt := T1.1
    clear T1
    generalize (w1.alloc (.cells #[.bool false, .int .u64 vh, .int .u64 vl] 76)).alloc (.cells #[.bool false, .int .u64 0, .int .u64 1] 76) = V at *
    go_at_call 85
    refine (HM.out _).mono ?_
    rintro e U ⟨rfl, bU⟩
    have T3 := T2.keep bU
    have D3 := D2.keep bU
    have B3 := bup B2 bU
    clear T2 D2 bU
    obtain ⟨_, r0, r1, r2, r3⟩ := id T3
    obtain ⟨_, d0, d1, d2, d3⟩ := id D3
    go_wp2_with fail
    have ne : ¬ w1.heap.size + 1 = w.heap.size := by omega
    have T4 := (((T3.one (i := 0) (v := .bool false) ne).one (i := 1) (v := .int .u64 0) ne).one (i := 2) (v := .int .u64 0) ne).set (x2 := .int .i64 0) (y2 := .int .i64 0)
    have B4 := ((((B3.setCell (p := ⟨w1.heap.size + 1, 0, none⟩) (show w.heap.size ≤ w1.heap.size + 1 by omega) (.bool false)).setCell (p := ⟨w1.heap.size + 1, 1, none⟩) (show w.heap.size ≤ w1.heap.size + 1 by omega) (.int .u64 0)).setCell (p := ⟨w1.heap.size + 1, 2, none⟩) (show w.heap.size ≤ w1.heap.size + 1 by omega) (.int .u64 0)).setCell (p := ⟨w.heap.size, 0, none⟩) (Nat.le_refl _) (.int .i64 0)).setCell (p := ⟨w.heap.size, 1, none⟩) (Nat.le_refl _) (.int .i64 0)
    obtain ⟨_, q0, q1, _, _⟩ := T4
    exact bodyPost_ret (v := .tuple #[.agg #[.int .i64 0, .int .i64 0], .int .i64 11]) (by simp [results, Tryd.results48, go_sem, q0, q1]) rfl ⟨rfl, B4⟩)
end Go.Proofs.YtmofjkfghidlnaaDoor
