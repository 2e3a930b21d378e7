/- Several texts, one behind the other. -/
import Derived.Deep.RegionHeld3
import Derived.Test.YtaipdckakgohjaaGreatDoorCdB
import Derived.Test.YtaipdckakgohjaaGreatDoorCdC
import Derived.Test.YtaipdckakgohjaaGreatDoorCdD
import Derived.Test.YtaipdckakgohjaaGreatDoorCdG
import Derived.Test.YtaipdckakgohjaaGreatDoorCdR
/- Package code: Grid, Time, Frame. -/
namespace Go.Proofs.YtaipdckakgohjaaGreatDoor
open Go.RowKit Go.Shelf
attribute [local go_sem] Oper.semAt_some

set_option maxRecDepth 100000 in
set_option maxHeartbeats 2000000 in
theorem grid_bad (n d c : Int) (dr : Bool) (hc : (c == 0) = false) (w : World)
    (HC : ∀ w, Calls Tryz.prog 35 #[.agg #[.int .i64 n, .int .i64 d, .bool dr]] w fun e w' => e = .returned (.int .i64 c) ∧ Below w.heap.size w w') :
    Calls Tryz.prog 54 #[.agg #[.int .i64 n, .int .i64 d, .bool dr]] w fun e w' => e = .returned (.tuple #[.agg #[.int .i64 0, .int .i64 0], .int .i64 c]) ∧ Below w.heap.size w w' := by
  have HC := hideR HC
  go_enter Tryz.func54, Tryz.ntmps54
  go_wp2_with fail
  go_at_call 35
  refine (HC.out _).mono ?_
  rintro e w1 ⟨rfl, b1⟩
  have A1 := (((RateAt.new w n d dr).alloc (.cells #[.int .i64 0, .int .i64 0] 24)).keep b1)
  have T1 := (((Two.new (w.alloc (.cells #[.int .i64 n, .int .i64 d, .bool dr] 31)) (.int .i64 0) (.int .i64 0) 24).keep b1).at (R2 := w.heap.size + 1) (by simp))
  have B1 := bup (bel2 w _ _) b1
  clear b1
  obtain ⟨_, a0, a1, a2⟩ := id A1
  obtain ⟨_, t0, t1, t2, t3⟩ := id T1
  go_wp2_with fail
  exact bodyPost_ret (v := .tuple #[.agg #[.int .i64 0, .int .i64 0], .int .i64 c]) (by simp [results, Tryz.results54, go_sem, t0, t1]) rfl ⟨rfl, by first | exact B1 | exact (B1.setCell (by simp) _).setCell (by simp) _⟩
set_option maxRecDepth 100000 in
set_option maxHeartbeats 2000000 in
theorem grid_ok (n d : Int) (dr : Bool) (w : World)
    (HC : ∀ w, Calls Tryz.prog 35 #[.agg #[.int .i64 n, .int .i64 d, .bool dr]] w fun e w' => e = .returned (.int .i64 0) ∧ Below w.heap.size w w') :
    Calls Tryz.prog 54 #[.agg #[.int .i64 n, .int .i64 d, .bool dr]] w fun e w' => e = .returned (.tuple #[.agg #[.int .i64 d, .int .i64 n], .int .i64 0]) ∧ Below w.heap.size w w' := by
  have HC := hideR HC
  go_enter Tryz.func54, Tryz.ntmps54
  go_wp2_with fail
  go_at_call 35
  refine (HC.out _).mono ?_
  rintro e w1 ⟨rfl, b1⟩
  have A1 := (((RateAt.new w n d dr).alloc (.cells #[.int .i64 0, .int .i64 0] 24)).keep b1)
  have T1 := (((Two.new (w.alloc (.cells #[.int .i64 n, .int .i64 d, .bool dr] 31)) (.int .i64 0) (.int .i64 0) 24).keep b1).at (R2 := w.heap.size + 1) (by simp))
  have B1 := bup (bel2 w _ _) b1
  clear b1
  obtain ⟨_, a0, a1, a2⟩ := id A1
  obtain ⟨_, t0, t1, t2, t3⟩ := id T1
  go_wp2_with fail
  exact bodyPost_ret (v := .tuple #[.agg #[.int .i64 d, .int .i64 n], .int .i64 0]) (by simp [results, Tryz.results54, go_sem, t0, t1]) rfl ⟨rfl, by first | exact B1 | exact (B1.setCell (by simp) _).setCell (by simp) _⟩
set_option maxRecDepth 100000 in
set_option maxHeartbeats 2000000 in
theorem ctime_bad (n d fr c : Int) (dr : Bool) (hc : (c == 0) = false) (w : World)
    (HG : ∀ w, Calls Tryz.prog 54 #[.agg #[.int .i64 n, .int .i64 d, .bool dr]] w fun e w' => e = .returned (.tuple #[.agg #[.int .i64 0, .int .i64 0], .int .i64 c]) ∧ Below w.heap.size w w') :
    Calls Tryz.prog 21 #[.agg #[.int .i64 n, .int .i64 d, .bool dr], .int .i64 fr] w fun e w' => e = .returned (.tuple #[.agg #[.int .i64 0, .int .i64 0], .int .i64 c]) ∧ Below w.heap.size w w' := by
  have HG := hideR HG
  go_enter Tryz.func21, Tryz.ntmps21
  go_wp2_with fail
  go_at_call 54
  refine (HG.out _).mono ?_
  rintro e w1 ⟨rfl, b1⟩
  have A1 := (((RateAt.new w n d dr).alloc (.cells #[.int .i64 0, .int .i64 0] 24)).keep b1).alloc (.cells #[.int .i64 0, .int .i64 0] 24)
  have T1 := (((Two.new (w.alloc (.cells #[.int .i64 n, .int .i64 d, .bool dr] 31)) (.int .i64 0) (.int .i64 0) 24).keep b1).at (R2 := w.heap.size + 1) (by simp)).alloc (.cells #[.int .i64 0, .int .i64 0] 24)
  have B1 := bup (bup (bel2 w _ _) b1) (bel1 w1 (.cells #[.int .i64 0, .int .i64 0] 24))
  clear b1
  have G1 := Two.new w1 (.int .i64 0) (.int .i64 0) 24
  obtain ⟨_, a0, a1, a2⟩ := id A1
  obtain ⟨_, t0, t1, t2, t3⟩ := id T1
  obtain ⟨_, g0, g1, g2, g3⟩ := id G1
  go_wp2_with fail
  exact bodyPost_ret (v := .tuple #[.agg #[.int .i64 0, .int .i64 0], .int .i64 c]) (by simp [results, Tryz.results21, go_sem, t0, t1]) rfl ⟨rfl, by first | exact B1 | exact (B1.setCell (by simp) _).setCell (by simp) _⟩
set_option maxRecDepth 100000 in
set_option maxHeartbeats 2000000 in
theorem ctime_mul (n d fr gn gd tn td me : Int) (dr : Bool) (hm2 : (me != 0) = true) (w : World)
    (HG : ∀ w, Calls Tryz.prog 54 #[.agg #[.int .i64 n, .int .i64 d, .bool dr]] w fun e w' => e = .returned (.tuple #[.agg #[.int .i64 gn, .int .i64 gd], .int .i64 0]) ∧ Below w.heap.size w w')
    (HM : ∀ w, Calls Tryz.prog 49 #[.agg #[.int .i64 fr, .int .i64 1], .agg #[.int .i64 gn, .int .i64 gd]] w fun e w' => e = .returned (.tuple #[.agg #[.int .i64 tn, .int .i64 td], .int .i64 me]) ∧ Below w.heap.size w w') :
    Calls Tryz.prog 21 #[.agg #[.int .i64 n, .int .i64 d, .bool dr], .int .i64 fr] w fun e w' => e = .returned (.tuple #[.agg #[.int .i64 0, .int .i64 0], .int .i64 31]) ∧ Below w.heap.size w w' := by
  have HG := hideR HG
  have HM := hideR HM
  go_enter Tryz.func21, Tryz.ntmps21
  go_wp2_with fail
  go_at_call 54
  refine (HG.out _).mono ?_
  rintro e w1 ⟨rfl, b1⟩
  have A1 := (((RateAt.new w n d dr).alloc (.cells #[.int .i64 0, .int .i64 0] 24)).keep b1).alloc (.cells #[.int .i64 gn, .int .i64 gd] 24)
  have T1 := (((Two.new (w.alloc (.cells #[.int .i64 n, .int .i64 d, .bool dr] 31)) (.int .i64 0) (.int .i64 0) 24).keep b1).at (R2 := w.heap.size + 1) (by simp)).alloc (.cells #[.int .i64 gn, .int .i64 gd] 24)
  have B1 := bup (bup (bel2 w _ _) b1) (bel1 w1 (.cells #[.int .i64 gn, .int .i64 gd] 24))
  clear b1
  have G1 := Two.new w1 (.int .i64 gn) (.int .i64 gd) 24
  obtain ⟨_, a0, a1, a2⟩ := id A1
  obtain ⟨_, t0, t1, t2, t3⟩ := id T1
  obtain ⟨_, g0, g1, g2, g3⟩ := id G1
  go_wp2_with fail
  go_at_call 49
  refine (HM.out _).mono ?_
  rintro e w2 ⟨rfl, b2⟩
  have A2 := (A1.keep b2).alloc (.cells #[.int .i64 tn, .int .i64 td] 24)
  have T2 := (T1.keep b2).alloc (.cells #[.int .i64 tn, .int .i64 td] 24)
  have G2 := (G1.keep b2).alloc (.cells #[.int .i64 tn, .int .i64 td] 24)
  have B2 := bup (bup B1 b2) (bel1 w2 (.cells #[.int .i64 tn, .int .i64 td] 24))
  clear A1 T1 G1 B1 a0 a1 a2 t0 t1 t2 t3 g0 g1 g2 g3
  clear b2
  have X2 := Two.new w2 (.int .i64 tn) (.int .i64 td) 24
  obtain ⟨_, a0, a1, a2⟩ := id A2
  obtain ⟨_, t0, t1, t2, t3⟩ := id T2
  obtain ⟨_, g0, g1, g2, g3⟩ := id G2
  obtain ⟨_, x0, x1, x2, x3⟩ := id X2
  go_wp2_with fail
  exact bodyPost_ret (v := .tuple #[.agg #[.int .i64 0, .int .i64 0], .int .i64 31]) (by simp [results, Tryz.results21, go_sem, t0, t1]) rfl ⟨rfl, by first | exact B2 | exact (B2.setCell (by simp) _).setCell (by simp) _⟩
set_option maxRecDepth 100000 in
set_option maxHeartbeats 2000000 in
theorem ctime_out (n d fr gn gd tn td te : Int) (dr : Bool) (ht : (te == 0) = false) (w : World)
    (HG : ∀ w, Calls Tryz.prog 54 #[.agg #[.int .i64 n, .int .i64 d, .bool dr]] w fun e w' => e = .returned (.tuple #[.agg #[.int .i64 gn, .int .i64 gd], .int .i64 0]) ∧ Below w.heap.size w w')
    (HM : ∀ w, Calls Tryz.prog 49 #[.agg #[.int .i64 fr, .int .i64 1], .agg #[.int .i64 gn, .int .i64 gd]] w fun e w' => e = .returned (.tuple #[.agg #[.int .i64 tn, .int .i64 td], .int .i64 0]) ∧ Below w.heap.size w w')
    (HT : ∀ w, Calls Tryz.prog 27 #[.agg #[.int .i64 tn, .int .i64 td]] w fun e w' => e = .returned (.int .i64 te) ∧ Below w.heap.size w w') :
    Calls Tryz.prog 21 #[.agg #[.int .i64 n, .int .i64 d, .bool dr], .int .i64 fr] w fun e w' => e = .returned (.tuple #[.agg #[.int .i64 0, .int .i64 0], .int .i64 31]) ∧ Below w.heap.size w w' := by
  have HG := hideR HG
  have HM := hideR HM
  have HT := hideR HT
  go_enter Tryz.func21, Tryz.ntmps21
  go_wp2_with fail
  go_at_call 54
  refine (HG.out _).mono ?_
  rintro e w1 ⟨rfl, b1⟩
  have A1 := (((RateAt.new w n d dr).alloc (.cells #[.int .i64 0, .int .i64 0] 24)).keep b1).alloc (.cells #[.int .i64 gn, .int .i64 gd] 24)
  have T1 := (((Two.new (w.alloc (.cells #[.int .i64 n, .int .i64 d, .bool dr] 31)) (.int .i64 0) (.int .i64 0) 24).keep b1).at (R2 := w.heap.size + 1) (by simp)).alloc (.cells #[.int .i64 gn, .int .i64 gd] 24)
  have B1 := bup (bup (bel2 w _ _) b1) (bel1 w1 (.cells #[.int .i64 gn, .int .i64 gd] 24))
  clear b1
  have G1 := Two.new w1 (.int .i64 gn) (.int .i64 gd) 24
  obtain ⟨_, a0, a1, a2⟩ := id A1
  obtain ⟨_, t0, t1, t2, t3⟩ := id T1
  obtain ⟨_, g0, g1, g2, g3⟩ := id G1
  go_wp2_with fail
  go_at_call 49
  refine (HM.out _).mono ?_
  rintro e w2 ⟨rfl, b2⟩
  have A2 := (A1.keep b2).alloc (.cells #[.int .i64 tn, .int .i64 td] 24)
  have T2 := (T1.keep b2).alloc (.cells #[.int .i64 tn, .int .i64 td] 24)
  have G2 := (G1.keep b2).alloc (.cells #[.int .i64 tn, .int .i64 td] 24)
  have B2 := bup (bup B1 b2) (bel1 w2 (.cells #[.int .i64 tn, .int .i64 td] 24))
  clear A1 T1 G1 B1 a0 a1 a2 t0 t1 t2 t3 g0 g1 g2 g3
  clear b2
  have X2 := Two.new w2 (.int .i64 tn) (.int .i64 td) 24
  obtain ⟨_, a0, a1, a2⟩ := id A2
  obtain ⟨_, t0, t1, t2, t3⟩ := id T2
  obtain ⟨_, g0, g1, g2, g3⟩ := id G2
  obtain ⟨_, x0, x1, x2, x3⟩ := id X2
  go_wp2_with fail
  go_at_call 27
  refine (HT.out _).mono ?_
  rintro e w3 ⟨rfl, b3⟩
  have A3 := (A2.keep b3)
  have T3 := (T2.keep b3)
  have G3 := (G2.keep b3)
  have X3 := (X2.keep b3)
  have B3 := bup B2 b3
  clear A2 T2 G2 X2 B2 a0 a1 a2 t0 t1 t2 t3 g0 g1 g2 g3 x0 x1 x2 x3
  clear b3
  obtain ⟨_, a0, a1, a2⟩ := id A3
  obtain ⟨_, t0, t1, t2, t3⟩ := id T3
  obtain ⟨_, g0, g1, g2, g3⟩ := id G3
  obtain ⟨_, x0, x1, x2, x3⟩ := id X3
  go_wp2_with fail
  exact bodyPost_ret (v := .tuple #[.agg #[.int .i64 0, .int .i64 0], .int .i64 31]) (by simp [results, Tryz.results21, go_sem, t0, t1]) rfl ⟨rfl, by first | exact B3 | exact (B3.setCell (by simp) _).setCell (by simp) _⟩
set_option maxRecDepth 100000 in
set_option maxHeartbeats 2000000 in
theorem ctime_ok (n d fr gn gd tn td : Int) (dr : Bool) (w : World)
    (HG : ∀ w, Calls Tryz.prog 54 #[.agg #[.int .i64 n, .int .i64 d, .bool dr]] w fun e w' => e = .returned (.tuple #[.agg #[.int .i64 gn, .int .i64 gd], .int .i64 0]) ∧ Below w.heap.size w w')
    (HM : ∀ w, Calls Tryz.prog 49 #[.agg #[.int .i64 fr, .int .i64 1], .agg #[.int .i64 gn, .int .i64 gd]] w fun e w' => e = .returned (.tuple #[.agg #[.int .i64 tn, .int .i64 td], .int .i64 0]) ∧ Below w.heap.size w w')
    (HT : ∀ w, Calls Tryz.prog 27 #[.agg #[.int .i64 tn, .int .i64 td]] w fun e w' => e = .returned (.int .i64 0) ∧ Below w.heap.size w w') :
    Calls Tryz.prog 21 #[.agg #[.int .i64 n, .int .i64 d, .bool dr], .int .i64 fr] w fun e w' => e = .returned (.tuple #[.agg #[.int .i64 tn, .int .i64 td], .int .i64 0]) ∧ Below w.heap.size w w' := by
  have HG := hideR HG
  have HM := hideR HM
  have HT := hideR HT
  go_enter Tryz.func21, Tryz.ntmps21
  go_wp2_with fail
  go_at_call 54
  refine (HG.out _).mono ?_
  rintro e w1 ⟨rfl, b1⟩
  have A1 := (((RateAt.new w n d dr).alloc (.cells #[.int .i64 0, .int .i64 0] 24)).keep b1).alloc (.cells #[.int .i64 gn, .int .i64 gd] 24)
  have T1 := (((Two.new (w.alloc (.cells #[.int .i64 n, .int .i64 d, .bool dr] 31)) (.int .i64 0) (.int .i64 0) 24).keep b1).at (R2 := w.heap.size + 1) (by simp)).alloc (.cells #[.int .i64 gn, .int .i64 gd] 24)
  have B1 := bup (bup (bel2 w _ _) b1) (bel1 w1 (.cells #[.int .i64 gn, .int .i64 gd] 24))
  clear b1
  have G1 := Two.new w1 (.int .i64 gn) (.int .i64 gd) 24
  obtain ⟨_, a0, a1, a2⟩ := id A1
  obtain ⟨_, t0, t1, t2, t3⟩ := id T1
  obtain ⟨_, g0, g1, g2, g3⟩ := id G1
  go_wp2_with fail
  go_at_call 49
  refine (HM.out _).mono ?_
  rintro e w2 ⟨rfl, b2⟩
  have A2 := (A1.keep b2).alloc (.cells #[.int .i64 tn, .int .i64 td] 24)
  have T2 := (T1.keep b2).alloc (.cells #[.int .i64 tn, .int .i64 td] 24)
  have G2 := (G1.keep b2).alloc (.cells #[.int .i64 tn, .int .i64 td] 24)
  have B2 := bup (bup B1 b2) (bel1 w2 (.cells #[.int .i64 tn, .int .i64 td] 24))
  clear A1 T1 G1 B1 a0 a1 a2 t0 t1 t2 t3 g0 g1 g2 g3
  clear b2
  have X2 := Two.new w2 (.int .i64 tn) (.int .i64 td) 24
  obtain ⟨_, a0, a1, a2⟩ := id A2
  obtain ⟨_, t0, t1, t2, t3⟩ := id T2
  obtain ⟨_, g0, g1, g2, g3⟩ := id G2
  obtain ⟨_, x0, x1, x2, x3⟩ := id X2
  go_wp2_with fail
  go_at_call 27
  refine (HT.out _).mono ?_
  rintro e w3 ⟨rfl, b3⟩
  have A3 := (A2.keep b3)
  have T3 := (T2.keep b3)
  have G3 := (G2.keep b3)
  have X3 := (X2.keep b3)
  have B3 := bup B2 b3
  clear A2 T2 G2 X2 B2 a0 a1 a2 t0 t1 t2 t3 g0 g1 g2 g3 x0 x1 x2 x3
  clear b3
  obtain ⟨_, a0, a1, a2⟩ := id A3
  obtain ⟨_, t0, t1, t2, t3⟩ := id T3
  obtain ⟨_, g0, g1, g2, g3⟩ := id G3
  obtain ⟨_, x0, x1, x2, x3⟩ := id X3
  go_wp2_with fail
  exact bodyPost_ret (v := .tuple #[.agg #[.int .i64 tn, .int .i64 td], .int .i64 0]) (by simp [results, Tryz.results21, go_sem, t0, t1]) rfl ⟨rfl, by first | exact B3 | exact (B3.setCell (by simp) _).setCell (by simp) _⟩
end Go.Proofs.YtaipdckakgohjaaGreatDoor

/- surtitlelaw5.known: the walk. -/
namespace Go.Proofs.YtaipdckakgohjaaGreatDoor
open Go.RowKit Go.Shelf
attribute [local go_sem] Oper.semAt_some bs_toList

theorem RateAt.at {V : World} {B R2 : Nat} {n d : Int} {dr : Bool} (h : RateAt V B n d dr) (e : B = R2) : RateAt V R2 n d dr := e ▸ h
set_option maxRecDepth 100000 in
set_option maxHeartbeats 2000000 in
theorem known5_walk (w : World)
    (H1 : ∀ w, Calls Tryz.prog 21 #[.agg #[.int .i64 24000, .int .i64 1001, .bool false], .int .i64 24] w fun e w' => e = .returned (.tuple #[.agg #[.int .i64 1001, .int .i64 1000], .int .i64 0]) ∧ Below w.heap.size w w')
    (H2 : ∀ w0, Below w.heap.size w w0 → Calls Tryz.prog 17 #[.int .i64 1, .agg #[.int .i64 7, .int .i64 2]] w0 fun e w' => e = .returned (.tuple #[.string ⟨#[48, 48, 58, 48, 48, 58, 48, 51, 44, 53, 48, 48]⟩, .int .i64 0]) ∧ Below w0.heap.size w0 w')
    (H3 : ∀ w0, Below w.heap.size w w0 → Calls Tryz.prog 22 #[.agg #[.int .i64 30000, .int .i64 1001, .bool true], .int .i64 1800] w0 fun e w' => e = .returned (.tuple #[.string ⟨#[48, 48, 58, 48, 49, 58, 48, 48, 59, 48, 50]⟩, .int .i64 0]) ∧ Below w0.heap.size w0 w')
    (H4 : ∀ w, Calls Tryz.prog 23 #[.agg #[.int .i64 30000, .int .i64 1001, .bool true], .string ⟨#[48, 48, 58, 48, 49, 58, 48, 48, 59, 48, 49]⟩] w fun e w' => e = .returned (.tuple #[.int .i64 0, .int .i64 15]) ∧ Below w.heap.size w w') :
    Calls Tryz.prog 6 #[] w fun e w' => e = .returned (.bool true) ∧ Below w.heap.size w w' := by
  have H1 := hideR H1
  have H2 := hideR H2
  have H3 := hideR H3
  have H4 := hideR H4
  go_enter Tryz.func6, Tryz.ntmps6
  go_wp2_with fail
  go_at_call 21
  refine (H1.out _).mono ?_
  rintro e w1 ⟨rfl, b1⟩
  have A1 := (((RateAt.new w 24000 1001 false).alloc (.cells #[.int .i64 30000, .int .i64 1001, .bool true] 31)).keep b1).alloc (.cells #[.int .i64 1001, .int .i64 1000] 24)
  have V1 := (((RateAt.new (w.alloc (.cells #[.int .i64 24000, .int .i64 1001, .bool false] 31)) 30000 1001 true).keep b1).at (R2 := w.heap.size + 1) (by simp)).alloc (.cells #[.int .i64 1001, .int .i64 1000] 24)
  have B1 := bup (bup (bel2 w _ _) b1) (bel1 w1 (.cells #[.int .i64 1001, .int .i64 1000] 24))
  clear b1
  have T1 := Two.new w1 (.int .i64 1001) (.int .i64 1000) 24
  obtain ⟨_, a0, a1, a2⟩ := id A1
  obtain ⟨_, v0, v1, v2⟩ := id V1
  obtain ⟨_, t0, t1, t2, t3⟩ := id T1
  go_wp2_with fail
  go_at_call 17
  refine (H2.out _ B1).mono ?_
  rintro e w2 ⟨rfl, b2⟩
  have A2 := (A1.keep b2)
  have V2 := (V1.keep b2)
  have T2 := (T1.keep b2)
  have B2 := bup B1 b2
  clear A1 V1 T1 B1 a0 a1 a2 v0 v1 v2 t0 t1 t2 t3
  clear b2
  obtain ⟨_, a0, a1, a2⟩ := id A2
  obtain ⟨_, v0, v1, v2⟩ := id V2
  obtain ⟨_, t0, t1, t2, t3⟩ := id T2
  go_wp2_with fail
  go_at_call 22
  refine (H3.out _ B2).mono ?_
  rintro e w3 ⟨rfl, b3⟩
  have A3 := (A2.keep b3)
  have V3 := (V2.keep b3)
  have T3 := (T2.keep b3)
  have B3 := bup B2 b3
  clear A2 V2 T2 B2 a0 a1 a2 v0 v1 v2 t0 t1 t2 t3
  clear b3
  obtain ⟨_, a0, a1, a2⟩ := id A3
  obtain ⟨_, v0, v1, v2⟩ := id V3
  obtain ⟨_, t0, t1, t2, t3⟩ := id T3
  go_wp2_with fail
  go_at_call 23
  refine (H4.out _).mono ?_
  rintro e w4 ⟨rfl, b4⟩
  have A4 := (A3.keep b4)
  have V4 := (V3.keep b4)
  have T4 := (T3.keep b4)
  have B4 := bup B3 b4
  clear A3 V3 T3 B3 a0 a1 a2 v0 v1 v2 t0 t1 t2 t3
  clear b4
  obtain ⟨_, a0, a1, a2⟩ := id A4
  obtain ⟨_, v0, v1, v2⟩ := id V4
  obtain ⟨_, t0, t1, t2, t3⟩ := id T4
  go_wp2_with fail
  go_ret
  exact ⟨rfl, B4⟩
end Go.Proofs.YtaipdckakgohjaaGreatDoor

/- Package code: contracts of Grid, Time, Label; surtitlelaw5.known. -/
namespace Go.Proofs.YtaipdckakgohjaaGreatDoor
open Go.RowKit Go.Shelf

theorem low_in (q : Rat) : RtIn (low q).1 := by
  unfold low
  split
  · rename_i h
    have := of_decide_eq_true h
    have := q.den_pos
    unfold RtIn I64
    simp only
    omega
  · unfold RtIn I64
    simp
theorem mulA_in (a b : Rt) : RtIn (mulA a b).1 := by
  unfold mulA
  split
  · exact low_in _
  · unfold RtIn I64 bad; simp
theorem check_two (n d : Int) (dr : Bool) : checkI n d dr = 0 ∨ checkI n d dr = 14 := by
  unfold checkI
  split
  · exact .inl rfl
  · exact .inr rfl
def gridF (n d : Int) (dr : Bool) : Rt × Int := if checkI n d dr = 0 then (⟨d, n⟩, 0) else bad 14
theorem grid_any (n d : Int) (dr : Bool) (hn : I64 n) (hd : I64 d) (w : World) :
    Calls Tryz.prog 54 #[.agg #[.int .i64 n, .int .i64 d, .bool dr]] w fun e w' => e = .returned (.tuple #[rtv (gridF n d dr).1, .int .i64 (gridF n d dr).2]) ∧ Below w.heap.size w w' := by
  have HC := check_any n d dr hn hd
  unfold gridF
  by_cases h : checkI n d dr = 0
  · rw [if_pos h]
    rw [h] at HC
    exact grid_ok n d dr w HC
  · rw [if_neg h]
    have h14 := (check_two n d dr).resolve_left h
    rw [h14] at HC
    exact grid_bad n d 14 dr rfl w HC
def timeF (n d : Int) (dr : Bool) (fr : Int) : Rt × Int :=
  if checkI n d dr = 0 then (if (mulA ⟨fr, 1⟩ ⟨d, n⟩).2 = 0 ∧ timeA (mulA ⟨fr, 1⟩ ⟨d, n⟩).1 = 0 then ((mulA ⟨fr, 1⟩ ⟨d, n⟩).1, 0) else bad 31) else bad 14
theorem ctime_any (n d : Int) (dr : Bool) (hn : I64 n) (hd : I64 d) (fr : Int) (hf : I64 fr) (w : World) :
    Calls Tryz.prog 21 #[.agg #[.int .i64 n, .int .i64 d, .bool dr], .int .i64 fr] w fun e w' => e = .returned (.tuple #[rtv (timeF n d dr fr).1, .int .i64 (timeF n d dr fr).2]) ∧ Below w.heap.size w w' := by
  have HG := grid_any n d dr hn hd
  unfold gridF at HG
  unfold timeF
  by_cases h : checkI n d dr = 0
  · rw [if_pos h]
    rw [if_pos h] at HG
    have HM := mul_any ⟨fr, 1⟩ ⟨d, n⟩ ⟨hf, by unfold I64; simp⟩ ⟨hd, hn⟩
    have HT := time_any _ (mulA_in ⟨fr, 1⟩ ⟨d, n⟩)
    by_cases h1 : (mulA ⟨fr, 1⟩ ⟨d, n⟩).2 = 0
    · rw [h1] at HM
      by_cases h2 : timeA (mulA ⟨fr, 1⟩ ⟨d, n⟩).1 = 0
      · rw [if_pos ⟨h1, h2⟩]
        rw [h2] at HT
        exact ctime_ok n d fr _ _ _ _ dr w HG HM HT
      · rw [if_neg fun x => h2 x.2]
        exact ctime_out n d fr _ _ _ _ _ dr (by simpa using h2) w HG HM HT
    · rw [if_neg fun x => h1 x.1]
      exact ctime_mul n d fr _ _ _ _ _ dr (by simpa using h1) w HG HM
  · rw [if_neg h]
    rw [if_neg h] at HG
    exact ctime_bad n d fr 14 dr rfl w HG
theorem full_ok (n d : Int) (dr : Bool) (h : checkI n d dr = 0) : (1 ≤ n ∧ n ≤ 240000) ∧ (1 ≤ d ∧ d ≤ 1001) ∧ d ≤ n ∧ n ≤ d * 240 ∧ Full (fullI n d) (if dr = true then leftI n d else 0) := by
  unfold checkI at h
  by_cases c : 1 ≤ n ∧ n ≤ 240000 ∧ 1 ≤ d ∧ d ≤ 1001 ∧ d ≤ n ∧ n ≤ d * 240 ∧ rightB ⟨n, d⟩ = true ∧ (dr = true → leftI n d ≠ 0)
  · obtain ⟨c1, c2, c3, c4, c5, c6, _, _⟩ := c
    refine ⟨⟨c1, c2⟩, ⟨c3, c4⟩, c5, c6, ?_⟩
    have f1 : 1 ≤ fullI n d := by
      unfold fullI
      exact (Int.le_ediv_iff_mul_le (by omega)).2 (by omega)
    have f2 : fullI n d ≤ 240 := by
      unfold fullI
      have : (n + d - 1) / d < 241 := (Int.ediv_lt_iff_lt_mul (by omega)).2 (by omega)
      omega
    have f3 : 0 ≤ leftI n d ∧ leftI n d ≤ 4 := by
      unfold leftI
      split
      · omega
      · split <;> omega
    unfold Full
    split <;> omega
  · rw [if_neg c] at h
    cases h
theorem known5_any (w : World) (hp : PowAt w) :
    Calls Tryz.prog 6 #[] w fun e w' => e = .returned (.bool true) ∧ Below w.heap.size w w' := by
  have T1 := ctime_any 24000 1001 false (by unfold I64; simp) (by unfold I64; simp) 24 (by unfold I64; simp)
  rw [show timeF 24000 1001 false 24 = (⟨1001, 1000⟩, 0) by kernel_rfl] at T1
  have T3 := ctime_any 30000 1001 true (by unfold I64; simp) (by unfold I64; simp) 1800 (by unfold I64; simp)
  rw [show timeF 30000 1001 true 1800 = (⟨3003, 50⟩, 0) by kernel_rfl] at T3
  have C3 := check_any 30000 1001 true (by unfold I64; simp) (by unfold I64; simp)
  rw [show checkI 30000 1001 true = 0 by kernel_rfl] at C3
  have N3 := count_any 30000 1001 true (by simp) (by simp)
  rw [show fullI 30000 1001 = 30 by rfl, if_pos rfl, show leftI 30000 1001 = 2 by rfl] at N3
  have D3 := cdial_any 30 2 true (by simp)
  rw [if_pos rfl, if_neg (by simp)] at D3
  have U3 := cnumber_any 30 2 1800 (by unfold Full; simp) (by simp)
  rw [show numI 30 2 1800 = 1802 by rfl] at U3
  have K2 := mul_any ⟨7, 2⟩ ⟨1000, 1⟩ (by unfold RtIn I64; simp) (by unfold RtIn I64; simp)
  rw [show mulA ⟨7, 2⟩ ⟨1000, 1⟩ = (⟨3500, 1⟩, 0) by kernel_rfl] at K2
  have K3 := time_any ⟨7, 2⟩ (by unfold RtIn I64; simp)
  rw [show timeA ⟨7, 2⟩ = 0 by kernel_rfl] at K3
  have O2 := dialOf_any 1
  rw [if_pos rfl] at O2
  have W2 := fun (w0 : World) (b0 : Below w.heap.size w w0) => write_any 2 44 1000 3 3500 false (by omega) (by omega) (by omega) (by omega) w0 (hp.keep b0)
  rw [show dialL 2 44 1000 3 3500 = [48, 48, 58, 48, 48, 58, 48, 51, 44, 53, 48, 48] by kernel_rfl] at W2
  have W3 := fun (w0 : World) (b0 : Below w.heap.size w w0) => write_any 2 59 30 2 1802 false (by omega) (by omega) (by omega) (by omega) w0 (hp.keep b0)
  rw [show dialL 2 59 30 2 1802 = [48, 48, 58, 48, 49, 58, 48, 48, 59, 48, 50] by kernel_rfl] at W3
  have R0 := hours_any 2 59 30 2 false [48, 48, 58] (by simp)
  rw [show hoursA 2 false [48, 48, 58] = (0, true) by kernel_rfl] at R0
  have R1 := fun w => below_walk 60 1 true [48, 49] w (digits_tup [48, 49] (by simp) 1 true (by kernel_rfl))
  have R2 := fun w => below_walk 60 0 true [48, 48] w (digits_tup [48, 48] (by simp) 0 true (by kernel_rfl))
  have R3 := fun w => below_walk 30 1 true [48, 49] w (digits_tup [48, 49] (by simp) 1 true (by kernel_rfl))
  have RD := fun w => read_walk 2 30 2 3 5 6 8 9 59 false [48, 48, 58, 48, 49, 58, 48, 48, 59, 48, 49] [48, 48, 58] [48, 49] [48, 48] [48, 49] 0 1 0 1 true true true true (by simp) (by simp) rfl rfl rfl rfl (by omega) (by decide) (by decide) rfl rfl (by kernel_rfl) (by kernel_rfl) (by kernel_rfl) (by kernel_rfl) (by omega) (fun _ => ⟨by omega, by omega, by omega, by omega⟩) w R0 R1 R2 R3
  have SK := fun w => skips_walk 30 2 1801 1800 1 1 1 (by omega) (by omega) rfl (by omega) rfl rfl (by omega) w (minute_any 30 2 (by omega))
  exact known5_walk w T1 (fun w0 b0 => clock_walk 1 7 2 _ _ _ _ 3500 false _ w0 O2 K3 K2 (fun w1 b1 => W2 w1 (bup b0 b1)))
    (fun w0 b0 => label_walk 30000 1001 1800 _ _ 30 2 _ _ _ _ 1802 true false _ w0 T3 N3 D3 U3 (fun w1 b1 => W3 w1 (bup b0 b1)))
    (fun w => number_drop 30000 1001 30 2 _ _ _ _ 1801 true false _ w C3 N3 D3 RD SK)
end Go.Proofs.YtaipdckakgohjaaGreatDoor

/- Package code: Frame, made whole in way 1. -/
namespace Go.Proofs.YtaipdckakgohjaaGreatDoor
open Go.RowKit Go.Shelf
attribute [local go_sem] Oper.semAt_some

end Go.Proofs.YtaipdckakgohjaaGreatDoor

/- Package code: Frame, made whole in way 2. -/
namespace Go.Proofs.YtaipdckakgohjaaGreatDoor
open Go.RowKit Go.Shelf
attribute [local go_sem] Oper.semAt_some

end Go.Proofs.YtaipdckakgohjaaGreatDoor

/- Package code: Frame, made whole in way 3. -/
namespace Go.Proofs.YtaipdckakgohjaaGreatDoor
open Go.RowKit Go.Shelf
attribute [local go_sem] Oper.semAt_some

end Go.Proofs.YtaipdckakgohjaaGreatDoor

/- Package code: the contract of Frame. -/
namespace Go.Proofs.YtaipdckakgohjaaGreatDoor
open Go.RowKit Go.Shelf

theorem time_ok {t : Rt} (h : timeA t = 0) : rightB t = true ∧ 1 ≤ t.D ∧ t.D ≤ 1048576 ∧ 0 ≤ t.N ∧ t.N ≤ 360000 * t.D := by
  unfold timeA at h
  by_cases c : rightB t = true ∧ t.D ≤ 1048576
  · rw [if_pos c] at h
    have ri := (right_iff t).1 c.1
    by_cases c2 : t.N < 0 ∨ 0 < cmpI t ⟨360000, 1⟩
    · rw [if_pos c2] at h
      cases h
    · refine ⟨c.1, ri.1, c.2, by omega, ?_⟩
      unfold cmpI at c2
      simp only [Int.mul_one] at c2
      by_cases c3 : t.N < 360000 * t.D
      · omega
      · rw [if_neg c3] at c2
        by_cases c4 : 360000 * t.D < t.N
        · rw [if_pos c4] at c2
          omega
        · omega
  · rw [if_neg c] at h
    cases h
theorem whole_scale (how g P Q : Int) (hg : 0 < g) : wholeI how (g * P) (g * Q) = wholeI how P Q := by
  unfold wholeI
  split
  · exact Int.mul_ediv_mul_of_pos _ _ hg
  · split
    · rw [show 2 * (g * P) + g * Q = g * (2 * P + Q) by rw [Int.mul_add, Int.mul_left_comm], show 2 * (g * Q) = g * (2 * Q) by rw [Int.mul_left_comm]]
      exact Int.mul_ediv_mul_of_pos _ _ hg
    · rw [show -(g * P) = g * (-P) by rw [Int.mul_neg]]
      rw [Int.mul_ediv_mul_of_pos _ _ hg]
theorem whole_bound (how P Q : Int) (hP : 0 ≤ P) (hQ : 0 < Q) : 0 ≤ wholeI how P Q ∧ wholeI how P Q ≤ P + 1 := by
  have d0 : 0 ≤ P / Q := Int.ediv_nonneg hP (by omega)
  have d1 : P / Q ≤ P := Int.ediv_le_self _ hP
  unfold wholeI
  split
  · omega
  · split
    · have a0 : 0 ≤ (2 * P + Q) / (2 * Q) := Int.ediv_nonneg (by omega) (by omega)
      have a1 : (2 * P + Q) / (2 * Q) ≤ P + 1 := by
        have h : (2 * P + Q) / (2 * Q) < P + 2 := (Int.ediv_lt_iff_lt_mul (by omega)).2 (by
          have : P * 1 ≤ P * Q := Int.mul_le_mul_of_nonneg_left (by omega) hP
          rw [Int.add_mul, show P * (2 * Q) = 2 * (P * Q) by rw [Int.mul_left_comm]]
          omega)
        omega
      omega
    · have a0 : -P / Q ≤ 0 := by
        have : -P / Q < 1 := (Int.ediv_lt_iff_lt_mul hQ).2 (by omega)
        omega
      have a1 : -P ≤ -P / Q := (Int.le_ediv_iff_mul_le hQ).2 (by
        have : P * 1 ≤ P * Q := Int.mul_le_mul_of_nonneg_left (by omega) hP
        rw [Int.neg_mul]
        omega)
      omega
/-- A time by a rate: a right ratio, made whole as the product itself. -/
theorem mul_time (t : Rt) (n d how : Int) (ht : timeA t = 0) (hr : rightB ⟨n, d⟩ = true) (hn : 1 ≤ n ∧ n ≤ 240000) (hd : 1 ≤ d ∧ d ≤ 1001) (hh : howB how = true) :
    (mulA t ⟨n, d⟩).2 = 0 ∧ wholeA (mulA t ⟨n, d⟩).1 1 how = (wholeI how (t.N * n) (t.D * d), 0) := by
  obtain ⟨tr, t1, t2, t3, t4⟩ := time_ok ht
  rw [mulA_right tr hr, val_mul]
  simp only
  obtain ⟨P, hP⟩ : ∃ P, t.N * n = P := ⟨_, rfl⟩
  obtain ⟨Q, hQ⟩ : ∃ Q, t.D * d = Q := ⟨_, rfl⟩
  have P0 : 0 ≤ P := by rw [← hP]; exact Int.mul_nonneg t3 (by omega)
  have P1 : P ≤ 377487360000 * 240000 := by rw [← hP]; exact Int.mul_le_mul (by omega) hn.2 (by omega) (by omega)
  have Q0 : 0 < Q := by rw [← hQ]; exact Int.mul_pos (by omega) (by omega)
  have Q1 : Q ≤ 1048576 * 1001 := by rw [← hQ]; exact Int.mul_le_mul t2 hd.2 (by omega) (by omega)
  rw [hP, hQ]
  clear hP hQ
  obtain ⟨g, hg⟩ : ∃ g : Nat, P.natAbs.gcd Q.natAbs = g := ⟨_, rfl⟩
  have g0 : 0 < g := by rw [← hg]; exact Nat.gcd_pos_of_pos_right _ (by omega)
  have e1 : (g : Int) * (P / g) = P := Int.mul_ediv_cancel' (by rw [← hg]; exact Int.ofNat_dvd_left.2 (Nat.gcd_dvd_left _ _))
  have e2 : (g : Int) * (Q / g) = Q := Int.mul_ediv_cancel' (by rw [← hg]; exact Int.ofNat_dvd_left.2 (Nat.gcd_dvd_right _ _))
  have n1 := q_num P Q Q0
  have n2 := q_den P Q Q0
  rw [hg] at n1 n2
  have b1 : 0 ≤ P / g := Int.ediv_nonneg P0 (by omega)
  have b2 : P / g ≤ P := Int.ediv_le_self _ P0
  have b3 : Q / g ≤ Q := Int.ediv_le_self _ (by omega)
  have fits : fitsQ (Rat.divInt P Q) = true := by
    unfold fitsQ
    rw [n1, n2, decide_eq_true_iff]
    omega
  rw [low_fits _ fits]
  refine ⟨rfl, ?_⟩
  have hw := whole_scale how g (P / g) (Q / g) (by omega)
  rw [e1, e2] at hw
  have wb := whole_bound how P Q P0 Q0
  have rr := low_ok_right (Rat.divInt P Q) (by rw [low_fits _ fits])
  rw [low_fits _ fits] at rr
  unfold wholeA
  rw [if_pos rr.1, if_pos hh]
  simp only [Int.mul_one]
  rw [n1, n2, ← hw]
  rw [if_pos (by unfold inNum; rw [decide_eq_true_iff]; omega)]
def frameF (n d : Int) (dr : Bool) (t : Rt) (how : Int) : Int × Int :=
  if checkI n d dr = 0 then (if timeA t = 0 then (if howB how = true then (wholeI how (t.N * n) (t.D * d), 0) else (0, 5)) else (0, timeA t)) else (0, 14)
theorem check_right {n d : Int} {dr : Bool} (h : checkI n d dr = 0) : rightB ⟨n, d⟩ = true := by
  unfold checkI at h
  by_cases c : 1 ≤ n ∧ n ≤ 240000 ∧ 1 ≤ d ∧ d ≤ 1001 ∧ d ≤ n ∧ n ≤ d * 240 ∧ rightB ⟨n, d⟩ = true ∧ (dr = true → leftI n d ≠ 0)
  · exact c.2.2.2.2.2.2.1
  · rw [if_neg c] at h
    cases h
end Go.Proofs.YtaipdckakgohjaaGreatDoor

/- Package code: Time outright; Label. -/
namespace Go.Proofs.YtaipdckakgohjaaGreatDoor
open Go.RowKit Go.Shelf

theorem check_flip {n d : Int} {dr : Bool} (h : checkI n d dr = 0) : rightB ⟨d, n⟩ = true := by
  have r := (right_iff ⟨n, d⟩).1 (check_right h)
  obtain ⟨n1, d1, _, _, _⟩ := full_ok n d dr h
  rw [right_iff]
  have g : d.natAbs.gcd n.natAbs = 1 := by rw [Nat.gcd_comm]; exact r.2.2.2.2
  exact ⟨by simp only; omega, by simp only; omega, by simp only; omega, by simp only; omega, g⟩
theorem time_form (n d : Int) (dr : Bool) (fr : Int) (h : checkI n d dr = 0) :
    timeF n d dr fr = if 0 ≤ fr ∧ fr * d ≤ 360000 * n then ((low (Rat.divInt (fr * d) n)).1, 0) else bad 31 := by
  obtain ⟨n1, d1, _, _, _⟩ := full_ok n d dr h
  have rf := check_flip h
  unfold timeF
  rw [if_pos h]
  by_cases hr : rightB ⟨fr, 1⟩ = true
  · rw [mulA_right hr rf, val_mul]
    simp only [Int.one_mul]
    obtain ⟨P, hP⟩ : ∃ P, fr * d = P := ⟨_, rfl⟩
    rw [hP]
    have Ps : (0 ≤ fr → 0 ≤ P) ∧ (fr < 0 → P < 0) := by
      rw [← hP]
      exact ⟨fun x => Int.mul_nonneg x (by omega), fun x => Int.mul_neg_of_neg_of_pos x (by omega)⟩
    obtain ⟨g, hg⟩ : ∃ g : Nat, P.natAbs.gcd n.natAbs = g := ⟨_, rfl⟩
    have g0 : 0 < g := by rw [← hg]; exact Nat.gcd_pos_of_pos_right _ (by omega)
    have e1 : (g : Int) * (P / g) = P := Int.mul_ediv_cancel' (by rw [← hg]; exact Int.ofNat_dvd_left.2 (Nat.gcd_dvd_left _ _))
    have e2 : (g : Int) * (n / g) = n := Int.mul_ediv_cancel' (by rw [← hg]; exact Int.ofNat_dvd_left.2 (Nat.gcd_dvd_right _ _))
    have q1 := q_num P n (by omega)
    have q2 := q_den P n (by omega)
    rw [hg] at q1 q2
    have b3 : n / g ≤ n := Int.ediv_le_self _ (by omega)
    have b4 : 0 < n / g := by
      refine Int.lt_of_not_ge fun x => ?_
      have : (g : Int) * (n / g) ≤ g * 0 := Int.mul_le_mul_of_nonneg_left x (by omega)
      omega
    have cmp : ∀ k : Int, P / g ≤ k * (n / g) ↔ P ≤ k * n := by
      intro k
      constructor
      · intro x
        have := Int.mul_le_mul_of_nonneg_left x (show (0 : Int) ≤ g by omega)
        rw [e1, Int.mul_left_comm, e2] at this
        exact this
      · intro x
        refine Int.le_of_not_gt fun y => ?_
        have := Int.mul_lt_mul_of_pos_left y (show (0 : Int) < g by omega)
        rw [e1, Int.mul_left_comm, e2] at this
        omega
    by_cases hf : fitsQ (Rat.divInt P n) = true
    · rw [low_fits _ hf]
      have rr := low_ok_right (Rat.divInt P n) (by rw [low_fits _ hf])
      rw [low_fits _ hf] at rr
      simp only
      have ta : timeA ⟨(Rat.divInt P n).num, (Rat.divInt P n).den⟩ = if (Rat.divInt P n).num < 0 ∨ 0 < cmpI ⟨(Rat.divInt P n).num, (Rat.divInt P n).den⟩ ⟨360000, 1⟩ then 31 else 0 := by
        unfold timeA
        rw [if_pos ⟨rr.1, by simp only; rw [q2]; omega⟩]
      have cm : 0 < cmpI ⟨(Rat.divInt P n).num, (Rat.divInt P n).den⟩ ⟨360000, 1⟩ ↔ ¬ P ≤ 360000 * n := by
        rw [← cmp 360000]
        unfold cmpI
        simp only [Int.mul_one]
        rw [q1, q2]
        split
        · omega
        · split <;> omega
      have sg : (Rat.divInt P n).num < 0 ↔ P < 0 := by
        rw [q1]
        have := cmp (-1)
        constructor
        · intro x
          refine Int.lt_of_not_ge fun y => ?_
          have := Int.ediv_nonneg y (show (0 : Int) ≤ g by omega)
          omega
        · intro x
          refine Int.lt_of_not_ge fun y => ?_
          have := Int.mul_nonneg (show (0 : Int) ≤ g by omega) y
          omega
      by_cases c : 0 ≤ fr ∧ P ≤ 360000 * n
      · rw [if_pos c, if_pos ⟨trivial, by rw [ta, if_neg]; intro x; rcases x with x | x; exact absurd (sg.1 x) (by have := Ps.1 c.1; omega); exact cm.1 x c.2⟩]
      · rw [if_neg c, if_neg]
        rintro ⟨_, x⟩
        rw [ta] at x
        by_cases c2 : (Rat.divInt P n).num < 0 ∨ 0 < cmpI ⟨(Rat.divInt P n).num, (Rat.divInt P n).den⟩ ⟨360000, 1⟩
        · rw [if_pos c2] at x
          cases x
        · refine c ⟨?_, ?_⟩
          · refine Int.le_of_not_gt fun y => c2 (.inl (sg.2 (Ps.2 y)))
          · refine Decidable.byContradiction fun y => c2 (.inr (cm.2 y))
    · rw [Bool.not_eq_true] at hf
      rw [low_not _ hf]
      rw [if_neg (by simp), if_neg]
      rintro ⟨x, y⟩
      have p0 := Ps.1 x
      have b1 : 0 ≤ P / g := Int.ediv_nonneg p0 (by omega)
      have b2 : P / g ≤ P := Int.ediv_le_self _ p0
      unfold fitsQ at hf
      rw [q1, q2, decide_eq_false_iff_not] at hf
      omega
  · have e : mulA ⟨fr, 1⟩ ⟨d, n⟩ = bad 12 := by
      unfold mulA
      rw [if_neg (by simp [hr])]
    rw [e, if_neg (by unfold bad; simp), if_neg]
    rintro ⟨x, y⟩
    refine hr ((right_iff _).2 ⟨by simp, by simp, by simp only; omega, ?_, by simp⟩)
    simp only
    have : fr * 1 ≤ fr * d := Int.mul_le_mul_of_nonneg_left (by omega) x
    omega
theorem num_bound (f l fr : Int) (h : Full f l) (hf : 0 ≤ fr ∧ fr ≤ 1000000000) : 0 ≤ numI f l fr ∧ numI f l fr ≤ 1000000000000 := by
  obtain ⟨f1, f2, l1, l2⟩ := h
  have T0 : 0 < 600 * f - 9 * l := by omega
  have q0 : 0 ≤ fr / (600 * f - 9 * l) := Int.ediv_nonneg hf.1 (by omega)
  have r0 := Int.emod_nonneg fr (show 600 * f - 9 * l ≠ 0 by omega)
  have r1 := Int.emod_lt_of_pos fr T0
  have dm := Int.mul_ediv_add_emod fr (600 * f - 9 * l)
  have a1 : fr / (600 * f - 9 * l) * (60 * f) ≤ fr / (600 * f - 9 * l) * (600 * f - 9 * l) := Int.mul_le_mul_of_nonneg_left (by omega) q0
  have a2 : 0 ≤ fr / (600 * f - 9 * l) * (60 * f) := Int.mul_nonneg q0 (by omega)
  have a3 : (600 * f - 9 * l) * (fr / (600 * f - 9 * l)) = fr / (600 * f - 9 * l) * (600 * f - 9 * l) := Int.mul_comm _ _
  have a4 : fr / (600 * f - 9 * l) * 10 * (60 * f) = 10 * (fr / (600 * f - 9 * l) * (60 * f)) := by rw [Int.mul_comm _ 10, Int.mul_assoc]
  unfold numI
  rw [a4]
  split
  · rename_i c
    have x0 : 0 ≤ (fr % (600 * f - 9 * l) - 60 * f) / (60 * f - l) := Int.ediv_nonneg (by omega) (by omega)
    have x1 : (fr % (600 * f - 9 * l) - 60 * f) / (60 * f - l) ≤ fr % (600 * f - 9 * l) - 60 * f := Int.ediv_le_self _ (by omega)
    have y0 : 0 ≤ l * (1 + (fr % (600 * f - 9 * l) - 60 * f) / (60 * f - l)) := Int.mul_nonneg l1 (by omega)
    have y1 : l * (1 + (fr % (600 * f - 9 * l) - 60 * f) / (60 * f - l)) ≤ 4 * 200000 := Int.mul_le_mul l2 (by omega) (by omega) (by omega)
    omega
  · omega
def labelF (n d : Int) (dr : Bool) (fr : Int) : List UInt8 :=
  dialL 2 (if dr = true then 59 else 58) (fullI n d).toNat (if 100 < fullI n d then 3 else 2) (numI (fullI n d) (if dr = true then leftI n d else 0) fr).toNat
theorem label_ok (n d : Int) (dr : Bool) (hn : I64 n) (hd : I64 d) (fr : Int) (hf : I64 fr) (h : checkI n d dr = 0) (hb : 0 ≤ fr ∧ fr * d ≤ 360000 * n) (w : World) (hp : PowAt w) :
    Calls Tryz.prog 22 #[.agg #[.int .i64 n, .int .i64 d, .bool dr], .int .i64 fr] w fun e w' => e = .returned (.tuple #[.string (bs (labelF n d dr fr)), .int .i64 0]) ∧ Below w.heap.size w w' := by
  obtain ⟨n1, d1, _, nd, hF⟩ := full_ok n d dr h
  have HT := ctime_any n d dr hn hd fr hf
  rw [time_form n d dr fr h, if_pos hb] at HT
  have fb : fr ≤ 1000000000 := by
    have y : fr * d ≤ 86400000 * d := by omega
    have := Int.le_of_mul_le_mul_right y (by omega)
    omega
  have nb := num_bound _ _ fr hF ⟨hb.1, fb⟩
  have HN := count_any n d dr n1 d1
  have HD := cdial_any (fullI n d) (if dr = true then leftI n d else 0) dr ⟨hF.1, hF.2.1⟩
  have HB := cnumber_any (fullI n d) (if dr = true then leftI n d else 0) fr hF ⟨hb.1, fb⟩
  have f1 := hF.1
  have f2 := hF.2.1
  have HW := fun (w0 : World) (b0 : Below w.heap.size w w0) => write_any 2 (if dr = true then 59 else 58) (fullI n d).toNat (if 100 < fullI n d then 3 else 2) (numI (fullI n d) (if dr = true then leftI n d else 0) fr).toNat false (by omega) (by split <;> omega) (by omega) (by omega) w0 (hp.keep b0)
  rw [show (((numI (fullI n d) (if dr = true then leftI n d else 0) fr).toNat : Nat) : Int) = numI (fullI n d) (if dr = true then leftI n d else 0) fr by omega, show (((fullI n d).toNat : Nat) : Int) = fullI n d by omega, show (((if 100 < fullI n d then 3 else 2 : Nat) : Nat) : Int) = (if 100 < fullI n d then (3 : Int) else 2) by split <;> rfl, show (((if dr = true then 59 else 58 : UInt8).toNat : Nat) : Int) = (if dr = true then (59 : Int) else 58) by split <;> rfl] at HW
  exact label_walk n d fr _ _ _ _ _ _ _ _ _ dr false _ w HT HN HD HB HW
theorem label_no (n d : Int) (dr : Bool) (hn : I64 n) (hd : I64 d) (fr : Int) (hf : I64 fr) (h : checkI n d dr = 0) (hb : ¬ (0 ≤ fr ∧ fr * d ≤ 360000 * n)) (w : World) :
    Calls Tryz.prog 22 #[.agg #[.int .i64 n, .int .i64 d, .bool dr], .int .i64 fr] w fun e w' => e = .returned (.tuple #[.string ⟨#[]⟩, .int .i64 31]) ∧ Below w.heap.size w w' := by
  have HT := ctime_any n d dr hn hd fr hf
  rw [time_form n d dr fr h, if_neg hb] at HT
  exact label_bad n d fr 0 0 31 dr rfl w HT
end Go.Proofs.YtaipdckakgohjaaGreatDoor
