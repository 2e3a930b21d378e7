/- The contract of surtitleref3.Whole. -/
import Derived.Test.YtmofjkfghidlnaaDoorRefB2
import Derived.Test.YtmofjkfghidlnaaDoorRatW13
import Derived.Deep.RegionHeld3
namespace Go.Proofs.YtmofjkfghidlnaaDoor
open Go.RowKit Go.Shelf
attribute [local go_sem] Oper.semAt_some

theorem two_c {V : World} {A : Nat} {a0 a1 : Value} (x : Two V A a0 a1) : V.cell? ⟨A, 0, none⟩ = some a0 ∧ V.cell? ⟨A, 1, none⟩ = some a1 := ⟨x.2.1, x.2.2.1⟩

set_option maxRecDepth 100000 in
set_option maxHeartbeats 1000000 in
theorem rWhole_not (an ad t how : Int)
    (HR : ∀ w, Calls Tryd.prog 22 #[.agg #[.int .i64 an, .int .i64 ad]] w fun e w' => e = .returned (.bool false) ∧ Below w.heap.size w w') (w : World) :
    Calls Tryd.prog 42 #[.agg #[.int .i64 an, .int .i64 ad], .int .i64 t, .int .i64 how] w fun e w' => e = .returned (.tuple #[.int .i64 0, .int .i64 12]) ∧ Below w.heap.size w w' := by
  have HR := hideR HR
  go_enter Tryd.func42, Tryd.ntmps42
  go_wp2_with fail
  go_at_call 22
  refine Calls.mono (HR.out _) ?_
  rintro e V ⟨rfl, b1⟩
  have T0 := (Two.new w (.int .i64 an) (.int .i64 ad) 26).keep b1
  have B0 := bup (bel1 w _) b1
  clear b1
  have z0 : w.heap.size < V.heap.size := T0.1
  obtain ⟨_, t0, t1, _, _⟩ := id T0
  go_wp2_with fail
  go_ret2
  exact ⟨rfl, B0⟩

set_option maxRecDepth 100000 in
set_option maxHeartbeats 1000000 in
theorem rWhole_arg (an ad t how : Int) (hh : how < 1 ∨ (¬ how < 1 ∧ 3 < how))
    (HR : ∀ w, Calls Tryd.prog 22 #[.agg #[.int .i64 an, .int .i64 ad]] w fun e w' => e = .returned (.bool true) ∧ Below w.heap.size w w') (w : World) :
    Calls Tryd.prog 42 #[.agg #[.int .i64 an, .int .i64 ad], .int .i64 t, .int .i64 how] w fun e w' => e = .returned (.tuple #[.int .i64 0, .int .i64 1]) ∧ Below w.heap.size w w' := by
  have HR := hideR HR
  rcases hh with hh | ⟨h1, hh⟩
  · go_enter Tryd.func42, Tryd.ntmps42
    go_wp2_with fail
    go_at_call 22
    refine Calls.mono (HR.out _) ?_
    rintro e V ⟨rfl, b1⟩
    have T0 := (Two.new w (.int .i64 an) (.int .i64 ad) 26).keep b1
    have B0 := bup (bel1 w _) b1
    clear b1
    have z0 : w.heap.size < V.heap.size := T0.1
    obtain ⟨_, t0, t1, _, _⟩ := id T0
    go_wp2_with fail
    go_ret2
    exact ⟨rfl, B0⟩
  · go_enter Tryd.func42, Tryd.ntmps42
    go_wp2_with fail
    go_at_call 22
    refine Calls.mono (HR.out _) ?_
    rintro e V ⟨rfl, b1⟩
    have T0 := (Two.new w (.int .i64 an) (.int .i64 ad) 26).keep b1
    have B0 := bup (bel1 w _) b1
    clear b1
    have z0 : w.heap.size < V.heap.size := T0.1
    obtain ⟨_, t0, t1, _, _⟩ := id T0
    go_wp2_with fail
    go_ret2
    exact ⟨rfl, B0⟩

set_option maxRecDepth 100000 in
set_option maxHeartbeats 4000000 in
theorem rWhole_walkF (an ad t how : Int) (pn dn xn : Bool) (ph pl dh dl xh xl : Int) (h1 : ¬ how < 1) (h3 : ¬ 3 < how)
    (HR : ∀ w, Calls Tryd.prog 22 #[.agg #[.int .i64 an, .int .i64 ad]] w fun e w' => e = .returned (.bool true) ∧ Below w.heap.size w w')
    (HP : ∀ w, Calls Tryd.prog 61 #[.int .i64 an, .int .i64 t] w fun e w' => e = .returned (.agg #[.bool pn, .int .u64 ph, .int .u64 pl]) ∧ Below w.heap.size w w')
    (HD : ∀ w, Calls Tryd.prog 61 #[.int .i64 ad, .int .i64 1] w fun e w' => e = .returned (.agg #[.bool dn, .int .u64 dh, .int .u64 dl]) ∧ Below w.heap.size w w')
    (HW : ∀ w, Calls Tryd.prog 76 #[.agg #[.bool pn, .int .u64 ph, .int .u64 pl], .agg #[.bool dn, .int .u64 dh, .int .u64 dl], .int .i64 how] w fun e w' => e = .returned (.agg #[.bool xn, .int .u64 xh, .int .u64 xl]) ∧ Below w.heap.size w w')
    (HF : ∀ w, Calls Tryd.prog 77 #[.agg #[.bool xn, .int .u64 xh, .int .u64 xl]] w fun e w' => e = .returned (.bool false) ∧ Below w.heap.size w w') (w : World) :
    Calls Tryd.prog 42 #[.agg #[.int .i64 an, .int .i64 ad], .int .i64 t, .int .i64 how] w fun e w' => e = .returned (.tuple #[.int .i64 0, .int .i64 12]) ∧ Below w.heap.size w w' := by
  have HR := hideR HR
  have HP := hideR HP
  have HD := hideR HD
  have HW := hideR HW
  have HF := hideR HF
  go_enter Tryd.func42, Tryd.ntmps42
  go_wp2_with fail
  go_at_call 22
  refine Calls.mono (HR.out _) ?_
  rintro e V ⟨rfl, b1⟩
  have T0 := (Two.new w (.int .i64 an) (.int .i64 ad) 26).keep b1
  have B0 := bup (bel1 w _) b1
  clear b1
  have z0 : w.heap.size < V.heap.size := T0.1
  obtain ⟨_, t0, t1, _, _⟩ := id T0
  go_wp2_with fail
  have SC := two_c T0
  go_region_held3 (fun w' => w'.cell? ⟨w.heap.size, 0, none⟩ = some (.int .i64 an) ∧ w'.cell? ⟨w.heap.size, 1, none⟩ = some (.int .i64 ad)) (first | assumption | exact two_c (T0.drew.alloc _) | exact two_c (T1.alloc _) | exact two_c (T2.alloc _) | exact two_c (T3.alloc _) | exact two_c (((T3.put1 (by omega)).put1 (by omega)).put1 (by omega)) | go_keep)
    (first
    | (go_at_call_of 61 an; refine (HP.out _).mono ?_; rintro e w1 ⟨rfl, b1⟩
       first
       | (have B1 : Below V.heap.size V w1 := bup (Below.refl _ _).drew b1
          have z1 := B1.size
          have T1 := T0.keep B1; have S1 := two_c T1)
       | (have B1 : Below V.heap.size V w1 := bup ((Below.refl _ _).drew.alloc (Nat.le_refl _) _) b1
          have z1 := B1.size
          have X1 : Tri w1 V.heap.size false 0 0 := (Tri.new V.drew false 0 0 76).keep b1
          have T1 := T0.keep B1; have S1 := two_c T1; obtain ⟨_, x0, x1, x2, x3, x4, x5⟩ := id X1))
    | (go_at_call_of 61 ad; refine (HD.out _).mono ?_; rintro e w2 ⟨rfl, b2⟩
       first
       | (have B2 : Below V.heap.size V w2 := bup B1 b2
          have z2 := B2.size
          have X2 := X1.keep b2
          have T2 := T0.keep B2; have S2 := two_c T2; obtain ⟨_, x0, x1, x2, x3, x4, x5⟩ := id X2)
       | (have B2 : Below V.heap.size V w2 := bup B1 b2
          have z2 := B2.size
          have T2 := T0.keep B2; have S2 := two_c T2)
       | (have B2 : Below V.heap.size V w2 := bup (bup B1 (bel1 w1 _)) b2
          have z2 := B2.size
          have X2 : Tri w2 w1.heap.size false 0 0 := (Tri.new w1 false 0 0 76).keep b2
          have T2 := T0.keep B2; have S2 := two_c T2; obtain ⟨_, x0, x1, x2, x3, x4, x5⟩ := id X2))
    | (go_at_call 76; refine (HW.out _).mono ?_; rintro e w3 ⟨rfl, b3⟩
       first
       | (have B3 : Below V.heap.size V w3 := bup B2 b3
          have z3 := B3.size
          have X3 := X2.keep b3
          have T3 := T0.keep B3; have S3 := two_c T3; obtain ⟨_, x0, x1, x2, x3, x4, x5⟩ := id X3)
       | (have B3 : Below V.heap.size V w3 := bup B2 b3
          have z3 := B3.size
          have T3 := T0.keep B3; have S3 := two_c T3)
       | (have B3 : Below V.heap.size V w3 := bup (bup B2 (bel1 w2 _)) b3
          have z3 := B3.size
          have X3 : Tri w3 w2.heap.size false 0 0 := (Tri.new w2 false 0 0 76).keep b3
          have T3 := T0.keep B3; have S3 := two_c T3; obtain ⟨_, x0, x1, x2, x3, x4, x5⟩ := id X3)))
  all_goals (try go_wp2_with fail)
  · have X4 := Tri.new w3 xn xh xl 76
    have B4 := bup (bup B0 B3) (bel1 w3 (.cells #[.bool xn, .int .u64 xh, .int .u64 xl] 76))
    go_at_call 77
    refine Calls.mono (HF.out _) ?_
    rintro e w5 ⟨rfl, b5⟩
    have X5 := X4.keep b5
    have B5 := bup B4 b5
    clear X4 B4 b5
    obtain ⟨_, y0, y1, y2, _, _, _⟩ := id X5
    go_wp2_with fail
    go_ret2
    exact ⟨rfl, B5⟩
  · have X4 := ((X3.set0 (n2 := xn)).set1 (h2 := xh)).set2 (l2 := xl)
    have B4 := (((bup B0 B3).setCell (p := ⟨w2.heap.size, 0, none⟩) (by simp; omega) (.bool xn)).setCell (p := ⟨w2.heap.size, 1, none⟩) (by simp; omega) (.int .u64 xh)).setCell (p := ⟨w2.heap.size, 2, none⟩) (by simp; omega) (.int .u64 xl)
    go_at_call 77
    refine Calls.mono (HF.out _) ?_
    rintro e w5 ⟨rfl, b5⟩
    have X5 := X4.keep b5
    have B5 := bup B4 b5
    clear X4 B4 b5
    obtain ⟨_, y0, y1, y2, _, _, _⟩ := id X5
    go_wp2_with fail
    go_ret2
    exact ⟨rfl, B5⟩
  · have X4 := ((X3.set0 (n2 := xn)).set1 (h2 := xh)).set2 (l2 := xl)
    have B4 := (((bup B0 B3).setCell (p := ⟨w1.heap.size, 0, none⟩) (by simp; omega) (.bool xn)).setCell (p := ⟨w1.heap.size, 1, none⟩) (by simp; omega) (.int .u64 xh)).setCell (p := ⟨w1.heap.size, 2, none⟩) (by simp; omega) (.int .u64 xl)
    go_at_call 77
    refine Calls.mono (HF.out _) ?_
    rintro e w5 ⟨rfl, b5⟩
    have X5 := X4.keep b5
    have B5 := bup B4 b5
    clear X4 B4 b5
    obtain ⟨_, y0, y1, y2, _, _, _⟩ := id X5
    go_wp2_with fail
    go_ret2
    exact ⟨rfl, B5⟩
  · have X4 := ((X3.set0 (n2 := xn)).set1 (h2 := xh)).set2 (l2 := xl)
    have B4 := (((bup B0 B3).setCell (p := ⟨V.heap.size, 0, none⟩) (by simp; omega) (.bool xn)).setCell (p := ⟨V.heap.size, 1, none⟩) (by simp; omega) (.int .u64 xh)).setCell (p := ⟨V.heap.size, 2, none⟩) (by simp; omega) (.int .u64 xl)
    go_at_call 77
    refine Calls.mono (HF.out _) ?_
    rintro e w5 ⟨rfl, b5⟩
    have X5 := X4.keep b5
    have B5 := bup B4 b5
    clear X4 B4 b5
    obtain ⟨_, y0, y1, y2, _, _, _⟩ := id X5
    go_wp2_with fail
    go_ret2
    exact ⟨rfl, B5⟩
end Go.Proofs.YtmofjkfghidlnaaDoor
