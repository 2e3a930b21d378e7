/- The walk of surtitlelaw3.RatioBack. -/
import Derived.Test.YtmofjkfghidlnaaDoorBackT
import Derived.Test.YtmofjkfghidlnaaDoorRatFine
import Derived.Lib.ItoaLen
namespace Go.Proofs.YtmofjkfghidlnaaDoor
open Go.RowKit Go.Shelf
open Go.Lib (decDigits)
attribute [local go_sem] Oper.semAt_some

set_option maxRecDepth 100000 in
set_option maxHeartbeats 1000000 in
theorem back_walk (an ad n d xn xd ec : Int) (ok : Bool) (s : ByteArray) (w : World) (hn : -2147483648 ≤ n ∧ n ≤ 2147483647)
    (hd : (d = 0 ∧ ec ≠ 0) ∨ (¬ d = 0 ∧ ec = 0 ∧ -2147483648 ≤ d ∧ d ≤ 2147483647 ∧ xn * d = n * xd ∧ -4611686018427387904 ≤ n * xd ∧ n * xd ≤ 4611686018427387904))
    (HA : ∀ w, Calls Tryd.prog 21 #[.agg #[.int .i64 an, .int .i64 ad]] w fun e w' => e = .returned (.bool ok) ∧ Below w.heap.size w w')
    (G1 : ok = true → ∀ w0, Below w.heap.size w w0 → Calls Tryd.prog 49 #[.agg #[.int .i64 an, .int .i64 ad]] w0 fun e w' => e = .returned (.string s) ∧ Below w0.heap.size w0 w')
    (G2 : ok = true → ∀ w, Calls Tryd.prog 47 #[.string s] w fun e w' => e = .returned (.tuple #[.agg #[.int .i64 an, .int .i64 ad], .int .i64 0]) ∧ Below w.heap.size w w')
    (HN : ∀ w, Calls Tryd.prog 19 #[.int .i64 n, .int .i64 d] w fun e w' => e = .returned (.tuple #[.agg #[.int .i64 xn, .int .i64 xd], .int .i64 ec]) ∧ Below w.heap.size w w')
    (G3 : ¬ d = 0 → ∀ w, Calls Tryd.prog 21 #[.agg #[.int .i64 xn, .int .i64 xd]] w fun e w' => e = .returned (.bool true) ∧ Below w.heap.size w w') :
    Calls Tryd.prog 14 #[.agg #[.int .i64 an, .int .i64 ad], .int .i32 n, .int .i32 d] w fun e w' => e = .returned (.bool true) ∧ Below w.heap.size w w' := by
  have HK := hideR known_any
  have HA := hideR HA
  have HN := hideR HN
  cases ok
  · clear G1 G2
    rcases hd with ⟨rfl, he⟩ | ⟨h0, rfl, h1, h2, hx, hb1, hb2⟩
    · clear G3
      go_enter Tryd.func14, Tryd.ntmps14
      go_wp2_with fail
      go_at_call 17
      refine Calls.mono (HK.out _) ?_
      rintro e w1 ⟨rfl, b1⟩
      have T1 := (Two.new w (.int .i64 an) (.int .i64 ad) 26).keep b1
      have B1 := bup (bel1 w _) b1
      clear b1
      obtain ⟨_, t0, t1, _, _⟩ := id T1
      go_wp2_with fail
      go_at_call 21
      refine Calls.mono (HA.out _) ?_
      rintro e w2 ⟨rfl, b2⟩
      have T2 := T1.keep b2
      have B2 := bup B1 b2
      clear b2 T1 B1 t0 t1
      obtain ⟨_, t0, t1, _, _⟩ := id T2
      go_wp2_with fail
      go_at_call 19
      refine Calls.mono (HN.out _) ?_
      rintro e w6 ⟨rfl, b6⟩
      have A6 := Two.new w6 (.int .i64 xn) (.int .i64 xd) 26
      have B6 := bup (bup B2 b6) (bel1 w6 (.cells #[.int .i64 xn, .int .i64 xd] 26))
      clear b6 B2
      obtain ⟨_, a0, a1, _, _⟩ := id A6
      go_wp2_with fail
      go_at_call 51
      refine Calls.mono (fine_not _ he _) ?_
      rintro e w7 ⟨rfl, hw⟩
      obtain rfl := hw.symm
      go_wp2_with fail
      go_ret
      exact ⟨rfl, B6⟩
    · have HR := hideR (G3 h0)
      clear G3
      go_enter Tryd.func14, Tryd.ntmps14
      go_wp2_with fail
      go_at_call 17
      refine Calls.mono (HK.out _) ?_
      rintro e w1 ⟨rfl, b1⟩
      have T1 := (Two.new w (.int .i64 an) (.int .i64 ad) 26).keep b1
      have B1 := bup (bel1 w _) b1
      clear b1
      obtain ⟨_, t0, t1, _, _⟩ := id T1
      go_wp2_with fail
      go_at_call 21
      refine Calls.mono (HA.out _) ?_
      rintro e w2 ⟨rfl, b2⟩
      have T2 := T1.keep b2
      have B2 := bup B1 b2
      clear b2 T1 B1 t0 t1
      obtain ⟨_, t0, t1, _, _⟩ := id T2
      go_wp2_with fail
      go_at_call 19
      refine Calls.mono (HN.out _) ?_
      rintro e w6 ⟨rfl, b6⟩
      have A6 := Two.new w6 (.int .i64 xn) (.int .i64 xd) 26
      have B6 := bup (bup B2 b6) (bel1 w6 (.cells #[.int .i64 xn, .int .i64 xd] 26))
      clear b6 B2
      obtain ⟨_, a0, a1, _, _⟩ := id A6
      go_wp2_with fail
      go_at_call 51
      refine Calls.mono (fine_ok _) ?_
      rintro e w7 ⟨rfl, hw⟩
      obtain rfl := hw.symm
      have hwr : IntKind.i64.wrap (n * xd) = n * xd := by rw [IntKind.wrap_i64]; omega
      go_wp2_with fail
      go_at_call 21
      refine Calls.mono (HR.out _) ?_
      rintro e w8 ⟨rfl, b8⟩
      go_wp2_with fail
      go_ret
      exact ⟨rfl, bup B6 b8⟩
  · have HT := hideR (G1 rfl)
    have HP := hideR (G2 rfl)
    clear G1 G2
    rcases hd with ⟨rfl, he⟩ | ⟨h0, rfl, h1, h2, hx, hb1, hb2⟩
    · clear G3
      go_enter Tryd.func14, Tryd.ntmps14
      go_wp2_with fail
      go_at_call 17
      refine Calls.mono (HK.out _) ?_
      rintro e w1 ⟨rfl, b1⟩
      have T1 := (Two.new w (.int .i64 an) (.int .i64 ad) 26).keep b1
      have B1 := bup (bel1 w _) b1
      clear b1
      obtain ⟨_, t0, t1, _, _⟩ := id T1
      go_wp2_with fail
      go_at_call 21
      refine Calls.mono (HA.out _) ?_
      rintro e w2 ⟨rfl, b2⟩
      have T2 := T1.keep b2
      have B2 := bup B1 b2
      clear b2 T1 B1 t0 t1
      obtain ⟨_, t0, t1, _, _⟩ := id T2
      go_wp2_with fail
      go_at_call 49
      refine Calls.mono (HT.out _ B2) ?_
      rintro e w3 ⟨rfl, b3⟩
      have T3 := T2.keep b3
      have B3 := bup B2 b3
      clear b3 T2 B2 t0 t1
      go_wp2_with fail
      go_at_call 47
      refine Calls.mono (HP.out _) ?_
      rintro e w4 ⟨rfl, b4⟩
      have T4 := (T3.keep b4).alloc (.cells #[.int .i64 an, .int .i64 ad] 26)
      have X4 := Two.new w4 (.int .i64 an) (.int .i64 ad) 26
      have B4 := bup (bup B3 b4) (bel1 w4 (.cells #[.int .i64 an, .int .i64 ad] 26))
      clear b4 T3 B3
      obtain ⟨_, t0, t1, _, _⟩ := id T4
      obtain ⟨_, x0, x1, _, _⟩ := id X4
      go_wp2_with fail
      go_at_call 51
      refine Calls.mono (fine_ok _) ?_
      rintro e w5 ⟨rfl, hw⟩
      obtain rfl := hw.symm
      clear t0 t1 x0 x1 T4 X4
      go_wp2_with fail
      go_at_call 19
      refine Calls.mono (HN.out _) ?_
      rintro e w6 ⟨rfl, b6⟩
      have A6 := Two.new w6 (.int .i64 xn) (.int .i64 xd) 26
      have B6 := bup (bup B4 b6) (bel1 w6 (.cells #[.int .i64 xn, .int .i64 xd] 26))
      clear b6 B4
      obtain ⟨_, a0, a1, _, _⟩ := id A6
      go_wp2_with fail
      go_at_call 51
      refine Calls.mono (fine_not _ he _) ?_
      rintro e w7 ⟨rfl, hw⟩
      obtain rfl := hw.symm
      go_wp2_with fail
      go_ret
      exact ⟨rfl, B6⟩
    · have HR := hideR (G3 h0)
      clear G3
      go_enter Tryd.func14, Tryd.ntmps14
      go_wp2_with fail
      go_at_call 17
      refine Calls.mono (HK.out _) ?_
      rintro e w1 ⟨rfl, b1⟩
      have T1 := (Two.new w (.int .i64 an) (.int .i64 ad) 26).keep b1
      have B1 := bup (bel1 w _) b1
      clear b1
      obtain ⟨_, t0, t1, _, _⟩ := id T1
      go_wp2_with fail
      go_at_call 21
      refine Calls.mono (HA.out _) ?_
      rintro e w2 ⟨rfl, b2⟩
      have T2 := T1.keep b2
      have B2 := bup B1 b2
      clear b2 T1 B1 t0 t1
      obtain ⟨_, t0, t1, _, _⟩ := id T2
      go_wp2_with fail
      go_at_call 49
      refine Calls.mono (HT.out _ B2) ?_
      rintro e w3 ⟨rfl, b3⟩
      have T3 := T2.keep b3
      have B3 := bup B2 b3
      clear b3 T2 B2 t0 t1
      go_wp2_with fail
      go_at_call 47
      refine Calls.mono (HP.out _) ?_
      rintro e w4 ⟨rfl, b4⟩
      have T4 := (T3.keep b4).alloc (.cells #[.int .i64 an, .int .i64 ad] 26)
      have X4 := Two.new w4 (.int .i64 an) (.int .i64 ad) 26
      have B4 := bup (bup B3 b4) (bel1 w4 (.cells #[.int .i64 an, .int .i64 ad] 26))
      clear b4 T3 B3
      obtain ⟨_, t0, t1, _, _⟩ := id T4
      obtain ⟨_, x0, x1, _, _⟩ := id X4
      go_wp2_with fail
      go_at_call 51
      refine Calls.mono (fine_ok _) ?_
      rintro e w5 ⟨rfl, hw⟩
      obtain rfl := hw.symm
      clear t0 t1 x0 x1 T4 X4
      go_wp2_with fail
      go_at_call 19
      refine Calls.mono (HN.out _) ?_
      rintro e w6 ⟨rfl, b6⟩
      have A6 := Two.new w6 (.int .i64 xn) (.int .i64 xd) 26
      have B6 := bup (bup B4 b6) (bel1 w6 (.cells #[.int .i64 xn, .int .i64 xd] 26))
      clear b6 B4
      obtain ⟨_, a0, a1, _, _⟩ := id A6
      go_wp2_with fail
      go_at_call 51
      refine Calls.mono (fine_ok _) ?_
      rintro e w7 ⟨rfl, hw⟩
      obtain rfl := hw.symm
      have hwr : IntKind.i64.wrap (n * xd) = n * xd := by rw [IntKind.wrap_i64]; omega
      go_wp2_with fail
      go_at_call 21
      refine Calls.mono (HR.out _) ?_
      rintro e w8 ⟨rfl, b8⟩
      go_wp2_with fail
      go_ret
      exact ⟨rfl, bup B6 b8⟩
end Go.Proofs.YtmofjkfghidlnaaDoor
