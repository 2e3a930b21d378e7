/- The walk of surtitlelaw3.RatioOrders. -/
import Derived.Test.YtmofjkfghidlnaaDoorRatFine
namespace Go.Proofs.YtmofjkfghidlnaaDoor
open Go.RowKit
attribute [local go_sem] Oper.semAt_some

set_option maxRecDepth 100000 in
set_option maxHeartbeats 1000000 in
theorem orders_walk (an ad bn bd cn cd x y z dn dd e : Int) (hx : (x = 0 ∧ an = bn ∧ ad = bd) ∨ ((x = -1 ∨ x = 1) ∧ (¬ an = bn ∨ (an = bn ∧ ¬ ad = bd)))) (hxy : x ≤ 0 → y ≤ 0 → z ≤ 0) (he : (e = 0 ∧ (0 < dn ↔ 0 < x) ∧ (dn < 0 ↔ x < 0)) ∨ (e ≠ 0 ∧ dn = 0 ∧ dd = 0))
    (HA : ∀ w, Calls Tryd.prog 21 #[.agg #[.int .i64 an, .int .i64 ad]] w fun e w' => e = .returned (.bool true) ∧ Below w.heap.size w w')
    (HB : ∀ w, Calls Tryd.prog 21 #[.agg #[.int .i64 bn, .int .i64 bd]] w fun e w' => e = .returned (.bool true) ∧ Below w.heap.size w w')
    (HC : ∀ w, Calls Tryd.prog 21 #[.agg #[.int .i64 cn, .int .i64 cd]] w fun e w' => e = .returned (.bool true) ∧ Below w.heap.size w w')
    (H1 : ∀ w, Calls Tryd.prog 39 #[.agg #[.int .i64 an, .int .i64 ad], .agg #[.int .i64 bn, .int .i64 bd]] w fun e w' => e = .returned (.int .i64 x) ∧ Below w.heap.size w w')
    (H2 : ∀ w, Calls Tryd.prog 39 #[.agg #[.int .i64 bn, .int .i64 bd], .agg #[.int .i64 an, .int .i64 ad]] w fun e w' => e = .returned (.int .i64 (-x)) ∧ Below w.heap.size w w')
    (H3 : ∀ w, Calls Tryd.prog 39 #[.agg #[.int .i64 an, .int .i64 ad], .agg #[.int .i64 an, .int .i64 ad]] w fun e w' => e = .returned (.int .i64 0) ∧ Below w.heap.size w w')
    (H4 : ∀ w, Calls Tryd.prog 39 #[.agg #[.int .i64 bn, .int .i64 bd], .agg #[.int .i64 cn, .int .i64 cd]] w fun e w' => e = .returned (.int .i64 y) ∧ Below w.heap.size w w')
    (H5 : ∀ w, Calls Tryd.prog 39 #[.agg #[.int .i64 an, .int .i64 ad], .agg #[.int .i64 cn, .int .i64 cd]] w fun e w' => e = .returned (.int .i64 z) ∧ Below w.heap.size w w')
    (H6 : ∀ w, Calls Tryd.prog 26 #[.agg #[.int .i64 an, .int .i64 ad], .agg #[.int .i64 bn, .int .i64 bd]] w fun r w' => r = .returned (.tuple #[.agg #[.int .i64 dn, .int .i64 dd], .int .i64 e]) ∧ Below w.heap.size w w') (w : World) :
    Calls Tryd.prog 12 #[.agg #[.int .i64 an, .int .i64 ad], .agg #[.int .i64 bn, .int .i64 bd], .agg #[.int .i64 cn, .int .i64 cd]] w fun e w' => e = .returned (.bool true) ∧ Below w.heap.size w w' := by
  have HK := hideR known_any
  have HA := hideR HA
  have HB := hideR HB
  have HC := hideR HC
  have H1 := hideR H1
  have H2 := hideR H2
  have H3 := hideR H3
  have H4 := hideR H4
  have H5 := hideR H5
  have H6 := hideR H6
  rcases hx with ⟨rfl, rfl, rfl⟩ | ⟨rfl | rfl, hn | ⟨rfl, hn⟩⟩
  all_goals (
    go_enter Tryd.func12, Tryd.ntmps12
    go_wp2_with fail
    go_at_call 17
    refine Calls.mono (HK.out _) ?_
    rintro e w1 ⟨rfl, b1⟩
    have S1 := (Three.new w _ _ _ _ _ _ 26).keep b1
    have BB1 := bup (bel3 w _ _ _) b1
    clear b1
    obtain ⟨⟨_, a0, a1, _, _⟩, ⟨_, p0, p1, _, _⟩, ⟨_, c0, c1, _, _⟩⟩ := id S1
    go_wp2_with fail
    go_at_call 21
    refine Calls.mono (HA.out _) ?_
    rintro e w2 ⟨rfl, b2⟩
    have S2 := S1.keep b2
    have BB2 := bup BB1 b2
    clear a0 a1 p0 p1 c0 c1 S1 BB1 b2
    obtain ⟨⟨_, a0, a1, _, _⟩, ⟨_, p0, p1, _, _⟩, ⟨_, c0, c1, _, _⟩⟩ := id S2
    go_wp2_with fail
    go_at_call 21
    refine Calls.mono (HB.out _) ?_
    rintro e w3 ⟨rfl, b3⟩
    have S3 := S2.keep b3
    have BB3 := bup BB2 b3
    clear a0 a1 p0 p1 c0 c1 S2 BB2 b3
    obtain ⟨⟨_, a0, a1, _, _⟩, ⟨_, p0, p1, _, _⟩, ⟨_, c0, c1, _, _⟩⟩ := id S3
    go_wp2_with fail
    go_at_call 21
    refine Calls.mono (HC.out _) ?_
    rintro e w4 ⟨rfl, b4⟩
    have S4 := S3.keep b4
    have BB4 := bup BB3 b4
    clear a0 a1 p0 p1 c0 c1 S3 BB3 b4
    obtain ⟨⟨_, a0, a1, _, _⟩, ⟨_, p0, p1, _, _⟩, ⟨_, c0, c1, _, _⟩⟩ := id S4
    go_wp2_with fail
    go_at_call 39
    refine Calls.mono (H1.out _) ?_
    rintro e w5 ⟨rfl, b5⟩
    have S5 := S4.keep b5
    have BB5 := bup BB4 b5
    clear a0 a1 p0 p1 c0 c1 S4 BB4 b5
    obtain ⟨⟨_, a0, a1, _, _⟩, ⟨_, p0, p1, _, _⟩, ⟨_, c0, c1, _, _⟩⟩ := id S5
    go_wp2_with fail
    go_at_call 39
    refine Calls.mono (H2.out _) ?_
    rintro e w6 ⟨rfl, b6⟩
    have S6 := S5.keep b6
    have BB6 := bup BB5 b6
    clear a0 a1 p0 p1 c0 c1 S5 BB5 b6
    obtain ⟨⟨_, a0, a1, _, _⟩, ⟨_, p0, p1, _, _⟩, ⟨_, c0, c1, _, _⟩⟩ := id S6
    go_wp2_with fail
    go_at_call 39
    refine Calls.mono (H3.out _) ?_
    rintro e w7 ⟨rfl, b7⟩
    have S7 := S6.keep b7
    have BB7 := bup BB6 b7
    clear a0 a1 p0 p1 c0 c1 S6 BB6 b7
    obtain ⟨⟨_, a0, a1, _, _⟩, ⟨_, p0, p1, _, _⟩, ⟨_, c0, c1, _, _⟩⟩ := id S7
    go_wp2_with fail)
  · skip
    by_cases hy : y ≤ 0
    · have hz := hxy (by omega) hy
      go_at_call 39
      refine Calls.mono (H4.out _) ?_
      rintro e w8 ⟨rfl, b8⟩
      have S8 := S7.keep b8
      have BB8 := bup BB7 b8
      clear a0 a1 p0 p1 c0 c1 S7 BB7 b8
      obtain ⟨⟨_, a0, a1, _, _⟩, ⟨_, p0, p1, _, _⟩, ⟨_, c0, c1, _, _⟩⟩ := id S8
      go_wp2_with fail
      go_at_call 39
      refine Calls.mono (H5.out _) ?_
      rintro e w9 ⟨rfl, b9⟩
      have S9 := S8.keep b9
      have BB9 := bup BB8 b9
      clear a0 a1 p0 p1 c0 c1 S8 BB8 b9
      obtain ⟨⟨_, a0, a1, _, _⟩, ⟨_, p0, p1, _, _⟩, ⟨_, c0, c1, _, _⟩⟩ := id S9
      go_wp2_with fail
      go_at_call 26
      refine Calls.mono (H6.out _) ?_
      rintro e1 w10 ⟨rfl, b10⟩
      have BB10 := bup (bup BB9 b10) (bel1 w10 (.cells #[.int .i64 dn, .int .i64 dd] 26))
      have D10 := Two.new w10 (.int .i64 dn) (.int .i64 dd) 26
      clear a0 a1 p0 p1 c0 c1 S9 BB9 b10
      obtain ⟨_, g0, g1, _, _⟩ := id D10
      go_wp2_with fail
      rcases he with ⟨rfl, s1, s2⟩ | ⟨hn, rfl, rfl⟩
      · go_at_call 51
        refine Calls.mono (fine_ok _) ?_
        rintro e2 w20 ⟨rfl, hw⟩
        obtain rfl := hw.symm
        go_wp2_with fail
        go_ret
        exact ⟨by simp, BB10⟩
      · go_at_call 51
        refine Calls.mono (fine_not e hn _) ?_
        rintro e2 w20 ⟨rfl, hw⟩
        obtain rfl := hw.symm
        go_wp2_with fail
        go_ret
        exact ⟨rfl, BB10⟩
    · skip
      go_at_call 39
      refine Calls.mono (H4.out _) ?_
      rintro e w8 ⟨rfl, b8⟩
      have S8 := S7.keep b8
      have BB8 := bup BB7 b8
      clear a0 a1 p0 p1 c0 c1 S7 BB7 b8
      obtain ⟨⟨_, a0, a1, _, _⟩, ⟨_, p0, p1, _, _⟩, ⟨_, c0, c1, _, _⟩⟩ := id S8
      go_wp2_with fail
      go_at_call 26
      refine Calls.mono (H6.out _) ?_
      rintro e1 w9 ⟨rfl, b9⟩
      have BB9 := bup (bup BB8 b9) (bel1 w9 (.cells #[.int .i64 dn, .int .i64 dd] 26))
      have D9 := Two.new w9 (.int .i64 dn) (.int .i64 dd) 26
      clear a0 a1 p0 p1 c0 c1 S8 BB8 b9
      obtain ⟨_, g0, g1, _, _⟩ := id D9
      go_wp2_with fail
      rcases he with ⟨rfl, s1, s2⟩ | ⟨hn, rfl, rfl⟩
      · go_at_call 51
        refine Calls.mono (fine_ok _) ?_
        rintro e2 w20 ⟨rfl, hw⟩
        obtain rfl := hw.symm
        go_wp2_with fail
        go_ret
        exact ⟨by simp, BB9⟩
      · go_at_call 51
        refine Calls.mono (fine_not e hn _) ?_
        rintro e2 w20 ⟨rfl, hw⟩
        obtain rfl := hw.symm
        go_wp2_with fail
        go_ret
        exact ⟨rfl, BB9⟩
  · skip
    by_cases hy : y ≤ 0
    · have hz := hxy (by omega) hy
      go_at_call 39
      refine Calls.mono (H4.out _) ?_
      rintro e w8 ⟨rfl, b8⟩
      have S8 := S7.keep b8
      have BB8 := bup BB7 b8
      clear a0 a1 p0 p1 c0 c1 S7 BB7 b8
      obtain ⟨⟨_, a0, a1, _, _⟩, ⟨_, p0, p1, _, _⟩, ⟨_, c0, c1, _, _⟩⟩ := id S8
      go_wp2_with fail
      go_at_call 39
      refine Calls.mono (H5.out _) ?_
      rintro e w9 ⟨rfl, b9⟩
      have S9 := S8.keep b9
      have BB9 := bup BB8 b9
      clear a0 a1 p0 p1 c0 c1 S8 BB8 b9
      obtain ⟨⟨_, a0, a1, _, _⟩, ⟨_, p0, p1, _, _⟩, ⟨_, c0, c1, _, _⟩⟩ := id S9
      go_wp2_with fail
      go_at_call 26
      refine Calls.mono (H6.out _) ?_
      rintro e1 w10 ⟨rfl, b10⟩
      have BB10 := bup (bup BB9 b10) (bel1 w10 (.cells #[.int .i64 dn, .int .i64 dd] 26))
      have D10 := Two.new w10 (.int .i64 dn) (.int .i64 dd) 26
      clear a0 a1 p0 p1 c0 c1 S9 BB9 b10
      obtain ⟨_, g0, g1, _, _⟩ := id D10
      go_wp2_with fail
      rcases he with ⟨rfl, s1, s2⟩ | ⟨hn, rfl, rfl⟩
      · go_at_call 51
        refine Calls.mono (fine_ok _) ?_
        rintro e2 w20 ⟨rfl, hw⟩
        obtain rfl := hw.symm
        go_wp2_with fail
        go_ret
        exact ⟨by simp, BB10⟩
      · go_at_call 51
        refine Calls.mono (fine_not e hn _) ?_
        rintro e2 w20 ⟨rfl, hw⟩
        obtain rfl := hw.symm
        go_wp2_with fail
        go_ret
        exact ⟨rfl, BB10⟩
    · skip
      go_at_call 39
      refine Calls.mono (H4.out _) ?_
      rintro e w8 ⟨rfl, b8⟩
      have S8 := S7.keep b8
      have BB8 := bup BB7 b8
      clear a0 a1 p0 p1 c0 c1 S7 BB7 b8
      obtain ⟨⟨_, a0, a1, _, _⟩, ⟨_, p0, p1, _, _⟩, ⟨_, c0, c1, _, _⟩⟩ := id S8
      go_wp2_with fail
      go_at_call 26
      refine Calls.mono (H6.out _) ?_
      rintro e1 w9 ⟨rfl, b9⟩
      have BB9 := bup (bup BB8 b9) (bel1 w9 (.cells #[.int .i64 dn, .int .i64 dd] 26))
      have D9 := Two.new w9 (.int .i64 dn) (.int .i64 dd) 26
      clear a0 a1 p0 p1 c0 c1 S8 BB8 b9
      obtain ⟨_, g0, g1, _, _⟩ := id D9
      go_wp2_with fail
      rcases he with ⟨rfl, s1, s2⟩ | ⟨hn, rfl, rfl⟩
      · go_at_call 51
        refine Calls.mono (fine_ok _) ?_
        rintro e2 w20 ⟨rfl, hw⟩
        obtain rfl := hw.symm
        go_wp2_with fail
        go_ret
        exact ⟨by simp, BB9⟩
      · go_at_call 51
        refine Calls.mono (fine_not e hn _) ?_
        rintro e2 w20 ⟨rfl, hw⟩
        obtain rfl := hw.symm
        go_wp2_with fail
        go_ret
        exact ⟨rfl, BB9⟩
  · skip
    by_cases hy : y ≤ 0
    · have hz := hxy (by omega) hy
      go_at_call 39
      refine Calls.mono (H4.out _) ?_
      rintro e w8 ⟨rfl, b8⟩
      have S8 := S7.keep b8
      have BB8 := bup BB7 b8
      clear a0 a1 p0 p1 c0 c1 S7 BB7 b8
      obtain ⟨⟨_, a0, a1, _, _⟩, ⟨_, p0, p1, _, _⟩, ⟨_, c0, c1, _, _⟩⟩ := id S8
      go_wp2_with fail
      go_at_call 39
      refine Calls.mono (H5.out _) ?_
      rintro e w9 ⟨rfl, b9⟩
      have S9 := S8.keep b9
      have BB9 := bup BB8 b9
      clear a0 a1 p0 p1 c0 c1 S8 BB8 b9
      obtain ⟨⟨_, a0, a1, _, _⟩, ⟨_, p0, p1, _, _⟩, ⟨_, c0, c1, _, _⟩⟩ := id S9
      go_wp2_with fail
      go_at_call 26
      refine Calls.mono (H6.out _) ?_
      rintro e1 w10 ⟨rfl, b10⟩
      have BB10 := bup (bup BB9 b10) (bel1 w10 (.cells #[.int .i64 dn, .int .i64 dd] 26))
      have D10 := Two.new w10 (.int .i64 dn) (.int .i64 dd) 26
      clear a0 a1 p0 p1 c0 c1 S9 BB9 b10
      obtain ⟨_, g0, g1, _, _⟩ := id D10
      go_wp2_with fail
      rcases he with ⟨rfl, s1, s2⟩ | ⟨hn, rfl, rfl⟩
      · go_at_call 51
        refine Calls.mono (fine_ok _) ?_
        rintro e2 w20 ⟨rfl, hw⟩
        obtain rfl := hw.symm
        go_wp2_with fail
        go_ret
        exact ⟨by simp, BB10⟩
      · go_at_call 51
        refine Calls.mono (fine_not e hn _) ?_
        rintro e2 w20 ⟨rfl, hw⟩
        obtain rfl := hw.symm
        go_wp2_with fail
        go_ret
        exact ⟨rfl, BB10⟩
    · skip
      go_at_call 39
      refine Calls.mono (H4.out _) ?_
      rintro e w8 ⟨rfl, b8⟩
      have S8 := S7.keep b8
      have BB8 := bup BB7 b8
      clear a0 a1 p0 p1 c0 c1 S7 BB7 b8
      obtain ⟨⟨_, a0, a1, _, _⟩, ⟨_, p0, p1, _, _⟩, ⟨_, c0, c1, _, _⟩⟩ := id S8
      go_wp2_with fail
      go_at_call 26
      refine Calls.mono (H6.out _) ?_
      rintro e1 w9 ⟨rfl, b9⟩
      have BB9 := bup (bup BB8 b9) (bel1 w9 (.cells #[.int .i64 dn, .int .i64 dd] 26))
      have D9 := Two.new w9 (.int .i64 dn) (.int .i64 dd) 26
      clear a0 a1 p0 p1 c0 c1 S8 BB8 b9
      obtain ⟨_, g0, g1, _, _⟩ := id D9
      go_wp2_with fail
      rcases he with ⟨rfl, s1, s2⟩ | ⟨hn, rfl, rfl⟩
      · go_at_call 51
        refine Calls.mono (fine_ok _) ?_
        rintro e2 w20 ⟨rfl, hw⟩
        obtain rfl := hw.symm
        go_wp2_with fail
        go_ret
        exact ⟨by simp, BB9⟩
      · go_at_call 51
        refine Calls.mono (fine_not e hn _) ?_
        rintro e2 w20 ⟨rfl, hw⟩
        obtain rfl := hw.symm
        go_wp2_with fail
        go_ret
        exact ⟨rfl, BB9⟩
  · skip
    go_at_call 26
    refine Calls.mono (H6.out _) ?_
    rintro e1 w8 ⟨rfl, b8⟩
    have BB8 := bup (bup BB7 b8) (bel1 w8 (.cells #[.int .i64 dn, .int .i64 dd] 26))
    have D8 := Two.new w8 (.int .i64 dn) (.int .i64 dd) 26
    clear a0 a1 p0 p1 c0 c1 S7 BB7 b8
    obtain ⟨_, g0, g1, _, _⟩ := id D8
    go_wp2_with fail
    rcases he with ⟨rfl, s1, s2⟩ | ⟨hn, rfl, rfl⟩
    · go_at_call 51
      refine Calls.mono (fine_ok _) ?_
      rintro e2 w20 ⟨rfl, hw⟩
      obtain rfl := hw.symm
      go_wp2_with fail
      go_ret
      exact ⟨by simp, BB8⟩
    · go_at_call 51
      refine Calls.mono (fine_not e hn _) ?_
      rintro e2 w20 ⟨rfl, hw⟩
      obtain rfl := hw.symm
      go_wp2_with fail
      go_ret
      exact ⟨rfl, BB8⟩
  · skip
    go_at_call 26
    refine Calls.mono (H6.out _) ?_
    rintro e1 w8 ⟨rfl, b8⟩
    have BB8 := bup (bup BB7 b8) (bel1 w8 (.cells #[.int .i64 dn, .int .i64 dd] 26))
    have D8 := Two.new w8 (.int .i64 dn) (.int .i64 dd) 26
    clear a0 a1 p0 p1 c0 c1 S7 BB7 b8
    obtain ⟨_, g0, g1, _, _⟩ := id D8
    go_wp2_with fail
    rcases he with ⟨rfl, s1, s2⟩ | ⟨hn, rfl, rfl⟩
    · go_at_call 51
      refine Calls.mono (fine_ok _) ?_
      rintro e2 w20 ⟨rfl, hw⟩
      obtain rfl := hw.symm
      go_wp2_with fail
      go_ret
      exact ⟨by simp, BB8⟩
    · go_at_call 51
      refine Calls.mono (fine_not e hn _) ?_
      rintro e2 w20 ⟨rfl, hw⟩
      obtain rfl := hw.symm
      go_wp2_with fail
      go_ret
      exact ⟨rfl, BB8⟩

set_option maxRecDepth 100000 in
set_option maxHeartbeats 1000000 in
theorem orders_not (an ad bn bd cn cd : Int) (oa ob oc : Bool) (ho : (oa && ob && oc) = false)
    (HA : ∀ w, Calls Tryd.prog 21 #[.agg #[.int .i64 an, .int .i64 ad]] w fun e w' => e = .returned (.bool oa) ∧ Below w.heap.size w w')
    (HB : ∀ w, Calls Tryd.prog 21 #[.agg #[.int .i64 bn, .int .i64 bd]] w fun e w' => e = .returned (.bool ob) ∧ Below w.heap.size w w')
    (HC : ∀ w, Calls Tryd.prog 21 #[.agg #[.int .i64 cn, .int .i64 cd]] w fun e w' => e = .returned (.bool oc) ∧ Below w.heap.size w w') (w : World) :
    Calls Tryd.prog 12 #[.agg #[.int .i64 an, .int .i64 ad], .agg #[.int .i64 bn, .int .i64 bd], .agg #[.int .i64 cn, .int .i64 cd]] w fun e w' => e = .returned (.bool true) ∧ Below w.heap.size w w' := by
  have HK := hideR known_any
  have HA := hideR HA
  have HB := hideR HB
  have HC := hideR HC
  go_enter Tryd.func12, Tryd.ntmps12
  go_wp2_with fail
  go_at_call 17
  refine Calls.mono (HK.out _) ?_
  rintro e w1 ⟨rfl, b1⟩
  have S1 := (Three.new w _ _ _ _ _ _ 26).keep b1
  have BB1 := bup (bel3 w _ _ _) b1
  clear b1
  obtain ⟨⟨_, a0, a1, _, _⟩, ⟨_, p0, p1, _, _⟩, ⟨_, c0, c1, _, _⟩⟩ := id S1
  go_wp2_with fail
  cases oa
  · skip
    go_at_call 21
    refine Calls.mono (HA.out _) ?_
    rintro e w2 ⟨rfl, b2⟩
    have S2 := S1.keep b2
    have BB2 := bup BB1 b2
    clear a0 a1 p0 p1 c0 c1 S1 BB1 b2
    obtain ⟨⟨_, a0, a1, _, _⟩, ⟨_, p0, p1, _, _⟩, ⟨_, c0, c1, _, _⟩⟩ := id S2
    go_wp2_with fail
    go_ret
    exact ⟨rfl, BB2⟩
  · skip
    go_at_call 21
    refine Calls.mono (HA.out _) ?_
    rintro e w2 ⟨rfl, b2⟩
    have S2 := S1.keep b2
    have BB2 := bup BB1 b2
    clear a0 a1 p0 p1 c0 c1 S1 BB1 b2
    obtain ⟨⟨_, a0, a1, _, _⟩, ⟨_, p0, p1, _, _⟩, ⟨_, c0, c1, _, _⟩⟩ := id S2
    go_wp2_with fail
    cases ob
    · skip
      go_at_call 21
      refine Calls.mono (HB.out _) ?_
      rintro e w3 ⟨rfl, b3⟩
      have S3 := S2.keep b3
      have BB3 := bup BB2 b3
      clear a0 a1 p0 p1 c0 c1 S2 BB2 b3
      obtain ⟨⟨_, a0, a1, _, _⟩, ⟨_, p0, p1, _, _⟩, ⟨_, c0, c1, _, _⟩⟩ := id S3
      go_wp2_with fail
      go_ret
      exact ⟨rfl, BB3⟩
    · skip
      go_at_call 21
      refine Calls.mono (HB.out _) ?_
      rintro e w3 ⟨rfl, b3⟩
      have S3 := S2.keep b3
      have BB3 := bup BB2 b3
      clear a0 a1 p0 p1 c0 c1 S2 BB2 b3
      obtain ⟨⟨_, a0, a1, _, _⟩, ⟨_, p0, p1, _, _⟩, ⟨_, c0, c1, _, _⟩⟩ := id S3
      go_wp2_with fail
      cases oc
      · skip
        go_at_call 21
        refine Calls.mono (HC.out _) ?_
        rintro e w4 ⟨rfl, b4⟩
        have S4 := S3.keep b4
        have BB4 := bup BB3 b4
        clear a0 a1 p0 p1 c0 c1 S3 BB3 b4
        obtain ⟨⟨_, a0, a1, _, _⟩, ⟨_, p0, p1, _, _⟩, ⟨_, c0, c1, _, _⟩⟩ := id S4
        go_wp2_with fail
        go_ret
        exact ⟨rfl, BB4⟩
      · simp at ho

theorem orders_any (a : Rt) (ha : RtIn a) (b : Rt) (hb : RtIn b) (c : Rt) (hc : RtIn c) (w : World) :
    Calls Tryd.prog 12 #[rtv a, rtv b, rtv c] w fun e w' => e = .returned (.bool true) ∧ Below w.heap.size w w' := by
  have HA := right_any a ha
  have HB := right_any b hb
  have HC := right_any c hc
  cases ho : (rightB a && rightB b && rightB c)
  · exact orders_not a.N a.D b.N b.D c.N c.D _ _ _ ho HA HB HC w
  · simp only [Bool.and_eq_true] at ho
    obtain ⟨⟨oa, ob⟩, oc⟩ := ho
    rw [oa] at HA
    rw [ob] at HB
    rw [oc] at HC
    have h2 := cmp_any b a hb ha
    rw [cmp_turn b a] at h2
    have h3 := cmp_any a a ha ha
    rw [cmp_self] at h3
    refine orders_walk a.N a.D b.N b.D c.N c.D (cmpI a b) (cmpI b c) (cmpI a c) (subA a b).1.N (subA a b).1.D (subA a b).2 ?_ (fun p q => cmp_trans oa ob oc p q) ?_ HA HB HC (cmp_any a b ha hb) h2 h3 (cmp_any b c hb hc) (cmp_any a c ha hc) (sub_any a b ha hb) w
    · have hr := cmp_range a b
      by_cases h0 : cmpI a b = 0
      · have := (cmp_zero oa ob).1 h0
        exact .inl ⟨h0, by rw [this], by rw [this]⟩
      · refine .inr ⟨by omega, ?_⟩
        by_cases hn : a.N = b.N
        · refine .inr ⟨hn, fun hd => h0 ?_⟩
          obtain rfl : a = b := by cases a; cases b; simp only at hn hd; rw [hn, hd]
          exact cmp_self a
        · exact .inl hn
    · by_cases h0 : (subA a b).2 = 0
      · exact .inl ⟨h0, sub_sign oa ob h0⟩
      · exact .inr ⟨h0, by rw [sub_not h0], by rw [sub_not h0]⟩
end Go.Proofs.YtmofjkfghidlnaaDoor
