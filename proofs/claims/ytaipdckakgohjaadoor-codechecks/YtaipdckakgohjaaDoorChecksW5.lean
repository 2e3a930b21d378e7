/- The walk of surtitlelaw5.CodeChecks. -/
import Derived.Test.YtaipdckakgohjaaDoorCdU
import Derived.Test.YtaipdckakgohjaaDoorCdN
namespace Go.Proofs.YtaipdckakgohjaaDoor
open Go.RowKit Go.Shelf
open Go.Lib (decDigits)
attribute [local go_sem] Oper.semAt_some

set_option maxRecDepth 100000 in
set_option maxHeartbeats 1000000 in
theorem checks_walk (n d a b c : Int) (dr : Bool) (s : ByteArray) (w : World)
    (HK : ∀ w0, Below w.heap.size w w0 → Calls Tryd.prog 15 #[] w0 fun e w' => e = .returned (.bool true) ∧ Below w0.heap.size w0 w')
    (H1 : ∀ w, Calls Tryd.prog 16 #[.agg #[.int .i64 n, .int .i64 d, .bool dr]] w fun e w' => e = .returned (.int .i64 c) ∧ Below w.heap.size w w')
    (H2 : ∀ w, Calls Tryd.prog 17 #[.agg #[.int .i64 n, .int .i64 d, .bool dr]] w fun e w' => e = .returned (.tuple #[.agg #[.int .i64 a, .int .i64 b], .int .i64 c]) ∧ Below w.heap.size w w')
    (H3 : ∀ w0, Below w.heap.size w w0 → Calls Tryd.prog 18 #[.agg #[.int .i64 n, .int .i64 d, .bool dr]] w0 fun e w' => e = .returned (.tuple #[.string s, .int .i64 c]) ∧ Below w0.heap.size w0 w')
    (H4 : ∀ w, Calls Tryd.prog 19 #[.agg #[.int .i64 n, .int .i64 d, .bool dr]] w fun e w' => e = .returned (.tuple #[.agg #[.int .i64 a, .int .i64 b], .int .i64 c]) ∧ Below w.heap.size w w')
    (H5 : ∀ w, Calls Tryd.prog 20 #[.agg #[.int .i64 n, .int .i64 d, .bool dr]] w fun e w' => e = .returned (.tuple #[.string s, .int .i64 c]) ∧ Below w.heap.size w w')
    (H6 : ∀ w, Calls Tryd.prog 21 #[.agg #[.int .i64 n, .int .i64 d, .bool dr]] w fun e w' => e = .returned (.int .i64 c) ∧ Below w.heap.size w w') :
    Calls Tryd.prog 4 #[.agg #[.int .i64 n, .int .i64 d, .bool dr]] w fun e w' => e = .returned (.bool true) ∧ Below w.heap.size w w' := by
  have HK := hideR HK
  have H1 := hideR H1
  have H2 := hideR H2
  have H3 := hideR H3
  have H4 := hideR H4
  have H5 := hideR H5
  have H6 := hideR H6
  go_enter Tryd.func4, Tryd.ntmps4
  go_wp2_with fail
  go_at_call 15
  refine (HK.out _ (bel1 w _)).mono ?_
  rintro e w1 ⟨rfl, b1⟩
  have A1 := ((RateAt.new w n d dr).keep b1)
  have B1 := bup (bel1 w _) b1
  clear b1
  obtain ⟨_, a0, a1, a2⟩ := id A1
  go_wp2_with fail
  go_at_call 16
  refine (H1.out _).mono ?_
  rintro e w2 ⟨rfl, b2⟩
  have A2 := (A1.keep b2)
  have B2 := bup B1 b2
  clear A1 B1 a0 a1 a2
  clear b2
  obtain ⟨_, a0, a1, a2⟩ := id A2
  go_wp2_with fail
  go_at_call 17
  refine (H2.out _).mono ?_
  rintro e w3 ⟨rfl, b3⟩
  have A3 := (A2.keep b3).alloc (.cells #[.int .i64 a, .int .i64 b] 28)
  have B3 := bup (bup B2 b3) (bel1 w3 (.cells #[.int .i64 a, .int .i64 b] 28))
  clear A2 B2 a0 a1 a2
  clear b3
  have T3 := Two.new w3 (.int .i64 a) (.int .i64 b) 28
  obtain ⟨_, a0, a1, a2⟩ := id A3
  obtain ⟨_, t0, t1, t2, t3⟩ := id T3
  go_wp2_with fail
  go_at_call 18
  refine (H3.out _ B3).mono ?_
  rintro e w4 ⟨rfl, b4⟩
  have A4 := (A3.keep b4)
  have T4 := (T3.keep b4)
  have B4 := bup B3 b4
  clear A3 T3 B3 a0 a1 a2 t0 t1 t2 t3
  clear b4
  obtain ⟨_, a0, a1, a2⟩ := id A4
  obtain ⟨_, t0, t1, t2, t3⟩ := id T4
  go_wp2_with fail
  go_at_call 19
  refine (H4.out _).mono ?_
  rintro e w5 ⟨rfl, b5⟩
  have A5 := (A4.keep b5).alloc (.cells #[.int .i64 a, .int .i64 b] 28)
  have T5 := (T4.keep b5).alloc (.cells #[.int .i64 a, .int .i64 b] 28)
  have B5 := bup (bup B4 b5) (bel1 w5 (.cells #[.int .i64 a, .int .i64 b] 28))
  clear A4 T4 B4 a0 a1 a2 t0 t1 t2 t3
  clear b5
  have X5 := Two.new w5 (.int .i64 a) (.int .i64 b) 28
  obtain ⟨_, a0, a1, a2⟩ := id A5
  obtain ⟨_, t0, t1, t2, t3⟩ := id T5
  obtain ⟨_, x0, x1, x2, x3⟩ := id X5
  go_wp2_with fail
  go_at_call 20
  refine (H5.out _).mono ?_
  rintro e w6 ⟨rfl, b6⟩
  have A6 := (A5.keep b6)
  have T6 := (T5.keep b6)
  have X6 := (X5.keep b6)
  have B6 := bup B5 b6
  clear A5 T5 X5 B5 a0 a1 a2 t0 t1 t2 t3 x0 x1 x2 x3
  clear b6
  obtain ⟨_, a0, a1, a2⟩ := id A6
  obtain ⟨_, t0, t1, t2, t3⟩ := id T6
  obtain ⟨_, x0, x1, x2, x3⟩ := id X6
  go_wp2_with fail
  go_at_call 21
  refine (H6.out _).mono ?_
  rintro e w7 ⟨rfl, b7⟩
  have A7 := (A6.keep b7)
  have T7 := (T6.keep b7)
  have X7 := (X6.keep b7)
  have B7 := bup B6 b7
  clear A6 T6 X6 B6 a0 a1 a2 t0 t1 t2 t3 x0 x1 x2 x3
  clear b7
  obtain ⟨_, a0, a1, a2⟩ := id A7
  obtain ⟨_, t0, t1, t2, t3⟩ := id T7
  obtain ⟨_, x0, x1, x2, x3⟩ := id X7
  go_wp2_with fail
  go_ret
  exact ⟨by simp, B7⟩
theorem pad1 (m : Nat) : padL m 1 = decDigits m := by
  unfold padL
  have : 1 ≤ (decDigits m).length := by
    by_cases h : m < 10
    · rw [dd_few m h]; simp
    · rw [dd_step m h]; simp
  rw [show 1 - (decDigits m).length = 0 by omega]
  rfl
theorem dd_len5 (x : Nat) (hx : x ≤ 9223372036854775807) : (decDigits x).length ≤ 100 := by
  have := Lib.itoa_length_le (x : Int) (by omega) (by omega)
  rw [itoa_nat] at this
  omega
theorem checks_any (n d : Int) (dr : Bool) (hn : I64 n) (hd : I64 d) (w : World) (hp : PowAt w) :
    Calls Tryd.prog 4 #[.agg #[.int .i64 n, .int .i64 d, .bool dr]] w fun e w' => e = .returned (.bool true) ∧ Below w.heap.size w w' := by
  have HK := fun (w0 : World) (b0 : Below w.heap.size w w0) => known5_any w0 (hp.keep b0)
  have H1 := check_any n d dr hn hd
  have H6 := rcheck_any n d dr
  have H2 := grid_any n d dr hn hd
  unfold gridF at H2
  by_cases h : checkI n d dr = 0
  · rw [if_pos h] at H2
    rw [h] at H1 H6
    obtain ⟨n1, d1, _, _, _⟩ := full_ok n d dr h
    obtain ⟨m, hm⟩ := Int.eq_ofNat_of_zero_le (show 0 ≤ n by omega)
    obtain ⟨k, hk⟩ := Int.eq_ofNat_of_zero_le (show 0 ≤ d by omega)
    have I1 := fun (w0 : World) (b0 : Below w.heap.size w w0) => itoa_any m (by omega) w0 (hp.keep b0)
    have I2 := fun (w0 : World) (b0 : Below w.heap.size w w0) => itoa_any k (by omega) w0 (hp.keep b0)
    have G1 := rdigits_any m 1 (by omega) (by omega) (by omega)
    have G2 := rdigits_any k 1 (by omega) (by omega) (by omega)
    rw [pad1] at G1 G2
    rw [← hm] at I1 G1
    rw [← hk] at I2 G2
    have la := dd_len5 m (by omega)
    have lb := dd_len5 k (by omega)
    by_cases e1 : d = 1
    · cases dr
      · subst e1
        exact checks_walk n 1 _ _ 0 false _ w HK H1 H2 (fun w0 b0 => rt_onef n _ w0 H1 (fun w1 b1 => I1 w1 (bup b0 b1))) (rgr_ok n 1 false · H6) (rrt_onef n _ · H6 G1) H6
      · exfalso
        unfold checkI at h
        by_cases c : 1 ≤ n ∧ n ≤ 240000 ∧ 1 ≤ d ∧ d ≤ 1001 ∧ d ≤ n ∧ n ≤ d * 240 ∧ rightB ⟨n, d⟩ = true ∧ (true = true → leftI n d ≠ 0)
        · have := c.2.2.2.2.2.2.2 rfl
          unfold leftI at this
          rw [if_neg (by omega), if_neg (by omega)] at this
          exact this rfl
        · rw [if_neg c] at h
          cases h
    · have e2 : (d != 1) = true := by simpa using e1
      cases dr
      · exact checks_walk n d _ _ 0 false _ w HK H1 H2 (fun w0 b0 => rt_twof n d _ la _ lb e2 w0 H1 (fun w1 b1 => I1 w1 (bup b0 b1)) (fun w1 b1 => I2 w1 (bup b0 b1))) (rgr_ok n d false · H6) (rrt_twof n d _ la _ lb e2 · H6 G1 G2) H6
      · exact checks_walk n d _ _ 0 true _ w HK H1 H2 (fun w0 b0 => rt_twot n d _ la _ lb e2 w0 H1 (fun w1 b1 => I1 w1 (bup b0 b1)) (fun w1 b1 => I2 w1 (bup b0 b1))) (rgr_ok n d true · H6) (rrt_twot n d _ la _ lb e2 · H6 G1 G2) H6
  · rw [if_neg h] at H2
    rw [(check_two n d dr).resolve_left h] at H1 H6
    exact checks_walk n d _ _ 14 dr _ w HK H1 H2 (fun w0 _ => rt_bad n d 14 dr rfl w0 H1) (rgr_bad n d 14 dr rfl · H6) (rrt_bad n d 14 dr rfl · H6) H6
end Go.Proofs.YtaipdckakgohjaaDoor
