/- The walk of surtitlelaw3.RatioCounts. -/
import Derived.Test.YtmofjkfghidlnaaDoorRatFine
import Derived.Test.YtmofjkfghidlnaaDoorRatW13
namespace Go.Proofs.YtmofjkfghidlnaaDoor
open Go.RowKit
attribute [local go_sem] Oper.semAt_some

set_option maxRecDepth 100000 in
set_option maxHeartbeats 1000000 in
theorem counts_walk (n q t p D M s lo hi near rn rd : Int) (hn : -2147483648 ≤ n ∧ n ≤ 2147483647) (hq : 1 ≤ q ∧ q ≤ 65535) (ht : -32768 ≤ t ∧ t ≤ 32767)
    (hp : n * t = p) (hp2 : -70368744177664 ≤ p ∧ p ≤ 70368744177664) (hD : p.tdiv q = D) (hD2 : -70368744177665 ≤ D ∧ D ≤ 70368744177665) (hM : p.tmod q = M)
    (hlo : (M = 0 ∧ lo = D) ∨ (¬ M = 0 ∧ p < 0 ∧ lo = D - 1) ∨ (¬ M = 0 ∧ 0 ≤ p ∧ lo = D)) (hs : lo * q = s) (hs2 : 0 ≤ p - s ∧ p - s < q)
    (hhi : (M = 0 ∧ hi = lo) ∨ (¬ M = 0 ∧ hi = lo + 1)) (hnear : (q ≤ 2 * (p - s) ∧ near = lo + 1) ∨ (2 * (p - s) < q ∧ near = lo))
    (H1 : ∀ w, Calls Tryd.prog 19 #[.int .i64 n, .int .i64 q] w fun e w' => e = .returned (.tuple #[.agg #[.int .i64 rn, .int .i64 rd], .int .i64 0]) ∧ Below w.heap.size w w')
    (H2 : ∀ w, Calls Tryd.prog 41 #[.agg #[.int .i64 rn, .int .i64 rd], .int .i64 t, .int .i64 1] w fun e w' => e = .returned (.tuple #[.int .i64 lo, .int .i64 0]) ∧ Below w.heap.size w w')
    (H3 : ∀ w, Calls Tryd.prog 41 #[.agg #[.int .i64 rn, .int .i64 rd], .int .i64 t, .int .i64 3] w fun e w' => e = .returned (.tuple #[.int .i64 hi, .int .i64 0]) ∧ Below w.heap.size w w')
    (H4 : ∀ w, Calls Tryd.prog 41 #[.agg #[.int .i64 rn, .int .i64 rd], .int .i64 t, .int .i64 2] w fun e w' => e = .returned (.tuple #[.int .i64 near, .int .i64 0]) ∧ Below w.heap.size w w') (w : World) :
    Calls Tryd.prog 15 #[.int .i32 n, .int .u16 q, .int .i16 t] w fun e w' => e = .returned (.bool true) ∧ Below w.heap.size w w' := by
  have HK := hideR known_any
  have H1 := hideR H1
  have H2 := hideR H2
  have H3 := hideR H3
  have H4 := hideR H4
  have q0 : ¬ q = 0 := by omega
  rcases hlo with ⟨rfl, rfl⟩ | ⟨hM0, hp0, rfl⟩ | ⟨hM0, hp0, rfl⟩
  all_goals (
    rcases hhi with ⟨hm, rfl⟩ | ⟨hm, rfl⟩
    all_goals first | omega | skip
    rcases hnear with ⟨hq2, rfl⟩ | ⟨hq2, rfl⟩)
  all_goals (
    go_enter Tryd.func15, Tryd.ntmps15
    go_wp2_with fail
    go_at_call 17
    refine Calls.mono (HK.out _) ?_
    rintro e w1 ⟨rfl, b1⟩
    go_wp2_with fail
    go_at_call 19
    refine Calls.mono (H1.out _) ?_
    rintro e w2 ⟨rfl, b2⟩
    have B2 := bup (bup b1 b2) (bel1 w2 (.cells #[.int .i64 rn, .int .i64 rd] 26))
    have T2 := Two.new w2 (.int .i64 rn) (.int .i64 rd) 26
    obtain ⟨_, t0, t1, _, _⟩ := id T2
    go_wp2_with fail
    go_at_call 51
    refine Calls.mono (fine_ok _) ?_
    rintro e w3 ⟨rfl, hw⟩
    obtain rfl := hw.symm
    go_wp2_with fail
    go_at_call 41
    refine Calls.mono (H2.out _) ?_
    rintro e w4 ⟨rfl, b4⟩
    replace T2 := T2.keep b4
    replace B2 := bup B2 b4
    clear t0 t1
    obtain ⟨_, t0, t1, _, _⟩ := id T2
    go_wp2_with fail
    go_at_call 41
    refine Calls.mono (H3.out _) ?_
    rintro e w5 ⟨rfl, b5⟩
    replace T2 := T2.keep b5
    replace B2 := bup B2 b5
    clear t0 t1
    obtain ⟨_, t0, t1, _, _⟩ := id T2
    go_wp2_with fail
    go_at_call 41
    refine Calls.mono (H4.out _) ?_
    rintro e w6 ⟨rfl, b6⟩
    replace T2 := T2.keep b6
    replace B2 := bup B2 b6
    clear t0 t1
    obtain ⟨_, t0, t1, _, _⟩ := id T2
    go_wp2_with fail
    go_at_call 51
    refine Calls.mono (fine_ok _) ?_
    rintro e w30 ⟨rfl, hw⟩
    obtain rfl := hw.symm
    go_wp2_with fail
    go_at_call 51
    refine Calls.mono (fine_ok _) ?_
    rintro e w30 ⟨rfl, hw⟩
    obtain rfl := hw.symm
    go_wp2_with fail
    go_at_call 51
    refine Calls.mono (fine_ok _) ?_
    rintro e w30 ⟨rfl, hw⟩
    obtain rfl := hw.symm
    go_wp2_with fail
    go_ret
    exact ⟨by first | rfl | (simp; omega) | simp, B2⟩)

set_option maxRecDepth 100000 in
theorem counts_zero (n t : Int) (w : World) :
    Calls Tryd.prog 15 #[.int .i32 n, .int .u16 0, .int .i16 t] w fun e w' => e = .returned (.bool true) ∧ Below w.heap.size w w' := by
  have HK := hideR known_any
  go_enter Tryd.func15, Tryd.ntmps15
  go_wp2_with fail
  go_at_call 17
  refine Calls.mono (HK.out _) ?_
  rintro e w1 ⟨rfl, b1⟩
  go_wp2_with fail
  go_ret
  exact ⟨rfl, b1⟩

/-! the mathematics -/
theorem whole_same (how N D n d t : Int) (hD : 0 < D) (hd : 0 < d) (h : Rat.divInt N D = Rat.divInt n d) : wholeI how (N * t) D = wholeI how (n * t) d := by
  have e : ∀ k : Int, Rat.divInt (N * k) D = Rat.divInt (n * k) d := fun k => by
    have a1 := Rat.divInt_mul_divInt N k (d₁ := D) (d₂ := 1)
    have a2 := Rat.divInt_mul_divInt n k (d₁ := d) (d₂ := 1)
    rw [Int.mul_one] at a1 a2
    rw [← a1, ← a2, h]
  unfold wholeI
  split
  · rw [floor_q _ _ hD, floor_q _ _ hd, e]
  · split
    · rw [floor_q _ _ (by omega), floor_q _ _ (by omega), half_q _ _ hD, half_q _ _ hd, e]
    · rw [floor_q _ _ hD, floor_q _ _ hd, ← Int.mul_neg, ← Int.mul_neg, e]

theorem small_fits (n q : Int) (hn : -2147483648 ≤ n ∧ n ≤ 2147483647) (hq : 1 ≤ q ∧ q ≤ 65535) : fitsQ (Rat.divInt n q) = true := by
  have hg : 0 < n.natAbs.gcd q.natAbs := Nat.gcd_pos_of_pos_right _ (by omega)
  have h1 := q_num n q (by omega)
  have h2 := q_den n q (by omega)
  have b1 := ediv_bounds n ((n.natAbs.gcd q.natAbs : Nat) : Int) 2147483648 (by omega) (by omega) (by omega) (by omega)
  have b2 : q / ((n.natAbs.gcd q.natAbs : Nat) : Int) ≤ q := Int.ediv_le_self _ (by omega)
  unfold fitsQ
  rw [h1, h2]
  exact decide_eq_true ⟨by omega, by omega, by omega⟩

theorem counts_any (n : Int) (hn0 : IntKind.i32.min ≤ n ∧ n ≤ IntKind.i32.max) (q : Int) (hq0 : IntKind.u16.min ≤ q ∧ q ≤ IntKind.u16.max) (t : Int) (ht0 : IntKind.i16.min ≤ t ∧ t ≤ IntKind.i16.max) (w : World) :
    Calls Tryd.prog 15 #[.int .i32 n, .int .u16 q, .int .i16 t] w fun e w' => e = .returned (.bool true) ∧ Below w.heap.size w w' := by
  have hn : -2147483648 ≤ n ∧ n ≤ 2147483647 := hn0
  have hq1 : 0 ≤ q ∧ q ≤ 65535 := hq0
  have ht : -32768 ≤ t ∧ t ≤ 32767 := ht0
  by_cases h0 : q = 0
  · subst h0
    exact counts_zero n t w
  · have hq : 1 ≤ q ∧ q ≤ 65535 := by omega
    have hf := small_fits n q hn hq
    obtain ⟨x, hx⟩ : ∃ x : Rt, x = ⟨(Rat.divInt n q).num, (Rat.divInt n q).den⟩ := ⟨_, rfl⟩
    have hr : rightB x = true := by rw [hx]; exact fits_right _ hf
    have hv : valQ x = Rat.divInt n q := by rw [hx]; exact val_fits _
    have hw : newA n q = (x, 0) := by unfold newA; rw [if_neg h0, low_fits _ hf, hx]
    have hri := (right_iff x).1 hr
    have H1 := new_any n q ⟨by omega, by omega⟩ ⟨by omega, by omega⟩
    rw [hw] at H1
    have xin : RtIn x := ⟨⟨by omega, by omega⟩, ⟨by omega, by omega⟩⟩
    obtain ⟨p, hp⟩ : ∃ p, n * t = p := ⟨_, rfl⟩
    have hp2 : -70368744177664 ≤ p ∧ p ≤ 70368744177664 := by
      have := mul_bounds (x := n) (y := t) (X := 2147483648) (Y := 32768) ⟨by omega, by omega⟩ ⟨by omega, by omega⟩
      omega
    have hd := Int.mul_ediv_add_emod p q
    have m0 := Int.emod_nonneg p (show q ≠ 0 by omega)
    have m1 := Int.emod_lt_of_pos p (show 0 < q by omega)
    have db := ediv_bounds p q 70368744177664 (by omega) (by omega) (by omega) (by omega)
    have key : ∀ how, wholeI how (x.N * t) x.D = wholeI how p q := fun how => by rw [← hp]; exact whole_same how x.N x.D n q t (by omega) (by omega) hv
    have hA : ∀ how k, howB how = true → wholeI how p q = k → -4611686018427387904 ≤ k → k ≤ 4611686018427387904 → wholeA x t how = (k, 0) := fun how k h1 h2 h3 h4 => by
      unfold wholeA
      rw [if_pos hr, if_pos h1, key how, h2, if_pos (show inNum k = true from decide_eq_true ⟨h3, h4⟩)]
    have e1 : wholeI 1 p q = p / q := by unfold wholeI; rw [if_pos rfl]
    have e3 : wholeI 3 p q = if p % q = 0 then p / q else p / q + 1 := by
      unfold wholeI
      rw [if_neg (by omega), if_neg (by omega), Int.neg_ediv]
      by_cases hz : p % q = 0
      · rw [if_pos (Int.dvd_of_emod_eq_zero hz), if_pos hz]; omega
      · rw [if_neg (fun h => hz (Int.emod_eq_zero_of_dvd h)), if_neg hz, Int.sign_eq_one_of_pos (by omega)]; omega
    have e2 : wholeI 2 p q = if q ≤ 2 * (p % q) then p / q + 1 else p / q := by
      unfold wholeI
      rw [if_neg (by omega), if_pos rfl]
      have e : 2 * p + q = (2 * (p % q) + q) + (p / q) * (2 * q) := by
        rw [show (p / q) * (2 * q) = 2 * (q * (p / q)) by rw [Int.mul_left_comm, Int.mul_comm (p / q) q]]
        omega
      rw [e, Int.add_mul_ediv_right _ _ (by omega)]
      split
      · rw [show (2 * (p % q) + q) / (2 * q) = 1 by rw [Int.ediv_eq_iff_of_pos (by omega)]; omega]; omega
      · rw [Int.ediv_eq_zero_of_lt (by omega) (by omega)]; omega
    have tq : p.tdiv q = if p % q ≠ 0 ∧ p < 0 then p / q + 1 else p / q := by
      rw [Int.tdiv_eq_ediv]
      split
      · rename_i hz
        rw [if_neg (by rcases hz with h | h <;> simp_all [Int.dvd_iff_emod_eq_zero]), ]
        omega
      · rename_i hz
        rw [if_pos (by simp_all [Int.dvd_iff_emod_eq_zero]), Int.sign_eq_one_of_pos (by omega)]
    have tm : p.tmod q = 0 ↔ p % q = 0 := by rw [← Int.dvd_iff_tmod_eq_zero, Int.dvd_iff_emod_eq_zero]
    have H2 := whole_any x xin t ⟨by omega, by omega⟩ 1
    rw [hA 1 _ rfl e1 (by omega) (by omega)] at H2
    have H3 := whole_any x xin t ⟨by omega, by omega⟩ 3
    rw [hA 3 _ rfl e3 (by split <;> omega) (by split <;> omega)] at H3
    have H4 := whole_any x xin t ⟨by omega, by omega⟩ 2
    rw [hA 2 _ rfl e2 (by split <;> omega) (by split <;> omega)] at H4
    refine counts_walk n q t p (p.tdiv q) (p.tmod q) (p / q * q) (p / q) _ _ x.N x.D hn hq ht hp hp2 rfl (by rw [tq]; split <;> omega) rfl ?_ rfl (by rw [Int.mul_comm]; omega) ?_ ?_ H1 H2 H3 H4 w
    · by_cases hz : p % q = 0
      · exact .inl ⟨tm.2 hz, by rw [tq, if_neg (by omega)]⟩
      · by_cases hs : p < 0
        · exact .inr (.inl ⟨fun h => hz (tm.1 h), hs, by rw [tq, if_pos ⟨hz, hs⟩]; omega⟩)
        · exact .inr (.inr ⟨fun h => hz (tm.1 h), by omega, by rw [tq, if_neg (by omega)]⟩)
    · by_cases hz : p % q = 0
      · exact .inl ⟨tm.2 hz, if_pos hz⟩
      · exact .inr ⟨fun h => hz (tm.1 h), if_neg hz⟩
    · have e : p - p / q * q = p % q := by rw [Int.mul_comm]; omega
      rw [e]
      by_cases hz : q ≤ 2 * (p % q)
      · exact .inl ⟨hz, if_pos hz⟩
      · exact .inr ⟨by omega, if_neg hz⟩
end Go.Proofs.YtmofjkfghidlnaaDoor
