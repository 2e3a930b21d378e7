/- surtitleref5: Timed. -/
import Derived.Test.YtaipdckakgohjaaDoorCRefA
import Derived.Test.YtaipdckakgohjaaDoorRefB4
namespace Go.Proofs.YtaipdckakgohjaaDoor
open Go.RowKit Go.Shelf
attribute [local go_sem] Oper.semAt_some

set_option maxRecDepth 100000 in
theorem timed_out (N D : Int) (h : D < 1 ∨ 2147483648 < D ∨ N < -4611686018427387904 ∨ 4611686018427387904 < N) (w : World) :
    Calls Tryd.prog 56 #[.agg #[.int .i64 N, .int .i64 D]] w fun e w' => e = .returned (.int .i64 12) ∧ Below w.heap.size w w' := by
  rcases h with h | h | h | h
  all_goals (
    go_enter Tryd.func56, Tryd.ntmps56
    go_wp2_with fail)
  all_goals (go_ret; exact ⟨rfl, bel1 w _⟩)
set_option maxRecDepth 100000 in
set_option maxHeartbeats 1000000 in
theorem timed_neg (N D a g : Int) (h1 : 1 ≤ D) (h2 : D ≤ 2147483648) (h3 : -4611686018427387904 ≤ N) (h4 : N ≤ 4611686018427387904) (hN : N < 0) (ha : 0 - N = a) (w : World)
    (HC : ∀ w, Calls Tryd.prog 42 #[.int .i64 a, .int .i64 D] w fun e w' => e = .returned (.int .i64 g) ∧ ∃ m, w' = w.drewN m) :
    Calls Tryd.prog 56 #[.agg #[.int .i64 N, .int .i64 D]] w fun e w' => e = .returned (.int .i64 (if g = 1 ∧ D ≤ 1048576 then 31 else 12)) ∧ Below w.heap.size w w' := by
  have HC := hideR HC
  by_cases c1 : g = 1
  · subst c1
    by_cases c2 : D ≤ 1048576
    · rw [if_pos ⟨rfl, c2⟩]
      go_enter Tryd.func56, Tryd.ntmps56
      go_wp2_with fail
      go_at_call 42
      refine (HC.out _).mono ?_
      rintro e w1 ⟨rfl, m, rfl⟩
      have A1 := (Two.new w (.int .i64 N) (.int .i64 D) 28).keep (below_drewN (Below.refl _ (w.alloc (.cells #[.int .i64 N, .int .i64 D] 28))) m)
      have B1 := below_drewN (bel1 w (.cells #[.int .i64 N, .int .i64 D] 28)) m
      generalize (w.alloc (.cells #[.int .i64 N, .int .i64 D] 28)).drewN m = V at *
      obtain ⟨_, a0, a1, _, _⟩ := id A1
      go_wp2_with fail
      go_ret
      exact ⟨rfl, B1⟩
    · rw [if_neg fun h => c2 h.2]
      have c3 : 1048576 < D := by omega
      go_enter Tryd.func56, Tryd.ntmps56
      go_wp2_with fail
      go_at_call 42
      refine (HC.out _).mono ?_
      rintro e w1 ⟨rfl, m, rfl⟩
      have A1 := (Two.new w (.int .i64 N) (.int .i64 D) 28).keep (below_drewN (Below.refl _ (w.alloc (.cells #[.int .i64 N, .int .i64 D] 28))) m)
      have B1 := below_drewN (bel1 w (.cells #[.int .i64 N, .int .i64 D] 28)) m
      generalize (w.alloc (.cells #[.int .i64 N, .int .i64 D] 28)).drewN m = V at *
      obtain ⟨_, a0, a1, _, _⟩ := id A1
      go_wp2_with fail
      go_ret
      exact ⟨rfl, B1⟩
  · rw [if_neg fun h => c1 h.1]
    have x1 : (g == 1) = false := by simpa using c1
    have x2 : (g != 1) = true := by simpa using c1
    go_enter Tryd.func56, Tryd.ntmps56
    go_wp2_with fail
    go_at_call 42
    refine (HC.out _).mono ?_
    rintro e w1 ⟨rfl, m, rfl⟩
    have A1 := (Two.new w (.int .i64 N) (.int .i64 D) 28).keep (below_drewN (Below.refl _ (w.alloc (.cells #[.int .i64 N, .int .i64 D] 28))) m)
    have B1 := below_drewN (bel1 w (.cells #[.int .i64 N, .int .i64 D] 28)) m
    generalize (w.alloc (.cells #[.int .i64 N, .int .i64 D] 28)).drewN m = V at *
    obtain ⟨_, a0, a1, _, _⟩ := id A1
    go_wp2_with fail
    go_ret
    exact ⟨rfl, B1⟩
set_option maxRecDepth 100000 in
set_option maxHeartbeats 1000000 in
theorem timed_pos (N D g q r : Int) (h1 : 1 ≤ D) (h2 : D ≤ 2147483648) (h4 : N ≤ 4611686018427387904) (hN : 0 ≤ N) (hq : N / D = q) (hr : N % D = r) (hq0 : 0 ≤ q ∧ q ≤ 4611686018427387904) (w : World)
    (HC : ∀ w, Calls Tryd.prog 42 #[.int .i64 N, .int .i64 D] w fun e w' => e = .returned (.int .i64 g) ∧ ∃ m, w' = w.drewN m) :
    Calls Tryd.prog 56 #[.agg #[.int .i64 N, .int .i64 D]] w fun e w' => e = .returned (.int .i64 (if g = 1 ∧ D ≤ 1048576 then (if 360000 < q ∨ q = 360000 ∧ r ≠ 0 then 31 else 0) else 12)) ∧ Below w.heap.size w w' := by
  have HC := hideR HC
  by_cases c1 : g = 1
  · subst c1
    by_cases c2 : D ≤ 1048576
    · rw [if_pos ⟨rfl, c2⟩]
      by_cases c4 : 360000 < q
      · rw [if_pos (.inl c4)]
        go_enter Tryd.func56, Tryd.ntmps56
        go_wp2_with fail
        go_at_call 42
        refine (HC.out _).mono ?_
        rintro e w1 ⟨rfl, m, rfl⟩
        have A1 := (Two.new w (.int .i64 N) (.int .i64 D) 28).keep (below_drewN (Below.refl _ (w.alloc (.cells #[.int .i64 N, .int .i64 D] 28))) m)
        have B1 := below_drewN (bel1 w (.cells #[.int .i64 N, .int .i64 D] 28)) m
        generalize (w.alloc (.cells #[.int .i64 N, .int .i64 D] 28)).drewN m = V at *
        obtain ⟨_, a0, a1, _, _⟩ := id A1
        go_wp2_with fail
        go_ret
        exact ⟨rfl, B1⟩
      · by_cases c5 : q = 360000
        · by_cases c6 : r = 0
          · rw [if_neg (by omega)]
            have y1 : N / D = 360000 := hq.trans c5
            have y2 : N % D = 0 := hr.trans c6
            go_enter Tryd.func56, Tryd.ntmps56
            go_wp2_with fail
            go_at_call 42
            refine (HC.out _).mono ?_
            rintro e w1 ⟨rfl, m, rfl⟩
            have A1 := (Two.new w (.int .i64 N) (.int .i64 D) 28).keep (below_drewN (Below.refl _ (w.alloc (.cells #[.int .i64 N, .int .i64 D] 28))) m)
            have B1 := below_drewN (bel1 w (.cells #[.int .i64 N, .int .i64 D] 28)) m
            generalize (w.alloc (.cells #[.int .i64 N, .int .i64 D] 28)).drewN m = V at *
            obtain ⟨_, a0, a1, _, _⟩ := id A1
            go_wp2_with fail
            go_ret
            exact ⟨rfl, B1⟩
          · rw [if_pos (.inr ⟨c5, c6⟩)]
            have y1 : N / D = 360000 := hq.trans c5
            have y2 : (r == 0) = false := by simpa using c6
            have y3 : (r != 0) = true := by simpa using c6
            go_enter Tryd.func56, Tryd.ntmps56
            go_wp2_with fail
            go_at_call 42
            refine (HC.out _).mono ?_
            rintro e w1 ⟨rfl, m, rfl⟩
            have A1 := (Two.new w (.int .i64 N) (.int .i64 D) 28).keep (below_drewN (Below.refl _ (w.alloc (.cells #[.int .i64 N, .int .i64 D] 28))) m)
            have B1 := below_drewN (bel1 w (.cells #[.int .i64 N, .int .i64 D] 28)) m
            generalize (w.alloc (.cells #[.int .i64 N, .int .i64 D] 28)).drewN m = V at *
            obtain ⟨_, a0, a1, _, _⟩ := id A1
            go_wp2_with fail
            go_ret
            exact ⟨rfl, B1⟩
        · rw [if_neg (by omega)]
          have y1 : (q == 360000) = false := by simpa using c5
          have y4 : q < 360000 := by omega
          go_enter Tryd.func56, Tryd.ntmps56
          go_wp2_with fail
          go_at_call 42
          refine (HC.out _).mono ?_
          rintro e w1 ⟨rfl, m, rfl⟩
          have A1 := (Two.new w (.int .i64 N) (.int .i64 D) 28).keep (below_drewN (Below.refl _ (w.alloc (.cells #[.int .i64 N, .int .i64 D] 28))) m)
          have B1 := below_drewN (bel1 w (.cells #[.int .i64 N, .int .i64 D] 28)) m
          generalize (w.alloc (.cells #[.int .i64 N, .int .i64 D] 28)).drewN m = V at *
          obtain ⟨_, a0, a1, _, _⟩ := id A1
          go_wp2_with fail
          go_ret
          exact ⟨rfl, B1⟩
    · rw [if_neg fun h => c2 h.2]
      have c3 : 1048576 < D := by omega
      go_enter Tryd.func56, Tryd.ntmps56
      go_wp2_with fail
      go_at_call 42
      refine (HC.out _).mono ?_
      rintro e w1 ⟨rfl, m, rfl⟩
      have A1 := (Two.new w (.int .i64 N) (.int .i64 D) 28).keep (below_drewN (Below.refl _ (w.alloc (.cells #[.int .i64 N, .int .i64 D] 28))) m)
      have B1 := below_drewN (bel1 w (.cells #[.int .i64 N, .int .i64 D] 28)) m
      generalize (w.alloc (.cells #[.int .i64 N, .int .i64 D] 28)).drewN m = V at *
      obtain ⟨_, a0, a1, _, _⟩ := id A1
      go_wp2_with fail
      go_ret
      exact ⟨rfl, B1⟩
  · rw [if_neg fun h => c1 h.1]
    have x1 : (g == 1) = false := by simpa using c1
    have x2 : (g != 1) = true := by simpa using c1
    go_enter Tryd.func56, Tryd.ntmps56
    go_wp2_with fail
    go_at_call 42
    refine (HC.out _).mono ?_
    rintro e w1 ⟨rfl, m, rfl⟩
    have A1 := (Two.new w (.int .i64 N) (.int .i64 D) 28).keep (below_drewN (Below.refl _ (w.alloc (.cells #[.int .i64 N, .int .i64 D] 28))) m)
    have B1 := below_drewN (bel1 w (.cells #[.int .i64 N, .int .i64 D] 28)) m
    generalize (w.alloc (.cells #[.int .i64 N, .int .i64 D] 28)).drewN m = V at *
    obtain ⟨_, a0, a1, _, _⟩ := id A1
    go_wp2_with fail
    go_ret
    exact ⟨rfl, B1⟩
theorem timed_any (t : Rt) (w : World) :
    Calls Tryd.prog 56 #[rtv t] w fun e w' => e = .returned (.int .i64 (timeA t)) ∧ Below w.heap.size w w' := by
  have ri := right_iff t
  by_cases h : t.D < 1 ∨ 2147483648 < t.D ∨ t.N < -4611686018427387904 ∨ 4611686018427387904 < t.N
  · have e : timeA t = 12 := by
      unfold timeA
      rw [if_neg fun c => by have := ri.1 c.1; omega]
    rw [e]
    exact timed_out t.N t.D h w
  · have HC : ∀ w, Calls Tryd.prog 42 #[.int .i64 (t.N.natAbs : Nat), .int .i64 t.D] w fun e w' => e = .returned (.int .i64 (t.N.natAbs.gcd t.D.natAbs : Nat)) ∧ ∃ m, w' = w.drewN m := fun w => by
      have := common5_any t.N.natAbs t.D.natAbs (by omega) (by omega) w
      rwa [show ((t.D.natAbs : Nat) : Int) = t.D by omega] at this
    have rg : rightB t = true ↔ ((t.N.natAbs.gcd t.D.natAbs : Nat) : Int) = 1 := by
      rw [ri]
      constructor
      · intro h; have := h.2.2.2.2; omega
      · intro h; exact ⟨by omega, by omega, by omega, by omega, by omega⟩
    by_cases hN : t.N < 0
    · have := timed_neg t.N t.D _ _ (by omega) (by omega) (by omega) (by omega) hN rfl w (by rw [show 0 - t.N = ((t.N.natAbs : Nat) : Int) by omega]; exact HC)
      unfold timeA
      by_cases c : rightB t = true ∧ t.D ≤ 1048576
      · rw [if_pos c, if_pos (.inl hN)]
        rw [if_pos ⟨rg.1 c.1, c.2⟩] at this
        exact this
      · rw [if_neg c]
        rw [if_neg fun x => c ⟨rg.2 x.1, x.2⟩] at this
        exact this
    · have := timed_pos t.N t.D _ _ _ (by omega) (by omega) (by omega) (by omega) rfl rfl ⟨Int.ediv_nonneg (by omega) (by omega), Int.le_trans (Int.ediv_le_self _ (by omega)) (by omega)⟩ w (by rw [show ((t.N.natAbs : Nat) : Int) = t.N by omega] at HC; exact HC)
      unfold timeA
      by_cases c : rightB t = true ∧ t.D ≤ 1048576
      · rw [if_pos c]
        rw [if_pos ⟨rg.1 c.1, c.2⟩] at this
        have hc : (t.N < 0 ∨ 0 < cmpI t ⟨360000, 1⟩) ↔ (360000 < t.N / t.D ∨ t.N / t.D = 360000 ∧ t.N % t.D ≠ 0) := by
          have dm := Int.mul_ediv_add_emod t.N t.D
          have m0 := Int.emod_nonneg t.N (show t.D ≠ 0 by omega)
          have m1 := Int.emod_lt_of_pos t.N (show 0 < t.D by omega)
          have l1 : 360000 < t.N / t.D ↔ 360001 * t.D ≤ t.N := by
            rw [← Int.le_ediv_iff_mul_le (show 0 < t.D by omega)]
            omega
          have l2 : 360000 ≤ t.N / t.D ↔ 360000 * t.D ≤ t.N := by
            rw [← Int.le_ediv_iff_mul_le (show 0 < t.D by omega)]
          have cm : 0 < cmpI t ⟨360000, 1⟩ ↔ 360000 * t.D < t.N := by
            unfold cmpI
            simp only [Int.mul_one]
            split
            · omega
            · split <;> omega
          constructor
          · rintro (h | h)
            · exact absurd h hN
            · have := cm.1 h
              by_cases hq : 360000 < t.N / t.D
              · exact .inl hq
              · have e : t.N / t.D = 360000 := by omega
                refine .inr ⟨e, fun z => ?_⟩
                rw [e, z] at dm
                omega
          · rintro (h | ⟨h1, h2⟩)
            · exact .inr (cm.2 (by have := l1.1 h; omega))
            · refine .inr (cm.2 ?_)
              rw [h1] at dm
              omega
        by_cases c2 : t.N < 0 ∨ 0 < cmpI t ⟨360000, 1⟩
        · rw [if_pos c2]
          rw [if_pos (hc.1 c2)] at this
          exact this
        · rw [if_neg c2]
          rw [if_neg fun x => c2 (hc.2 x)] at this
          exact this
      · rw [if_neg c]
        rw [if_neg fun x => c ⟨rg.2 x.1, x.2⟩] at this
        exact this
end Go.Proofs.YtaipdckakgohjaaDoor
