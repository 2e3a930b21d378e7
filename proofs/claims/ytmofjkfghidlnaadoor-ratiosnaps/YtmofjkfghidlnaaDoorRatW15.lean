/- The contract of package ratio's Snap. -/
import Derived.Test.YtmofjkfghidlnaaDoorRatW14
namespace Go.Proofs.YtmofjkfghidlnaaDoor
open Go.RowKit Go.Shelf
attribute [local go_sem] Oper.semAt_some

set_option maxRecDepth 100000 in
set_option maxHeartbeats 400000 in
theorem snap_not (an ad bn bd how : Int) (ok : Bool)
    (HA : ∀ w, Calls Tryd.prog 21 #[.agg #[.int .i64 an, .int .i64 ad]] w fun e w' => e = .returned (.bool ok) ∧ Below w.heap.size w w')
    (HB : ok = true → ∀ w, Calls Tryd.prog 21 #[.agg #[.int .i64 bn, .int .i64 bd]] w fun e w' => e = .returned (.bool false) ∧ Below w.heap.size w w') (w : World) :
    Calls Tryd.prog 43 #[.agg #[.int .i64 an, .int .i64 ad], .agg #[.int .i64 bn, .int .i64 bd], .int .i64 how] w fun e w' => e = .returned (.tuple #[.agg #[.int .i64 0, .int .i64 0], .int .i64 12]) ∧ Below w.heap.size w w' := by
  have HA := hideR HA
  cases ok
  all_goals (
    go_enter Tryd.func43, Tryd.ntmps43
    go_wp2_with fail
    go_at_call 21
    refine Calls.mono (HA.out _) ?_
    rintro e w1 ⟨rfl, b1⟩
    have S1 := (Three.new w an ad bn bd 0 0 26).keep b1
    have BB1 := bup (bel3 w _ _ _) b1
    clear b1
    obtain ⟨⟨_, a0, a1, _, _⟩, ⟨_, p0, p1, _, _⟩, ⟨_, c0, c1, f0, f1⟩⟩ := id S1
    go_wp2_with fail)
  · exact bodyPost_ret (v := .tuple #[.agg #[.int .i64 0, .int .i64 0], .int .i64 12]) (by simp [results, Tryd.results43, go_sem, c0, c1]) rfl ⟨rfl, (BB1.setCell (by simp; omega) _).setCell (by simp; omega) _⟩
  · have HB := hideR (HB (by trivial))
    go_at_call 21
    refine Calls.mono (HB.out _) ?_
    rintro e V ⟨rfl, b2⟩
    have SV := S1.keep b2
    have BV := bup BB1 b2
    clear a0 a1 p0 p1 c0 c1 f0 f1 S1 BB1 b2
    obtain ⟨⟨_, a0, a1, _, _⟩, ⟨_, p0, p1, _, _⟩, ⟨_, c0, c1, f0, f1⟩⟩ := id SV
    go_wp2_with fail
    exact bodyPost_ret (v := .tuple #[.agg #[.int .i64 0, .int .i64 0], .int .i64 12]) (by simp [results, Tryd.results43, go_sem, c0, c1]) rfl ⟨rfl, (BV.setCell (by simp; omega) _).setCell (by simp; omega) _⟩

set_option maxRecDepth 100000 in
set_option maxHeartbeats 400000 in
theorem snap_zero (an ad bn bd how : Int) (hb : bn ≤ 0)
    (HA : ∀ w, Calls Tryd.prog 21 #[.agg #[.int .i64 an, .int .i64 ad]] w fun e w' => e = .returned (.bool true) ∧ Below w.heap.size w w')
    (HB : ∀ w, Calls Tryd.prog 21 #[.agg #[.int .i64 bn, .int .i64 bd]] w fun e w' => e = .returned (.bool true) ∧ Below w.heap.size w w') (w : World) :
    Calls Tryd.prog 43 #[.agg #[.int .i64 an, .int .i64 ad], .agg #[.int .i64 bn, .int .i64 bd], .int .i64 how] w fun e w' => e = .returned (.tuple #[.agg #[.int .i64 0, .int .i64 0], .int .i64 11]) ∧ Below w.heap.size w w' := by
  have HA := hideR HA
  have HB := hideR HB
  go_enter Tryd.func43, Tryd.ntmps43
  go_wp2_with fail
  go_at_call 21
  refine Calls.mono (HA.out _) ?_
  rintro e w1 ⟨rfl, b1⟩
  have S1 := (Three.new w an ad bn bd 0 0 26).keep b1
  have BB1 := bup (bel3 w _ _ _) b1
  clear b1
  obtain ⟨⟨_, a0, a1, _, _⟩, ⟨_, p0, p1, _, _⟩, ⟨_, c0, c1, f0, f1⟩⟩ := id S1
  go_wp2_with fail
  go_at_call 21
  refine Calls.mono (HB.out _) ?_
  rintro e V ⟨rfl, b2⟩
  have SV := S1.keep b2
  have BV := bup BB1 b2
  clear a0 a1 p0 p1 c0 c1 f0 f1 S1 BB1 b2
  obtain ⟨⟨_, a0, a1, _, _⟩, ⟨_, p0, p1, _, _⟩, ⟨_, c0, c1, f0, f1⟩⟩ := id SV
  go_wp2_with fail
  exact bodyPost_ret (v := .tuple #[.agg #[.int .i64 0, .int .i64 0], .int .i64 11]) (by simp [results, Tryd.results43, go_sem, c0, c1]) rfl ⟨rfl, (BV.setCell (by simp; omega) _).setCell (by simp; omega) _⟩

theorem snap_any (a : Rt) (ha : RtIn a) (g : Rt) (hg : RtIn g) (how : Int) (w : World) :
    Calls Tryd.prog 43 #[rtv a, rtv g, .int .i64 how] w fun e w' => e = .returned (.tuple #[rtv (snapA a g how).1, .int .i64 (snapA a g how).2]) ∧ Below w.heap.size w w' := by
  have HA := right_any a ha
  have HB := right_any g hg
  cases h1 : rightB a
  · rw [show snapA a g how = (⟨0, 0⟩, 12) by unfold snapA; rw [if_neg (by simp [h1])]; rfl]
    rw [h1] at HA
    exact snap_not a.N a.D g.N g.D how false HA (fun h => by cases h) w
  · rw [h1] at HA
    cases h2 : rightB g
    · rw [show snapA a g how = (⟨0, 0⟩, 12) by unfold snapA; rw [if_neg (by simp [h2])]; rfl]
      rw [h2] at HB
      exact snap_not a.N a.D g.N g.D how true HA (fun _ => HB) w
    · rw [h2] at HB
      by_cases h0 : g.N ≤ 0
      · rw [show snapA a g how = (⟨0, 0⟩, 11) by unfold snapA; rw [if_pos (by simp [h1, h2]), if_pos h0]; rfl]
        exact snap_zero a.N a.D g.N g.D how h0 HA HB w
      · have ra := (right_iff a).1 h1
        have rg := (right_iff g).1 h2
        have tb := top_bounds h1 h2
        have HM := made_any (a.N * g.D) g.N a.D how (by omega) (by omega) (by omega) (by omega) (by omega) (by omega)
        rw [Int.mul_comm g.N a.D] at HM
        have es : snapA a g how = if howB how = true then (if inNum (snapK a g how) = true then low (Rat.divInt (snapK a g how * g.N) g.D) else bad 12) else bad 1 := by
          unfold snapA; rw [if_pos (by simp [h1, h2]), if_neg h0]
        rw [es]
        by_cases hh : howB how = true
        · by_cases hi : inNum (snapK a g how) = true
          · have em : madeA (a.N * g.D) (a.D * g.N) how = (snapK a g how, 0) := by
              unfold madeA
              rw [if_pos hh]
              exact if_pos hi
            rw [em] at HM
            rw [if_pos hh, if_pos hi]
            have hk := inNum_wf _ hi
            have hy := mul_bounds (x := snapK a g how) (y := g.N) (X := 4611686018427387904) (Y := 4611686018427387904) hk ⟨by omega, by omega⟩
            exact snap_walk a.N a.D g.N g.D how (a.N * g.D) (snapK a g how) 0 (snapK a g how * g.N) _ (by omega) ra.2.1 (by omega) rg.2.2.2.1 (by omega) rg.2.1 HA HB (product_any _ _ ha.1 hg.2) HM (.inr ⟨rfl, product_any _ _ ⟨by omega, by omega⟩ hg.1, lowest_any _ _ (by unfold In128; omega) (by omega) (by omega)⟩) w
          · have em : madeA (a.N * g.D) (a.D * g.N) how = (0, 12) := by
              unfold madeA
              rw [if_pos hh]
              exact if_neg hi
            rw [em] at HM
            rw [if_pos hh, if_neg hi]
            exact snap_walk a.N a.D g.N g.D how (a.N * g.D) 0 12 (snapK a g how * g.N) _ (by omega) ra.2.1 (by omega) rg.2.2.2.1 (by omega) rg.2.1 HA HB (product_any _ _ ha.1 hg.2) HM (.inl ⟨by omega, rfl⟩) w
        · have em : madeA (a.N * g.D) (a.D * g.N) how = (0, 1) := if_neg hh
          rw [em] at HM
          rw [if_neg hh]
          exact snap_walk a.N a.D g.N g.D how (a.N * g.D) 0 1 (snapK a g how * g.N) _ (by omega) ra.2.1 (by omega) rg.2.2.2.1 (by omega) rg.2.1 HA HB (product_any _ _ ha.1 hg.2) HM (.inl ⟨by omega, rfl⟩) w
end Go.Proofs.YtmofjkfghidlnaaDoor
