/- Contracts of surtitleref3: Right, both. -/
import Derived.Test.YtipnefaggpigfaaRefA1
namespace Go.Proofs.Ytipnefaggpigfaa
open Go.RowKit Go.Shelf
attribute [local go_sem] Oper.semAt_some

set_option maxRecDepth 100000 in
set_option maxHeartbeats 1000000 in
theorem rright_walk (n d g : Int) (b : Bool) (hN : I64 n) (hD : I64 d)
    (HM : 1 ≤ d → ∀ w, Calls Try.prog 78 #[.int .u64 (sz n), .int .u64 d] w fun e w' => e = .returned (.int .u64 g) ∧ ∃ m, w' = w.drewN m)
    (hres : (d < 1 ∧ b = false) ∨ (1 ≤ d ∧ 2147483648 < d ∧ b = false) ∨ (1 ≤ d ∧ d ≤ 2147483648 ∧ n < -4611686018427387904 ∧ b = false) ∨ (1 ≤ d ∧ d ≤ 2147483648 ∧ -4611686018427387904 ≤ n ∧ 4611686018427387904 < n ∧ b = false) ∨ (1 ≤ d ∧ d ≤ 2147483648 ∧ -4611686018427387904 ≤ n ∧ n ≤ 4611686018427387904 ∧ b = (g == 1))) (w : World) :
    Calls Try.prog 58 #[.agg #[.int .i64 n, .int .i64 d]] w fun e w' => e = .returned (.bool b) ∧ Below w.heap.size w w' := by
  have HM := hideR HM
  have HS := hideR (rsize_any n hN)
  have hs := sz_range n hN
  unfold I64 at hN hD
  generalize sz n = s at *
  rcases hres with ⟨h1, rfl⟩ | ⟨h1, h2, rfl⟩ | ⟨h1, h2, h3, rfl⟩ | ⟨h1, h2, h3, h4, rfl⟩ | ⟨h1, h2, h3, h4, rfl⟩
  all_goals (
    go_enter Try.func58, Try.ntmps58
    go_wp2_with fail)
  · have q1 : ¬ 1 ≤ d := by omega
    go_quiet (fail)
    go_wp2_with fail
    go_ret
    exact ⟨rfl, below_drewN (bel1 _ _) _⟩
  · have q1 : ¬ d ≤ 2147483648 := by omega
    go_quiet (fail)
    go_wp2_with fail
    go_ret
    exact ⟨rfl, below_drewN (bel1 _ _) _⟩
  · have q1 : ¬ -4611686018427387904 ≤ n := by omega
    go_quiet (fail)
    go_wp2_with fail
    go_ret
    exact ⟨rfl, below_drewN (bel1 _ _) _⟩
  · have q1 : ¬ n ≤ 4611686018427387904 := by omega
    go_quiet (fail)
    go_wp2_with fail
    go_ret
    exact ⟨rfl, below_drewN (bel1 _ _) _⟩
  · have HM := hideR (HM.out h1)
    go_quiet (first | (go_at_call 79; exact Calls.quiet_of_same (HS.out _)) | (go_at_call 78; exact Calls.quiet_of (HM.out _)))
    go_wp2_with fail
    go_ret
    exact ⟨rfl, below_drewN (bel1 _ _) _⟩

theorem rright_r (r : Rt) (h : RtIn r) (w : World) :
    Calls Try.prog 58 #[rtv r] w fun e w' => e = .returned (.bool (rightB r)) ∧ Below w.heap.size w w' := by
  have hs := sz_range r.N h.1
  obtain ⟨x, ex⟩ := Int.eq_ofNat_of_zero_le hs.1
  refine rright_walk r.N r.D ((sz r.N).toNat.gcd r.D.toNat : Nat) (rightB r) h.1 h.2 (fun hd w => ?_) ?_ w
  · obtain ⟨y, ey⟩ := Int.eq_ofNat_of_zero_le (show 0 ≤ r.D by omega)
    have h2 := h.2.2
    rw [ex, ey]
    exact rcommon_any x y (by omega) (by omega) w
  · by_cases h1 : r.D < 1
    · exact .inl ⟨h1, by unfold rightB; rw [decide_eq_false]; omega⟩
    · by_cases h2 : 2147483648 < r.D
      · exact .inr (.inl ⟨by omega, h2, by unfold rightB; rw [decide_eq_false]; omega⟩)
      · by_cases h3 : r.N < -4611686018427387904
        · exact .inr (.inr (.inl ⟨by omega, by omega, h3, by unfold rightB; rw [decide_eq_false]; omega⟩))
        · by_cases h4 : 4611686018427387904 < r.N
          · exact .inr (.inr (.inr (.inl ⟨by omega, by omega, by omega, h4, by unfold rightB; rw [decide_eq_false]; omega⟩)))
          · exact .inr (.inr (.inr (.inr ⟨by omega, by omega, by omega, by omega, right_sz r _ (by omega) rfl (by omega) (by unfold sz; omega)⟩)))

set_option maxRecDepth 100000 in
theorem rboth_walk (an ad bn bd : Int) (x y : Bool)
    (HA : ∀ w, Calls Try.prog 58 #[.agg #[.int .i64 an, .int .i64 ad]] w fun e w' => e = .returned (.bool x) ∧ Below w.heap.size w w')
    (HB : ∀ w, Calls Try.prog 58 #[.agg #[.int .i64 bn, .int .i64 bd]] w fun e w' => e = .returned (.bool y) ∧ Below w.heap.size w w') (w : World) :
    Calls Try.prog 62 #[.agg #[.int .i64 an, .int .i64 ad], .agg #[.int .i64 bn, .int .i64 bd]] w fun e w' => e = .returned (.bool (x && y)) ∧ Below w.heap.size w w' := by
  have HA := hideR HA
  have HB := hideR HB
  cases x
  all_goals (
    go_enter Try.func62, Try.ntmps62
    go_wp2_with fail
    go_at_call 58
    refine (HA.out _).mono ?_
    rintro e w1 ⟨rfl, b1⟩
    have S1 := (Two.new (w.alloc (.cells #[.int .i64 an, .int .i64 ad] 42)) (.int .i64 bn) (.int .i64 bd) 42).keep b1
    have B1 := bup (bel2 w _ _) b1
    obtain ⟨_, c0, c1, _, _⟩ := id S1
    rw [show (w.alloc (.cells #[.int .i64 an, .int .i64 ad] 42)).heap.size = w.heap.size + 1 by simp] at c0 c1
    go_wp2_with fail)
  · go_ret
    exact ⟨rfl, B1⟩
  · go_at_call 58
    refine (HB.out _).mono ?_
    rintro e w2 ⟨rfl, b2⟩
    go_wp2_with fail
    go_ret
    exact ⟨rfl, bup B1 b2⟩
theorem rboth_any (a b : Rt) (ha : RtIn a) (hb : RtIn b) (w : World) :
    Calls Try.prog 62 #[rtv a, rtv b] w fun e w' => e = .returned (.bool (rightB a && rightB b)) ∧ Below w.heap.size w w' :=
  rboth_walk a.N a.D b.N b.D _ _ (rright_r a ha) (rright_r b hb) w
end Go.Proofs.Ytipnefaggpigfaa
