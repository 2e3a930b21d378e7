/- The contracts of surtitleref3.Cmp, surtitleref3.Time and ratio.Time. -/
import Derived.Test.YtipnefaggpigfaaRefA5
import Derived.Test.YtipnefaggpigfaaRefA6
namespace Go.Proofs.Ytipnefaggpigfaa
open Go.RowKit Go.Shelf
attribute [local go_sem] Oper.semAt_some

set_option maxRecDepth 100000 in
set_option maxHeartbeats 1000000 in
theorem rcmp_walk (an ad bn bd c : Int) (pn qn x y : Bool) (ph pl qh ql : Int) (hc : (x = true ∧ c = -1) ∨ (x = false ∧ y = true ∧ c = 1) ∨ (x = false ∧ y = false ∧ c = 0))
    (HP : ∀ w, Calls Try.prog 65 #[.int .i64 an, .int .i64 bd] w fun e w' => e = .returned (.agg #[.bool pn, .int .u64 ph, .int .u64 pl]) ∧ Below w.heap.size w w')
    (HQ : ∀ w, Calls Try.prog 65 #[.int .i64 bn, .int .i64 ad] w fun e w' => e = .returned (.agg #[.bool qn, .int .u64 qh, .int .u64 ql]) ∧ Below w.heap.size w w')
    (HX : ∀ w, Calls Try.prog 80 #[.agg #[.bool pn, .int .u64 ph, .int .u64 pl], .agg #[.bool qn, .int .u64 qh, .int .u64 ql]] w fun e w' => e = .returned (.bool x) ∧ Below w.heap.size w w')
    (HY : ∀ w, Calls Try.prog 80 #[.agg #[.bool qn, .int .u64 qh, .int .u64 ql], .agg #[.bool pn, .int .u64 ph, .int .u64 pl]] w fun e w' => e = .returned (.bool y) ∧ Below w.heap.size w w') (w : World) :
    Calls Try.prog 59 #[.agg #[.int .i64 an, .int .i64 ad], .agg #[.int .i64 bn, .int .i64 bd]] w fun e w' => e = .returned (.int .i64 c) ∧ Below w.heap.size w w' := by
  have HP := hideR HP
  have HQ := hideR HQ
  have HX := hideR HX
  have HY := hideR HY
  rcases hc with ⟨rfl, rfl⟩ | ⟨rfl, rfl, rfl⟩ | ⟨rfl, rfl, rfl⟩
  all_goals (
    go_enter Try.func59, Try.ntmps59
    go_wp2_with fail
    go_at_call 65
    refine Calls.mono (HP.out _) ?_
    rintro e w1 ⟨rfl, b1⟩
    have A1 := (((Two.new w (.int .i64 an) (.int .i64 ad) 42).alloc (.cells #[.int .i64 bn, .int .i64 bd] 42)).keep b1).alloc (.cells #[.bool pn, .int .u64 ph, .int .u64 pl] 93)
    have D1 := ((Two.new (w.alloc (.cells #[.int .i64 an, .int .i64 ad] 42)) (.int .i64 bn) (.int .i64 bd) 42).keep b1).alloc (.cells #[.bool pn, .int .u64 ph, .int .u64 pl] 93)
    rw [show (w.alloc (.cells #[.int .i64 an, .int .i64 ad] 42)).heap.size = w.heap.size + 1 by simp] at D1
    have X1 := Tri.new w1 pn ph pl 93
    have B1 := bup (bup (bel2 w _ _) b1) (bel1 w1 (.cells #[.bool pn, .int .u64 ph, .int .u64 pl] 93))
    clear b1
    obtain ⟨_, a0, a1, _, _⟩ := id A1
    obtain ⟨_, d0, d1, _, _⟩ := id D1
    go_wp2_with fail
    go_at_call 65
    refine Calls.mono (HQ.out _) ?_
    rintro e w2 ⟨rfl, b2⟩
    have X2 := (X1.keep b2).alloc (.cells #[.bool qn, .int .u64 qh, .int .u64 ql] 93)
    have Y2 := Tri.new w2 qn qh ql 93
    have B2 := bup (bup B1 b2) (bel1 w2 (.cells #[.bool qn, .int .u64 qh, .int .u64 ql] 93))
    clear A1 D1 X1 B1 b2 a0 a1 d0 d1
    obtain ⟨_, x0, x1, x2, _, _, _⟩ := id X2
    obtain ⟨_, y0, y1, y2, _, _, _⟩ := id Y2
    go_wp2_with fail
    go_at_call 80
    refine Calls.mono (HX.out _) ?_
    rintro e w3 ⟨rfl, b3⟩
    have X3 := X2.keep b3
    have Y3 := Y2.keep b3
    have B3 := bup B2 b3
    clear X2 Y2 B2 b3 x0 x1 x2 y0 y1 y2
    obtain ⟨_, x0, x1, x2, _, _, _⟩ := id X3
    obtain ⟨_, y0, y1, y2, _, _, _⟩ := id Y3
    go_wp2_with fail)
  · go_ret
    exact ⟨rfl, B3⟩
  · go_at_call 80
    refine Calls.mono (HY.out _) ?_
    rintro e w4 ⟨rfl, b4⟩
    go_wp2_with fail
    go_ret
    exact ⟨rfl, bup B3 b4⟩
  · go_at_call 80
    refine Calls.mono (HY.out _) ?_
    rintro e w4 ⟨rfl, b4⟩
    go_wp2_with fail
    go_ret
    exact ⟨rfl, bup B3 b4⟩
theorem mul64_sz {x y : Int} (hx : I64 x) (hy : I64 y) : sz (x * y) < 340282366920938463463374607431768211456 := by
  unfold I64 at hx hy
  have := mul_bounds (x := x) (y := y) (X := 9223372036854775808) (Y := 9223372036854775808) ⟨by omega, by omega⟩ ⟨by omega, by omega⟩
  unfold sz
  omega
theorem rcmp_any (a b : Rt) (ha : RtIn a) (hb : RtIn b) (w : World) :
    Calls Try.prog 59 #[rtv a, rtv b] w fun e w' => e = .returned (.int .i64 (cmpI a b)) ∧ Below w.heap.size w w' := by
  have s1 := mul64_sz ha.1 hb.2
  have s2 := mul64_sz hb.1 ha.2
  refine rcmp_walk a.N a.D b.N b.D _ _ _ _ _ _ _ _ _ ?_ (rtimes_any _ _ ha.1 hb.2) (rtimes_any _ _ hb.1 ha.2) (rless_any _ _ s1 s2) (rless_any _ _ s2 s1) w
  unfold cmpI
  by_cases h1 : a.N * b.D < b.N * a.D
  · exact .inl ⟨decide_eq_true h1, if_pos h1⟩
  · by_cases h2 : b.N * a.D < a.N * b.D
    · exact .inr (.inl ⟨decide_eq_false h1, decide_eq_true h2, by rw [if_neg h1, if_pos h2]⟩)
    · exact .inr (.inr ⟨decide_eq_false h1, decide_eq_false h2, by rw [if_neg h1, if_neg h2]⟩)

/-- What Time tells. -/
def timeA (r : Rt) : Int := if rightB r = true ∧ r.D ≤ 1048576 then (if r.N < 0 ∨ 0 < cmpI r ⟨360000, 1⟩ then 31 else 0) else 12

theorem timeA_cases (r : Rt) : (rightB r = false ∧ timeA r = 12) ∨ (rightB r = true ∧ 1048576 < r.D ∧ timeA r = 12) ∨ (rightB r = true ∧ ¬ 1048576 < r.D ∧ r.N < 0 ∧ timeA r = 31) ∨ (rightB r = true ∧ ¬ 1048576 < r.D ∧ ¬ r.N < 0 ∧ 0 < cmpI r ⟨360000, 1⟩ ∧ timeA r = 31) ∨ (rightB r = true ∧ ¬ 1048576 < r.D ∧ ¬ r.N < 0 ∧ ¬ 0 < cmpI r ⟨360000, 1⟩ ∧ timeA r = 0) := by
  unfold timeA
  by_cases h0 : rightB r = true
  · by_cases h1 : 1048576 < r.D
    · exact .inr (.inl ⟨h0, h1, if_neg (by omega)⟩)
    · rw [if_pos ⟨h0, by omega⟩]
      by_cases h2 : r.N < 0
      · exact .inr (.inr (.inl ⟨h0, h1, h2, if_pos (.inl h2)⟩))
      · by_cases h3 : 0 < cmpI r ⟨360000, 1⟩
        · exact .inr (.inr (.inr (.inl ⟨h0, h1, h2, h3, if_pos (.inr h3)⟩)))
        · exact .inr (.inr (.inr (.inr ⟨h0, h1, h2, h3, if_neg (by omega)⟩)))
  · rw [if_neg (fun h => h0 h.1)]
    exact .inl ⟨by simpa using h0, rfl⟩
end Go.Proofs.Ytipnefaggpigfaa
