/- The contracts of surtitleref3.Cmp, surtitleref3.Time and ratio.Time. -/
import Derived.Test.YtpbedjabbehhgaaRefA5
import Derived.Test.YtpbedjabbehhgaaRefA6
namespace Go.Proofs.Ytpbedjabbehhgaa
open Go.RowKit Go.Shelf
attribute [local go_sem] Oper.semAt_some

theorem mul64_sz {x y : Int} (hx : I64 x) (hy : I64 y) : sz (x * y) < 340282366920938463463374607431768211456 := by
  unfold I64 at hx hy
  have := mul_bounds (x := x) (y := y) (X := 9223372036854775808) (Y := 9223372036854775808) ⟨by omega, by omega⟩ ⟨by omega, by omega⟩
  unfold sz
  omega
/-- What Time tells. -/
def timeA (r : Rt) : Int := if rightB r = true ∧ r.D ≤ 1048576 then (if r.N < 0 ∨ 0 < cmpI r ⟨360000, 1⟩ then 31 else 0) else 12

set_option maxRecDepth 100000 in
set_option maxHeartbeats 1000000 in
theorem time_walk (an ad c e : Int) (ok : Bool) (hr : (ok = false ∧ e = 12) ∨ (ok = true ∧ 1048576 < ad ∧ e = 12) ∨ (ok = true ∧ ¬ 1048576 < ad ∧ an < 0 ∧ e = 31) ∨ (ok = true ∧ ¬ 1048576 < ad ∧ ¬ an < 0 ∧ 0 < c ∧ e = 31) ∨ (ok = true ∧ ¬ 1048576 < ad ∧ ¬ an < 0 ∧ ¬ 0 < c ∧ e = 0))
    (HR : ∀ w, Calls Try.prog 27 #[.agg #[.int .i64 an, .int .i64 ad]] w fun e w' => e = .returned (.bool ok) ∧ Below w.heap.size w w')
    (HC : ∀ w, Calls Try.prog 23 #[.agg #[.int .i64 an, .int .i64 ad], .agg #[.int .i64 360000, .int .i64 1]] w fun e w' => e = .returned (.int .i64 c) ∧ Below w.heap.size w w') (w : World) :
    Calls Try.prog 22 #[.agg #[.int .i64 an, .int .i64 ad]] w fun e' w' => e' = .returned (.int .i64 e) ∧ Below w.heap.size w w' := by
  have HR := hideR HR
  have HC := hideR HC
  rcases hr with ⟨rfl, rfl⟩ | ⟨rfl, h1, rfl⟩ | ⟨rfl, h1, h2, rfl⟩ | ⟨rfl, h1, h2, h3, rfl⟩ | ⟨rfl, h1, h2, h3, rfl⟩
  all_goals (
    go_enter Try.func22, Try.ntmps22
    go_wp2_with fail
    go_at_call 27
    refine Calls.mono (HR.out _) ?_
    rintro e w1 ⟨rfl, b1⟩
    have A1 := (Two.new w (.int .i64 an) (.int .i64 ad) 27).keep b1
    have B1 := bup (bel1 w _) b1
    clear b1
    obtain ⟨_, a0, a1, _, _⟩ := id A1
    go_wp2_with fail)
  · go_ret
    exact ⟨rfl, B1⟩
  · go_ret
    exact ⟨rfl, B1⟩
  · go_ret
    exact ⟨rfl, B1⟩
  all_goals (
    go_at_call 23
    refine Calls.mono (HC.out _) ?_
    rintro e w2 ⟨rfl, b2⟩
    go_wp2_with fail
    go_ret
    exact ⟨rfl, bup B1 b2⟩)

theorem timeA_cases (r : Rt) : (rightB r = false ∧ timeA r = 12) ∨ (rightB r = true ∧ 1048576 < r.D ∧ timeA r = 12) ∨ (rightB r = true ∧ ¬ 1048576 < r.D ∧ r.N < 0 ∧ timeA r = 31) ∨ (rightB r = true ∧ ¬ 1048576 < r.D ∧ ¬ r.N < 0 ∧ 0 < cmpI r ⟨360000, 1⟩ ∧ timeA r = 31) ∨ (rightB r = true ∧ ¬ 1048576 < r.D ∧ ¬ r.N < 0 ∧ ¬ 0 < cmpI r ⟨360000, 1⟩ ∧ timeA r = 0) := by
  unfold timeA
  by_cases h0 : rightB r = true
  · by_cases h1 : 1048576 < r.D
    · exact .inr (.inl ⟨h0, h1, if_neg (by omega)⟩)
    · rw [if_pos ⟨h0, by omega⟩]
      by_cases h2 : r.N < 0
      · exact .inr (.inr (.inl ⟨h0, h1, h2, if_pos (.inl h2)⟩))
      · by_cases h3 : 0 < cmpI r ⟨360000, 1⟩
        · exact .inr (.inr (.inr (.inl ⟨h0, h1, h2, h3, if_pos (.inr h3)⟩)))
        · exact .inr (.inr (.inr (.inr ⟨h0, h1, h2, h3, if_neg (by omega)⟩)))
  · rw [if_neg (fun h => h0 h.1)]
    exact .inl ⟨by simpa using h0, rfl⟩
theorem time_any (a : Rt) (ha : RtIn a) (w : World) :
    Calls Try.prog 22 #[rtv a] w fun e w' => e = .returned (.int .i64 (timeA a)) ∧ Below w.heap.size w w' :=
  time_walk a.N a.D _ _ _ (timeA_cases a) (right_any a ha) (cmp_any a ⟨360000, 1⟩ ha ⟨⟨by simp, by simp⟩, ⟨by simp, by simp⟩⟩) w
end Go.Proofs.Ytpbedjabbehhgaa
