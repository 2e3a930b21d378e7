/- Package wrap: check, place, a stop's badness, betterThan. -/
import Derived.Test.YteignefcijmmeaaDoorWrS
namespace Go.Proofs.YteignefcijmmeaaDoor
open Go.RowKit
attribute [local go_sem] Oper.semAt_some

def wcheckI (n : Nat) (wd : Int) : Int := if wd < 2 ∨ 200 < wd then 1 else if 4096 < n then 3 else 0
set_option maxRecDepth 100000 in
theorem wcheck_any (s : ByteArray) (wd : Int) (w : World) : Calls Tryd.prog 26 #[.string s, .int .i64 wd] w fun e w' => e = .returned (.int .i64 (wcheckI s.size wd)) ∧ w' = w := by
  unfold wcheckI
  by_cases h1 : wd < 2
  · rw [if_pos (.inl h1)]
    go_enter Tryd.func26, Tryd.ntmps26
    go_wp2
    go_ret
    exact ⟨rfl, rfl⟩
  · by_cases h2 : 200 < wd
    · rw [if_pos (.inr h2)]
      go_enter Tryd.func26, Tryd.ntmps26
      go_wp2
      go_ret
      exact ⟨rfl, rfl⟩
    · rw [if_neg (by omega)]
      by_cases h3 : 4096 < s.size
      · rw [if_pos h3]
        have z3 : (4096 : Int) < (s.size : Int) := by omega
        go_enter Tryd.func26, Tryd.ntmps26
        go_wp2
        go_ret
        exact ⟨rfl, rfl⟩
      · rw [if_neg h3]
        have z3 : ¬ (4096 : Int) < (s.size : Int) := by omega
        go_enter Tryd.func26, Tryd.ntmps26
        go_wp2
        go_ret
        exact ⟨rfl, rfl⟩
set_option maxRecDepth 100000 in
theorem better_any (a b c d e f : Int) (w : World) : Calls Tryd.prog 101 #[.agg #[.int .i64 a, .int .i64 b, .int .i64 c], .agg #[.int .i64 d, .int .i64 e, .int .i64 f]] w fun r w' => r = .returned (.bool (decide (a < d) || (a == d && decide (b < e)))) ∧ Below w.heap.size w w' := by
  go_enter Tryd.func101, Tryd.ntmps101
  go_wp2_with fail
  all_goals go_ret
  all_goals refine ⟨?_, ((Below.refl _ w).alloc (Nat.le_refl _) _).alloc (by simp) _⟩
  all_goals (simp_all; done)
/-- A line's badness from a spot up to a stop of a kind, and whether it fits. -/
def sbadI (k c b wd : Int) : Int × Bool := if wd - (c - b) < 0 then (0, false) else ((wd - (c - b)) * (wd - (c - b)) + (if k = 3 then 1048576 else 0), true)
set_option maxRecDepth 100000 in
set_option maxHeartbeats 1000000 in
theorem sbad_any (k : Int) (p q : Pt) (a f b wd : Int) (hc : 0 ≤ p.ce ∧ p.ce ≤ 100000) (hb : 0 ≤ b ∧ b ≤ 100000) (hw : 0 ≤ wd ∧ wd ≤ 1000) (w : World) :
    Calls Tryd.prog 50 #[stopV k p q, .agg #[.int .i64 a, .int .i64 f, .int .i64 b], .int .i64 wd] w fun e w' => e = .returned (.tuple #[.int .i64 (sbadI k p.ce b wd).1, .bool (sbadI k p.ce b wd).2]) ∧ Below w.heap.size w w' := by
  unfold sbadI stopV
  obtain ⟨d, hd⟩ : ∃ d, p.ce - b = d := ⟨_, rfl⟩
  obtain ⟨l, hl⟩ : ∃ l, wd - d = l := ⟨_, rfl⟩
  rw [hd, hl]
  have lb : -200000 ≤ l ∧ l ≤ 200000 := by omega
  have w1 : IntKind.i64.wrap d = d := IntWalk.i64_in _ ⟨by omega, by omega⟩
  have w2 : IntKind.i64.wrap l = l := IntWalk.i64_in _ ⟨by omega, by omega⟩
  by_cases h : l < 0
  · rw [if_pos h]
    go_enter Tryd.func50, Tryd.ntmps50
    go_wp2_with fail
    go_ret2
    exact ⟨rfl, ((Below.refl _ w).alloc (Nat.le_refl _) _).alloc (by simp) _⟩
  · rw [if_neg h]
    obtain ⟨m, hm⟩ : ∃ m, l * l = m := ⟨_, rfl⟩
    have mb : 0 ≤ m ∧ m ≤ 40000000000 := by
      rw [← hm]
      have : l * l ≤ 200000 * 200000 := Int.mul_le_mul (by omega) (by omega) (by omega) (by omega)
      exact ⟨Int.mul_nonneg (by omega) (by omega), by omega⟩
    have w3 : IntKind.i64.wrap m = m := IntWalk.i64_in _ ⟨by omega, by omega⟩
    have w4 : IntKind.i64.wrap (m + 1048576) = m + 1048576 := IntWalk.i64_in _ ⟨by omega, by omega⟩
    rw [hm]
    by_cases h3 : k = 3
    · subst h3
      rw [if_pos rfl]
      go_enter Tryd.func50, Tryd.ntmps50
      go_wp2_with fail
      go_ret2
      exact ⟨rfl, ((Below.refl _ w).alloc (Nat.le_refl _) _).alloc (by simp) _⟩
    · rw [if_neg h3]
      have t3 : (k == 3) = false := by rw [beq_eq_false_iff_ne]; exact h3
      go_enter Tryd.func50, Tryd.ntmps50
      go_wp2_with fail
      go_ret2
      exact ⟨by simp, ((Below.refl _ w).alloc (Nat.le_refl _) _).alloc (by simp) _⟩
end Go.Proofs.YteignefcijmmeaaDoor
