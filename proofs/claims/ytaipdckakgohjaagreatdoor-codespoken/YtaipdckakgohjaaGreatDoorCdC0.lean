/- Package code: a number of a tenth minute is not left out. -/
import Derived.Test.YtaipdckakgohjaaGreatDoorCdC
namespace Go.Proofs.YtaipdckakgohjaaGreatDoor
open Go.RowKit Go.Shelf
attribute [local go_sem] Oper.semAt_some

set_option maxRecDepth 100000 in
set_option maxHeartbeats 2000000 in
theorem skips_ten (f l n M q : Int) (hM0 : 0 < M ∧ M ≤ 14400) (hn : 0 ≤ n ∧ n ≤ 1000000000000) (hq : n / M = q) (hq0 : 0 ≤ q ∧ q ≤ 1000000000000) (ht : q % 10 = 0) (w : World)
    (HM : ∀ w, Calls Tryz.prog 85 #[.agg #[.int .i64 f, .int .i64 l]] w fun e w' => e = .returned (.int .i64 M) ∧ Below w.heap.size w w') :
    Calls Tryz.prog 58 #[.agg #[.int .i64 f, .int .i64 l], .int .i64 n] w fun e w' => e = .returned (.bool false) ∧ Below w.heap.size w w' := by
  have HM := hideR HM
  have zq : ∀ w, (Op.intDiv .quo .i64 n M).run Tryz.prog w = .ok (.int .i64 q) w := fun w => by
    unfold Op.intDiv
    rw [if_neg (by omega), Int.tdiv_eq_ediv_of_nonneg (by omega), hq]
    exact congrArg (fun z => Result.ok (Value.int .i64 z) w) (by rw [IntKind.wrap_i64]; omega)
  have zt : ∀ w, (Op.intDiv .rem .i64 q 10).run Tryz.prog w = .ok (.int .i64 0) w := fun w => by
    unfold Op.intDiv
    rw [if_neg (by omega), Int.tmod_eq_emod_of_nonneg (by omega), ht]
    rfl
  have hq10 : q.tmod 10 = 0 := by rw [Int.tmod_eq_emod_of_nonneg (by omega), ht]
  go_enter Tryz.func58, Tryz.ntmps58
  go_wp2_with fail
  have C0 := (Two.new w (.int .i64 f) (.int .i64 l) 95)
  first
    | (go_region_with (first
    | (go_at_call 85; have _ := B1; fail)
    | (go_at_call 85; refine (HM.out _).mono ?_; rintro e w1 ⟨rfl, b1⟩; have C1 := C0.drew.keep b1; have B1 := bup (bel1 w (.cells #[.int .i64 f, .int .i64 l] 95)).drew b1; obtain ⟨_, c0, c1, _, _⟩ := id C1)))
    | fail
  all_goals (try go_wp2_with fail)
  all_goals (go_ret; exact ⟨by first | rfl | go_simp, B1⟩)
end Go.Proofs.YtaipdckakgohjaaGreatDoor
