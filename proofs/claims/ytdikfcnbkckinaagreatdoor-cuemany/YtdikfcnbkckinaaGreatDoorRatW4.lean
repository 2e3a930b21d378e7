/- Contracts of package ratio: rests, narrowed numbers, comparison, lowest terms. -/
import Derived.Test.YtdikfcnbkckinaaGreatDoorRatW3
import Derived.Deep.RegionHeld3
namespace Go.Proofs.YtdikfcnbkckinaaGreatDoor
open Go.RowKit Go.Shelf
attribute [local go_sem] Oper.semAt_some

theorem wrap_lo (a : Int) (h : -9223372036854775808 ≤ a ∧ a ≤ 9223372036854775807) : wrap64 (loZ a) = a := by unfold wrap64 loZ; omega
theorem wrap_out (a : Int) (h : In128 a) (k : ¬ (-9223372036854775808 ≤ a ∧ a ≤ 9223372036854775807)) : (hiZ a == hiZ (wrap64 (loZ a))) = false := by
  have h0 := h.1
  have h1 := h.2
  simp only [beq_eq_false_iff_ne]
  unfold wrap64 hiZ loZ
  omega

/-- -1, 0, 1. -/
def cmpZ (a b : Int) : Int := if a < b then -1 else if b < a then 1 else 0
theorem cmp64_any (a b : Int) (w : World) :
    Calls Tryz.prog 60 #[.int .i64 a, .int .i64 b] w fun e w' => e = .returned (.int .i64 (cmpZ a b)) ∧ w' = w := by
  go_enter Tryz.func60, Tryz.ntmps60
  go_wp2
  all_goals go_ret
  all_goals refine ⟨ret_int ?_, rfl⟩
  all_goals unfold cmpZ
  all_goals first | rw [if_pos (by omega)] | rw [if_neg (by omega), if_pos (by omega)] | rw [if_neg (by omega), if_neg (by omega)]
theorem cmpU_any (a b : Int) (w : World) :
    Calls Tryz.prog 61 #[.int .u64 a, .int .u64 b] w fun e w' => e = .returned (.int .i64 (cmpZ a b)) ∧ w' = w := by
  go_enter Tryz.func61, Tryz.ntmps61
  go_wp2
  all_goals go_ret
  all_goals refine ⟨ret_int ?_, rfl⟩
  all_goals unfold cmpZ
  all_goals first | rw [if_pos (by omega)] | rw [if_neg (by omega), if_pos (by omega)] | rw [if_neg (by omega), if_neg (by omega)]
end Go.Proofs.YtdikfcnbkckinaaGreatDoor
