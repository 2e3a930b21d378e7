/- Contracts of the statements' own within and size, and plain facts on places there and back. -/
import Derived.Test.YtofhmecbcmahaaaDoorPlaW1
import Derived.Test.YtofhmecbcmahaaaDoorRCnt
namespace Go.Proofs.YtofhmecbcmahaaaDoor
open Go.RowKit

set_option maxRecDepth 100000 in
theorem within1_any (a m : Int) (hm : 0 < m ∧ m ≤ 4611686018427387904) (w : World) :
    Calls Tryd.prog 48 #[.int .i64 a, .int .i64 m] w fun e w' => e = .returned (.int .i64 (a % m)) ∧ w' = w := by
  obtain ⟨t, ht⟩ : ∃ t, a.tmod m = t := ⟨_, rfl⟩
  have zt : ∀ w, (Op.intDiv .rem .i64 a m).run Tryd.prog w = .ok (.int .i64 t) w := fun w => by
    unfold Op.intDiv
    rw [if_neg (by omega), ht]
    rfl
  have m0 := Int.emod_nonneg a (show m ≠ 0 by omega)
  have m1 := Int.emod_lt_of_pos a hm.1
  have tm : a % m = if t < 0 then t + m else t := by
    rw [← ht]
    by_cases c : 0 ≤ a
    · have e := Int.tmod_eq_emod_of_nonneg (b := m) c
      rw [e, if_neg (by omega)]
    · have e := Int.tmod_eq_emod (a := a) (b := m)
      have na : (m.natAbs : Int) = m := by omega
      by_cases dv : m ∣ a
      · rw [if_pos (.inr dv)] at e
        have : a % m = 0 := Int.emod_eq_zero_of_dvd dv
        rw [e, this]
        simp
      · rw [if_neg (fun x => x.elim c dv)] at e
        have : a % m ≠ 0 := fun x => dv (Int.dvd_of_emod_eq_zero x)
        rw [e, if_pos (by omega)]
        omega
  have tb : -4611686018427387904 ≤ t ∧ t ≤ 4611686018427387904 := by
    by_cases c : t < 0
    · rw [if_pos c] at tm; omega
    · rw [if_neg c] at tm; omega
  rw [tm]
  clear tm m0 m1
  by_cases c : t < 0
  · rw [if_pos c]
    go_enter Tryd.func48, Tryd.ntmps48
    go_wp2_with fail
    go_ret
    exact ⟨rfl, rfl⟩
  · rw [if_neg c]
    go_enter Tryd.func48, Tryd.ntmps48
    go_wp2_with fail
    go_ret
    exact ⟨rfl, rfl⟩

set_option maxRecDepth 100000 in
set_option maxHeartbeats 400000 in
theorem size1_any (s : ByteArray) (hs : s.size ≤ 140737488355328) (u : Int) (hu : u = 1 ∨ u = 2 ∨ u = 3) (w : World) :
    Calls Tryd.prog 49 #[.string s, .int .i64 u] w fun e w' => e = .returned (.int .i64 ((lastS s).get u)) ∧ Below w.heap.size w w' := by
  rcases hu with rfl | rfl | rfl
  · rw [show (lastS s).get 1 = (lastS s).b from rfl, lastS_b]
    go_enter Tryd.func49, Tryd.ntmps49
    go_wp2
    go_ret
    exact ⟨rfl, Below.refl _ _⟩
  · rw [show (lastS s).get 2 = (lastS s).c from rfl, lastS_c]
    go_enter Tryd.func49, Tryd.ntmps49
    go_wp2_with fail
    refine (count_any s _ hs).mono ?_
    rintro e w1 ⟨rfl, b1⟩
    go_wp2
    go_ret
    exact ⟨rfl, b1⟩
  · rw [show (lastS s).get 3 = (lastS s).d from rfl, lastS_d]
    go_enter Tryd.func49, Tryd.ntmps49
    go_wp2_with fail
    refine (pairs_any s _ hs).mono ?_
    rintro e w1 ⟨rfl, b1⟩
    go_wp2
    go_ret
    exact ⟨rfl, b1⟩
end Go.Proofs.YtofhmecbcmahaaaDoor
