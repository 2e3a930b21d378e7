/- The mathematics of surtitlelaw3.RatioNear. -/
import Derived.Test.YtmofjkfghidlnaaDoorRatW15
namespace Go.Proofs.YtmofjkfghidlnaaDoor

/-- All that RatioNear asks, where the three snaps are told. -/
theorem near_math (r g : Rt) (h1 : (snapA r g 1).2 = 0) (h3 : (snapA r g 3).2 = 0) (h2 : (snapA r g 2).2 = 0) :
    ((snapA r g 1).1 = r ∧ (snapA r g 3).1 = r ∧ (snapA r g 2).1 = r ∧ rightB r = true) ∨
    ((snapA r g 1).1 ≠ (snapA r g 3).1 ∧ (snapA r g 1).1 ≠ r ∧ ¬ 0 < cmpI (snapA r g 1).1 r ∧ ¬ 0 < cmpI r (snapA r g 3).1 ∧
      ((subA (snapA r g 3).1 (snapA r g 1).1).2 = 0 → (subA (snapA r g 3).1 (snapA r g 1).1).1 = g) ∧
      (((snapA r g 2).1 = (snapA r g 1).1 ∧ ((subA r (snapA r g 1).1).2 = 0 → (subA (snapA r g 3).1 r).2 = 0 → cmpI (subA r (snapA r g 1).1).1 (subA (snapA r g 3).1 r).1 < 0)) ∨
       ((snapA r g 2).1 = (snapA r g 3).1 ∧ ((subA r (snapA r g 1).1).2 = 0 → (subA (snapA r g 3).1 r).2 = 0 → ¬ cmpI (subA r (snapA r g 1).1).1 (subA (snapA r g 3).1 r).1 < 0)))) := by
  obtain ⟨hr, hg, h0, r1, v1⟩ := snapA_ok h1
  obtain ⟨_, _, _, r3, v3⟩ := snapA_ok h3
  obtain ⟨_, _, _, r2, v2⟩ := snapA_ok h2
  have gp := g_pos hg h0
  have gx := x_mul (r := r) hg h0
  have nc := near_core (valQ r / valQ g) (valQ g) gp (snapK r g 1) (snapK r g 3) (snapK r g 2) (snapK_floor r g hr h0) (snapK_ceil r g hr h0) (snapK_near r g hr h0)
  rw [← gx, ← v1, ← v3] at nc
  obtain ⟨n1, n2, n3, n4, n5, n6, n7, n8⟩ := nc
  generalize (snapA r g 1).1 = lo at *
  generalize (snapA r g 3).1 = hi at *
  generalize (snapA r g 2).1 = near at *
  by_cases hc : snapK r g 3 = snapK r g 1
  · have e1 : lo = r := right_inj _ _ r1 hr (n5 hc)
    have e3 : hi = r := right_inj _ _ r3 hr (by rw [v3, hc, ← v1, n5 hc])
    have e2 : near = r := right_inj _ _ r2 hr (by rw [v2, show snapK r g 2 = snapK r g 1 by omega, ← v1, n5 hc])
    exact .inl ⟨e1, e3, e2, hr⟩
  · right
    have hne : lo ≠ hi := fun e => by
      have : valQ lo = valQ hi := by rw [e]
      rw [v1, v3] at this
      have h : ((snapK r g 1 : Rat) - (snapK r g 3 : Rat)) * valQ g = 0 := by grind
      rcases Rat.mul_eq_zero.1 h with h | h
      · apply hc
        have : (snapK r g 3 : Rat) = (snapK r g 1 : Rat) := by grind
        exact Rat.intCast_inj.1 this
      · grind
    have hlr : lo ≠ r := fun e => n6 hc (by rw [e])
    refine ⟨hne, hlr, ?_, ?_, ?_, ?_⟩
    · have := (cmp_le r1 hr).2 n1; omega
    · have := (cmp_le hr r3).2 n2; omega
    · intro h
      rw [subA_right r3 r1] at h ⊢
      obtain ⟨q1, q2⟩ := low_ok_right _ h
      apply right_inj _ _ q1 hg
      rw [q2, v1, v3]
      have e : snapK r g 3 = snapK r g 1 + 1 := by omega
      rw [e]
      have : ((snapK r g 1 + 1 : Int) : Rat) = (snapK r g 1 : Rat) + 1 := by simp
      grind
    · have key : (subA r lo).2 = 0 → (subA hi r).2 = 0 → (cmpI (subA r lo).1 (subA hi r).1 < 0 ↔ valQ r - valQ lo < valQ hi - valQ r) := fun a b => by
        rw [subA_right hr r1] at a ⊢
        rw [subA_right r3 hr] at b ⊢
        obtain ⟨a1, a2⟩ := low_ok_right _ a
        obtain ⟨b1, b2⟩ := low_ok_right _ b
        have t := cmp_turn (low (valQ r - valQ lo)).1 (low (valQ hi - valQ r)).1
        have l := cmp_le b1 a1
        rw [a2, b2] at l
        rw [← Rat.not_le, ← l]
        omega
      by_cases hd : valQ r - valQ lo < valQ hi - valQ r
      · refine .inl ⟨right_inj _ _ r2 r1 (by rw [v2, n7 hd, ← v1]), fun a b => (key a b).2 hd⟩
      · refine .inr ⟨right_inj _ _ r2 r3 (by rw [v2, n8 hd, ← v3]), fun a b h => hd ((key a b).1 h)⟩
end Go.Proofs.YtmofjkfghidlnaaDoor
