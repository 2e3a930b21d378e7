/- The contract of surtitleref3.Whole. -/
import Derived.Test.YtmofjkfghidlnaaDoorRefB3
import Derived.Test.YtmofjkfghidlnaaDoorRefB5
import Derived.Deep.RegionHeld3
namespace Go.Proofs.YtmofjkfghidlnaaDoor
open Go.RowKit Go.Shelf
attribute [local go_sem] Oper.semAt_some

theorem rWhole_any (a : Rt) (ha : RtIn a) (t : Int) (ht : I64 t) (how : Int) (w : World) :
    Calls Tryd.prog 42 #[rtv a, .int .i64 t, .int .i64 how] w fun e w' => e = .returned (.tuple #[.int .i64 (wholeA a t how).1, .int .i64 (wholeA a t how).2]) ∧ Below w.heap.size w w' := by
  have HR := rright_r a ha
  unfold wholeA
  by_cases h1 : rightB a = true
  · rw [if_pos h1]
    rw [h1] at HR
    by_cases hh : howB how = true
    · rw [if_pos hh]
      have hh2 : 1 ≤ how ∧ how ≤ 3 := of_decide_eq_true hh
      have ra := (right_iff a).1 h1
      have tb := times_bounds (n := a.N) (t := t) ⟨by omega, by omega⟩ ht
      have HD := rtimes_any a.D 1 ha.2 ⟨by omega, by omega⟩
      rw [Int.mul_one] at HD
      have sb := sz_le tb
      have HW := rwhole_any (a.N * t) a.D how (by omega) (by omega) (by omega) hh2
      obtain ⟨z, hz⟩ : ∃ z, wholeI how (a.N * t) a.D = z := ⟨_, rfl⟩
      rw [hz] at HW ⊢
      have HF := rfits_any (decide (z < 0)) (hiZ (sz z)) (loZ (sz z))
      have zb : sz z < 340282366920938463463374607431768211456 := by
        rw [← hz]
        unfold wholeI
        have d1 := sz_div (a.N * t) a.D (by omega)
        have d2 := sz_div (-(a.N * t)) a.D (by omega)
        have d3 := sz_div (2 * (a.N * t) + a.D) (2 * a.D) (by omega)
        have e2 : sz (-(a.N * t)) = sz (a.N * t) := by unfold sz; omega
        have e3 : sz (2 * (a.N * t) + a.D) ≤ 2 * sz (a.N * t) + a.D := by unfold sz; omega
        have e4 : sz (-(-(a.N * t) / a.D)) = sz (-(a.N * t) / a.D) := by generalize -(a.N * t) / a.D = q; unfold sz; omega
        split
        · omega
        · split
          · omega
          · omega
      have z0 := sz_nonneg z
      have ez : (hiZ (sz z) = 0 ∧ loZ (sz z) ≤ 4611686018427387904) ↔ inNum z = true := by
        unfold inNum
        rw [decide_eq_true_iff]
        unfold hiZ loZ
        unfold sz at *
        omega
      by_cases hi : inNum z = true
      · rw [if_pos hi]
        rw [decide_eq_true (ez.2 hi)] at HF
        have hk := inNum_wf z hi
        have el : loZ (sz z) = sz z := by unfold loZ; unfold sz; omega
        have HN := rnumber_any (decide (z < 0)) (hiZ (sz z)) (loZ (sz z)) (by rw [el]; omega) (by rw [el]; unfold sz; omega)
        rw [show sgn (decide (z < 0)) (loZ (sz z)) = z by rw [el, sgn_sz]] at HN
        exact rWhole_walkT a.N a.D t how z _ _ _ _ _ _ _ _ _ (by omega) (by omega) HR (rtimes_any _ _ ha.1 ht) HD HW HF HN w
      · rw [if_neg hi]
        rw [decide_eq_false (fun h => hi (ez.1 h))] at HF
        exact rWhole_walkF a.N a.D t how _ _ _ _ _ _ _ _ _ (by omega) (by omega) HR (rtimes_any _ _ ha.1 ht) HD HW HF w
    · rw [if_neg hh]
      have hh2 : ¬ (1 ≤ how ∧ how ≤ 3) := fun h => hh (decide_eq_true h)
      exact rWhole_arg a.N a.D t how (by omega) HR w
  · rw [if_neg h1]
    rw [Bool.not_eq_true] at h1
    rw [h1] at HR
    exact rWhole_not a.N a.D t how HR w
end Go.Proofs.YtmofjkfghidlnaaDoor
