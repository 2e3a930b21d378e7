/- The contract of surtitleref3.Snap. -/
import Derived.Test.YtmofjkfghidlnaaDoorRefC2
import Derived.Test.YtmofjkfghidlnaaDoorRefC3
import Derived.Test.YtmofjkfghidlnaaDoorRefB6
namespace Go.Proofs.YtmofjkfghidlnaaDoor
open Go.RowKit Go.Shelf

theorem wholeI_sz (how n d : Int) (hd : 0 < d) (hn : sz n ≤ 42535295865117307932921825928971026432) (hd2 : d ≤ 42535295865117307932921825928971026432) : sz (wholeI how n d) < 340282366920938463463374607431768211456 := by
  unfold wholeI
  have d1 := sz_div n d hd
  have d2 := sz_div (-n) d hd
  have d3 := sz_div (2 * n + d) (2 * d) (by omega)
  have e2 : sz (-n) = sz n := by unfold sz; omega
  have e3 : sz (2 * n + d) ≤ 2 * sz n + d := by unfold sz; omega
  have e4 : sz (-(-n / d)) = sz (-n / d) := by generalize -n / d = q; unfold sz; omega
  split
  · omega
  · split
    · omega
    · omega
theorem fits_iff (z : Int) (zb : sz z < 340282366920938463463374607431768211456) : (hiZ (sz z) = 0 ∧ loZ (sz z) ≤ 4611686018427387904) ↔ inNum z = true := by
  unfold inNum
  rw [decide_eq_true_iff]
  unfold hiZ loZ
  unfold sz at *
  omega
theorem rsnap_any (a : Rt) (ha : RtIn a) (g : Rt) (hg : RtIn g) (how : Int) (w : World) :
    Calls Tryd.prog 44 #[rtv a, rtv g, .int .i64 how] w fun e w' => e = .returned (.tuple #[rtv (snapA a g how).1, .int .i64 (snapA a g how).2]) ∧ Below w.heap.size w w' := by
  have HB := rboth_any a g ha hg
  unfold snapA
  by_cases hr : (rightB a && rightB g) = true
  · rw [if_pos hr]
    rw [hr] at HB
    obtain ⟨ra, rg⟩ := (both_iff a g).1 hr
    by_cases h0 : g.N ≤ 0
    · rw [if_pos h0]
      exact rsnap_zero a.N a.D g.N g.D how h0 HB w
    · rw [if_neg h0]
      by_cases hh : howB how = true
      · rw [if_pos hh]
        have hh2 : 1 ≤ how ∧ how ≤ 3 := of_decide_eq_true hh
        have t1 := top_bounds ra rg
        have t2 := top_bounds rg ra
        rw [Int.mul_comm g.N a.D] at t2
        have s1 := sz_le t1
        have pd : 0 < a.D * g.N := Int.mul_pos (val_pos a ra) (by omega)
        have HW := rwhole_any (a.N * g.D) (a.D * g.N) how (by omega) pd (by omega) hh2
        have zb := wholeI_sz how (a.N * g.D) (a.D * g.N) pd (by omega) (by omega)
        have ek : snapK a g how = wholeI how (a.N * g.D) (a.D * g.N) := rfl
        rw [← ek] at HW zb
        obtain ⟨z, hz⟩ : ∃ z, snapK a g how = z := ⟨_, rfl⟩
        rw [hz] at HW zb ⊢
        have HF := rfits_any (decide (z < 0)) (hiZ (sz z)) (loZ (sz z))
        have ez := fits_iff z zb
        by_cases hi : inNum z = true
        · rw [if_pos hi]
          rw [decide_eq_true (ez.2 hi)] at HF
          have hk := inNum_wf z hi
          have el : loZ (sz z) = sz z := by unfold loZ; unfold sz; omega
          have z0 := sz_nonneg z
          have HN := rnumber_any (decide (z < 0)) (hiZ (sz z)) (loZ (sz z)) (by rw [el]; omega) (by rw [el]; unfold sz; omega)
          rw [show sgn (decide (z < 0)) (loZ (sz z)) = z by rw [el, sgn_sz]] at HN
          have rgi := (right_iff g).1 rg
          have hb := mul_bounds (x := z) (y := g.N) (X := 4611686018427387904) (Y := 4611686018427387904) hk ⟨by omega, by omega⟩
          have sb := sz_le hb
          have HE := rtimes_any g.D 1 hg.2 ⟨by omega, by omega⟩
          rw [Int.mul_one] at HE
          have HL := rlow_i (z * g.N) g.D (by omega) (by omega) (by omega)
          exact rsnap_walkT a.N a.D g.N g.D how z _ _ _ _ _ _ _ _ _ _ _ _ _ _ _ _ h0 (by omega) (by omega) HB (rtimes_any _ _ ha.1 hg.2) (rtimes_any _ _ ha.2 hg.1) HW HF HN (rtimes_any _ _ ⟨by omega, by omega⟩ hg.1) HE HL w
        · rw [if_neg hi]
          rw [decide_eq_false (fun h => hi (ez.1 h))] at HF
          exact rsnap_walkF a.N a.D g.N g.D how _ _ _ _ _ _ _ _ _ h0 (by omega) (by omega) HB (rtimes_any _ _ ha.1 hg.2) (rtimes_any _ _ ha.2 hg.1) HW HF w
      · rw [if_neg hh]
        have hh2 : ¬ (1 ≤ how ∧ how ≤ 3) := fun h => hh (decide_eq_true h)
        exact rsnap_arg a.N a.D g.N g.D how h0 (by omega) HB w
  · rw [if_neg hr]
    rw [Bool.not_eq_true] at hr
    rw [hr] at HB
    exact rsnap_not a.N a.D g.N g.D how HB w
end Go.Proofs.YtmofjkfghidlnaaDoor
