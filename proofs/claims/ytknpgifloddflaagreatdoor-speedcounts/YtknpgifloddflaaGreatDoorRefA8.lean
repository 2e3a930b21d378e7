/- Contracts of surtitleref3: lowest, New, Add, Sub, Neg, Mul, as numbers. -/
import Derived.Test.YtknpgifloddflaaGreatDoorRefLa
import Derived.Test.YtknpgifloddflaaGreatDoorRefLb
import Derived.Test.YtknpgifloddflaaGreatDoorRefA7
namespace Go.Proofs.YtknpgifloddflaaGreatDoor
open Go.RowKit Go.Shelf
attribute [local go_sem] Oper.semAt_some

set_option maxRecDepth 100000 in
theorem rlowest0 (ng nd : Bool) (dh dl : Int) (w : World) :
    Calls Tryz.prog 35 #[.agg #[.bool ng, .int .u64 0, .int .u64 0], .agg #[.bool nd, .int .u64 dh, .int .u64 dl]] w fun e w' => e = .returned (.tuple #[.agg #[.int .i64 0, .int .i64 1], .int .i64 0]) ∧ Below w.heap.size w w' := by
  go_enter Tryz.func35, Tryz.ntmps35
  go_wp2_with fail
  exact bodyPost_ret (v := .tuple #[.agg #[.int .i64 0, .int .i64 1], .int .i64 0]) (by simp [results, Tryz.results35, go_sem]) rfl ⟨rfl, bel3 w _ _ _⟩
theorem rlow_nat (ng nd : Bool) (m D : Nat) (hm : m ≤ 170141183460469231731687303715884105728) (hD0 : 0 < D) (hD : D ≤ 170141183460469231731687303715884105728) (w : World) :
    Calls Tryz.prog 35 #[.agg #[.bool ng, .int .u64 (hiZ m), .int .u64 (loZ m)], .agg #[.bool nd, .int .u64 (hiZ D), .int .u64 (loZ D)]] w fun e w' => e = .returned (.tuple #[rtv (low (Rat.divInt (sgnQ ng m) D)).1, .int .i64 (low (Rat.divInt (sgnQ ng m) D)).2]) ∧ Below w.heap.size w w' := by
  by_cases h0 : m = 0
  · subst h0
    have e : sgnQ ng ((0 : Nat) : Int) = 0 := by cases ng <;> rfl
    rw [e, low_zero]
    exact rlowest0 ng nd _ _ w
  · by_cases h : hiZ m = 0
    · rw [h]
      exact rlowestB ng nd (loZ m) m D (by unfold hiZ at h; unfold loZ; omega) h rfl (by omega) hm hD0 hD w
    · exact rlowestA ng nd (hiZ m) (loZ m) m D h rfl rfl (by omega) hm hD0 hD w
theorem sgn_sz (n : Int) : sgnQ (decide (n < 0)) (sz n) = n := by
  unfold sgnQ sz
  by_cases h : n < 0
  · rw [if_pos (decide_eq_true h)]; omega
  · rw [if_neg (by simpa using h)]; omega
theorem rlow_i (n d : Int) (hn : sz n ≤ 170141183460469231731687303715884105728) (hd0 : 0 < d) (hd : d ≤ 170141183460469231731687303715884105728) (w : World) :
    Calls Tryz.prog 35 #[nv n, nv d] w fun e w' => e = .returned (.tuple #[rtv (low (Rat.divInt n d)).1, .int .i64 (low (Rat.divInt n d)).2]) ∧ Below w.heap.size w w' := by
  obtain ⟨m, em⟩ := Int.eq_ofNat_of_zero_le (sz_nonneg n)
  obtain ⟨D, eD⟩ := Int.eq_ofNat_of_zero_le (show 0 ≤ d by omega)
  have es : sz d = D := by unfold sz; omega
  have := rlow_nat (decide (n < 0)) (decide (d < 0)) m D (by omega) (by omega) (by omega) w
  rw [← em, sgn_sz, ← eD] at this
  unfold nv
  rw [es, ← eD]
  exact this

theorem sz_le {z : Int} {M : Int} (h : -M ≤ z ∧ z ≤ M) : sz z ≤ M := by unfold sz; omega
end Go.Proofs.YtknpgifloddflaaGreatDoor
