/- Contracts of surtitleref3: lowest, New, Add, Sub, Neg, Mul, as numbers. -/
import Derived.Test.YtipnefaggpigfaaRefLa
import Derived.Test.YtipnefaggpigfaaRefLb
import Derived.Test.YtipnefaggpigfaaRefA7
namespace Go.Proofs.Ytipnefaggpigfaa
open Go.RowKit Go.Shelf
attribute [local go_sem] Oper.semAt_some

set_option maxRecDepth 100000 in
theorem rlowest0 (ng nd : Bool) (dh dl : Int) (w : World) :
    Calls Try.prog 63 #[.agg #[.bool ng, .int .u64 0, .int .u64 0], .agg #[.bool nd, .int .u64 dh, .int .u64 dl]] w fun e w' => e = .returned (.tuple #[.agg #[.int .i64 0, .int .i64 1], .int .i64 0]) ∧ Below w.heap.size w w' := by
  go_enter Try.func63, Try.ntmps63
  go_wp2_with fail
  exact bodyPost_ret (v := .tuple #[.agg #[.int .i64 0, .int .i64 1], .int .i64 0]) (by simp [results, Try.results63, go_sem]) rfl ⟨rfl, bel3 w _ _ _⟩
theorem rlow_nat (ng nd : Bool) (m D : Nat) (hm : m ≤ 170141183460469231731687303715884105728) (hD0 : 0 < D) (hD : D ≤ 170141183460469231731687303715884105728) (w : World) :
    Calls Try.prog 63 #[.agg #[.bool ng, .int .u64 (hiZ m), .int .u64 (loZ m)], .agg #[.bool nd, .int .u64 (hiZ D), .int .u64 (loZ D)]] w fun e w' => e = .returned (.tuple #[rtv (low (Rat.divInt (sgnQ ng m) D)).1, .int .i64 (low (Rat.divInt (sgnQ ng m) D)).2]) ∧ Below w.heap.size w w' := by
  by_cases h0 : m = 0
  · subst h0
    have e : sgnQ ng ((0 : Nat) : Int) = 0 := by cases ng <;> rfl
    rw [e, low_zero]
    exact rlowest0 ng nd _ _ w
  · by_cases h : hiZ m = 0
    · rw [h]
      exact rlowestB ng nd (loZ m) m D (by unfold hiZ at h; unfold loZ; omega) h rfl (by omega) hm hD0 hD w
    · exact rlowestA ng nd (hiZ m) (loZ m) m D h rfl rfl (by omega) hm hD0 hD w
theorem sgn_sz (n : Int) : sgnQ (decide (n < 0)) (sz n) = n := by
  unfold sgnQ sz
  by_cases h : n < 0
  · rw [if_pos (decide_eq_true h)]; omega
  · rw [if_neg (by simpa using h)]; omega
theorem rlow_i (n d : Int) (hn : sz n ≤ 170141183460469231731687303715884105728) (hd0 : 0 < d) (hd : d ≤ 170141183460469231731687303715884105728) (w : World) :
    Calls Try.prog 63 #[nv n, nv d] w fun e w' => e = .returned (.tuple #[rtv (low (Rat.divInt n d)).1, .int .i64 (low (Rat.divInt n d)).2]) ∧ Below w.heap.size w w' := by
  obtain ⟨m, em⟩ := Int.eq_ofNat_of_zero_le (sz_nonneg n)
  obtain ⟨D, eD⟩ := Int.eq_ofNat_of_zero_le (show 0 ≤ d by omega)
  have es : sz d = D := by unfold sz; omega
  have := rlow_nat (decide (n < 0)) (decide (d < 0)) m D (by omega) (by omega) (by omega) w
  rw [← em, sgn_sz, ← eD] at this
  unfold nv
  rw [es, ← eD]
  exact this

theorem sz_le {z : Int} {M : Int} (h : -M ≤ z ∧ z ≤ M) : sz z ≤ M := by unfold sz; omega
theorem radd_any (a b : Rt) (ha : RtIn a) (hb : RtIn b) (w : World) :
    Calls Try.prog 32 #[rtv a, rtv b] w fun e w' => e = .returned (.tuple #[rtv (addA a b).1, .int .i64 (addA a b).2]) ∧ Below w.heap.size w w' := by
  have HB := rboth_any a b ha hb
  by_cases hr : (rightB a && rightB b) = true
  · obtain ⟨ra, rb⟩ := (both_iff a b).1 hr
    rw [hr] at HB
    have t1 := top_bounds ra rb
    have t2 := top_bounds rb ra
    have db := den_bounds ra rb
    have s1 := sz_le t1
    have s2 := sz_le t2
    have HL := rlow_i (a.N * b.D + b.N * a.D) (a.D * b.D) (by have := sz_le (z := a.N * b.D + b.N * a.D) (M := 19807040628566084398385987584) ⟨by omega, by omega⟩; omega) (by omega) (by omega)
    rw [← val_add a b ra rb, ← addA_right ra rb] at HL
    exact radd_walk a.N a.D b.N b.D _ _ _ _ _ _ _ _ _ _ _ _ _ HB (rtimes_any _ _ ha.1 hb.2) (rtimes_any _ _ hb.1 ha.2) (rplus_any _ _ (by omega)) (rtimes_any _ _ ha.2 hb.2) HL w
  · have e : addA a b = bad 12 := by unfold addA; rw [if_neg hr]
    rw [e]
    rw [Bool.not_eq_true] at hr
    rw [hr] at HB
    exact radd_not a.N a.D b.N b.D HB w
theorem rmul_any (a b : Rt) (ha : RtIn a) (hb : RtIn b) (w : World) :
    Calls Try.prog 82 #[rtv a, rtv b] w fun e w' => e = .returned (.tuple #[rtv (mulA a b).1, .int .i64 (mulA a b).2]) ∧ Below w.heap.size w w' := by
  have HB := rboth_any a b ha hb
  by_cases hr : (rightB a && rightB b) = true
  · obtain ⟨ra, rb⟩ := (both_iff a b).1 hr
    rw [hr] at HB
    have s1 := sz_le (nums_bounds ra rb)
    have db := den_bounds ra rb
    have HL := rlow_i (a.N * b.N) (a.D * b.D) (by omega) (by omega) (by omega)
    rw [← val_mul a b, ← mulA_right ra rb] at HL
    exact rmul_walk a.N a.D b.N b.D _ _ _ _ _ _ _ HB (rtimes_any _ _ ha.1 hb.1) (rtimes_any _ _ ha.2 hb.2) HL w
  · have e : mulA a b = bad 12 := by unfold mulA; rw [if_neg hr]
    rw [e]
    rw [Bool.not_eq_true] at hr
    rw [hr] at HB
    exact rmul_not a.N a.D b.N b.D HB w
theorem rsub_any (a b : Rt) (ha : RtIn a) (hb : RtIn b) (w : World) :
    Calls Try.prog 31 #[rtv a, rtv b] w fun e w' => e = .returned (.tuple #[rtv (subA a b).1, .int .i64 (subA a b).2]) ∧ Below w.heap.size w w' := by
  have HB := rboth_any a b ha hb
  by_cases hr : (rightB a && rightB b) = true
  · rw [hr] at HB
    rw [subA_eq a b hb.1]
    exact rsub_walk a.N a.D b.N b.D _ _ rfl HB (radd_any a ⟨IntKind.i64.wrap (-b.N), b.D⟩ ha ⟨neg64_wrap _, hb.2⟩) w
  · have e : subA a b = bad 12 := by unfold subA; rw [if_neg hr]
    rw [e]
    rw [Bool.not_eq_true] at hr
    rw [hr] at HB
    exact rsub_not a.N a.D b.N b.D HB w
end Go.Proofs.Ytipnefaggpigfaa
