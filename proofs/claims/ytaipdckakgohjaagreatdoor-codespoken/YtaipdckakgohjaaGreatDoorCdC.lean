/- Package code: how a rate's time codes count. -/
import Derived.Test.YtaipdckakgohjaaGreatDoorCdA
import Derived.Deep.RegionHeld3
namespace Go.Proofs.YtaipdckakgohjaaGreatDoor
open Go.RowKit Go.Shelf
attribute [local go_sem] Oper.semAt_some

/-- The number that a frame has; full f, left out l. -/
def numI (f l n : Int) : Int := n / (600 * f - 9 * l) * 10 * (60 * f) + (if 60 * f ≤ n % (600 * f - 9 * l) then n % (600 * f - 9 * l) + l * (1 + (n % (600 * f - 9 * l) - 60 * f) / (60 * f - l)) else n % (600 * f - 9 * l))
set_option maxRecDepth 100000 in
theorem number_walk (f l n M T q r x : Int) (hT : 10 * M - 9 * l = T) (hT0 : 0 < T) (hM0 : 0 < M ∧ M ≤ 14400) (hl : 0 ≤ l ∧ l ≤ 4) (hn : 0 ≤ n ∧ n ≤ 1000000000) (hq : n / T = q) (hr : n % T = r) (hq0 : 0 ≤ q ∧ q ≤ 1000000000) (hr0 : 0 ≤ r ∧ r < T) (hx : (r - M) / (M - l) = x) (hx0 : M ≤ r → 0 ≤ x ∧ x ≤ 200000) (hqm : 0 ≤ q * 10 * M ∧ q * 10 * M ≤ 1000000000000000) (hlx : M ≤ r → 0 ≤ l * (1 + x) ∧ l * (1 + x) ≤ 1000000) (w : World)
    (HM : ∀ w, Calls Tryz.prog 85 #[.agg #[.int .i64 f, .int .i64 l]] w fun e w' => e = .returned (.int .i64 M) ∧ Below w.heap.size w w') :
    Calls Tryz.prog 57 #[.agg #[.int .i64 f, .int .i64 l], .int .i64 n] w fun e w' => e = .returned (.int .i64 (q * 10 * M + (if M ≤ r then r + l * (1 + x) else r))) ∧ Below w.heap.size w w' := by
  have HM := hideR HM
  have zq : ∀ w, (Op.intDiv .quo .i64 n T).run Tryz.prog w = .ok (.int .i64 q) w := fun w => by
    unfold Op.intDiv
    rw [if_neg (by omega), Int.tdiv_eq_ediv_of_nonneg (by omega), hq]
    exact congrArg (fun z => Result.ok (Value.int .i64 z) w) (by rw [IntKind.wrap_i64]; omega)
  have zr : ∀ w, (Op.intDiv .rem .i64 n T).run Tryz.prog w = .ok (.int .i64 r) w := fun w => by
    unfold Op.intDiv
    rw [if_neg (by omega), Int.tmod_eq_emod_of_nonneg (by omega), hr]
    rfl
  by_cases h : M ≤ r
  · rw [if_pos h]
    have hx0 := hx0 h
    have hlx := hlx h
    have zx : ∀ w, (Op.intDiv .quo .i64 (r - M) (M - l)).run Tryz.prog w = .ok (.int .i64 x) w := fun w => by
      unfold Op.intDiv
      rw [if_neg (by omega), Int.tdiv_eq_ediv_of_nonneg (by omega), hx]
      exact congrArg (fun z => Result.ok (Value.int .i64 z) w) (by rw [IntKind.wrap_i64]; omega)
    have k1 : IntKind.i64.wrap (r - M) = r - M := by rw [IntKind.wrap_i64]; omega
    have k2 : IntKind.i64.wrap (M - l) = M - l := by rw [IntKind.wrap_i64]; omega
    have k3 : IntKind.i64.wrap (1 + x) = 1 + x := by rw [IntKind.wrap_i64]; omega
    have k4 : IntKind.i64.wrap (l * (1 + x)) = l * (1 + x) := by rw [IntKind.wrap_i64]; omega
    have k5 : IntKind.i64.wrap (r + l * (1 + x)) = r + l * (1 + x) := by rw [IntKind.wrap_i64]; omega
    go_enter Tryz.func57, Tryz.ntmps57
    go_wp2_with fail
    go_at_call 85
    refine (HM.out _).mono ?_
    rintro e w1 ⟨rfl, b1⟩
    have C1 := (Two.new w (.int .i64 f) (.int .i64 l) 95).keep b1
    have B1 := bup (bel1 w _) b1
    obtain ⟨_, c0, c1, _, _⟩ := id C1
    clear b1
    go_wp2_with fail
    go_region
    all_goals (
      go_wp2_with fail
      go_quiet (fail)
      go_wp2_with fail
      go_ret
      exact ⟨rfl, by first | exact below_drewN B1.drew _ | exact B1.drew.drew | exact below_drewN B1 _⟩)
  · rw [if_neg h]
    go_enter Tryz.func57, Tryz.ntmps57
    go_wp2_with fail
    go_at_call 85
    refine (HM.out _).mono ?_
    rintro e w1 ⟨rfl, b1⟩
    have C1 := (Two.new w (.int .i64 f) (.int .i64 l) 95).keep b1
    have B1 := bup (bel1 w _) b1
    obtain ⟨_, c0, c1, _, _⟩ := id C1
    clear b1
    go_wp2_with fail
    go_region
    all_goals (
      go_wp2_with fail
      go_ret
      exact ⟨rfl, B1.drew⟩)
/-- What the numbers of a rate that may be are: full f, left out l. -/
def Full (f l : Int) : Prop := 1 ≤ f ∧ f ≤ 240 ∧ 0 ≤ l ∧ l ≤ 4
theorem cnumber_any (f l n : Int) (h : Full f l) (hn : 0 ≤ n ∧ n ≤ 1000000000) (w : World) :
    Calls Tryz.prog 57 #[.agg #[.int .i64 f, .int .i64 l], .int .i64 n] w fun e w' => e = .returned (.int .i64 (numI f l n)) ∧ Below w.heap.size w w' := by
  obtain ⟨f1, f2, l1, l2⟩ := h
  have T0 : 0 < 10 * (60 * f) - 9 * l := by omega
  have q0 : 0 ≤ n / (10 * (60 * f) - 9 * l) := Int.ediv_nonneg hn.1 (by omega)
  have q1 : n / (10 * (60 * f) - 9 * l) ≤ n := Int.ediv_le_self _ hn.1
  have r0 := Int.emod_nonneg n (show 10 * (60 * f) - 9 * l ≠ 0 by omega)
  have r1 := Int.emod_lt_of_pos n T0
  have qm : 0 ≤ n / (10 * (60 * f) - 9 * l) * 10 * (60 * f) ∧ n / (10 * (60 * f) - 9 * l) * 10 * (60 * f) ≤ 1000000000000000 :=
    ⟨Int.mul_nonneg (by omega) (by omega), Int.le_trans (Int.mul_le_mul (show n / (10 * (60 * f) - 9 * l) * 10 ≤ 10000000000 by omega) (show 60 * f ≤ 14400 by omega) (by omega) (by omega)) (by omega)⟩
  have x0 : 60 * f ≤ n % (10 * (60 * f) - 9 * l) → 0 ≤ (n % (10 * (60 * f) - 9 * l) - 60 * f) / (60 * f - l) ∧ (n % (10 * (60 * f) - 9 * l) - 60 * f) / (60 * f - l) ≤ 200000 := fun h =>
    ⟨Int.ediv_nonneg (by omega) (by omega), Int.le_trans (Int.ediv_le_self _ (by omega)) (by omega)⟩
  have lx : 60 * f ≤ n % (10 * (60 * f) - 9 * l) → 0 ≤ l * (1 + (n % (10 * (60 * f) - 9 * l) - 60 * f) / (60 * f - l)) ∧ l * (1 + (n % (10 * (60 * f) - 9 * l) - 60 * f) / (60 * f - l)) ≤ 1000000 := fun h => by
    have := x0 h
    exact ⟨Int.mul_nonneg (by omega) (by omega), Int.le_trans (Int.mul_le_mul (show l ≤ 4 by omega) (show 1 + (n % (10 * (60 * f) - 9 * l) - 60 * f) / (60 * f - l) ≤ 200001 by omega) (by omega) (by omega)) (by omega)⟩
  have := number_walk f l n (60 * f) _ _ _ _ rfl T0 (by omega) ⟨l1, l2⟩ hn rfl rfl (by omega) ⟨r0, r1⟩ rfl x0 qm lx w (minute_any f l ⟨f1, f2⟩)
  unfold numI
  rw [show 600 * f - 9 * l = 10 * (60 * f) - 9 * l by omega]
  exact this
def skipB (f l n : Int) : Bool := decide (n / (60 * f) % 10 ≠ 0 ∧ n % (60 * f) < l)
set_option maxRecDepth 100000 in
set_option maxHeartbeats 2000000 in
theorem skips_walk (f l n M q r t : Int) (hM0 : 0 < M ∧ M ≤ 14400) (hn : 0 ≤ n ∧ n ≤ 1000000000000) (hq : n / M = q) (hq0 : 0 ≤ q ∧ q ≤ 1000000000000) (ht : q % 10 = t) (hr : n % M = r) (h : t ≠ 0) (w : World)
    (HM : ∀ w, Calls Tryz.prog 85 #[.agg #[.int .i64 f, .int .i64 l]] w fun e w' => e = .returned (.int .i64 M) ∧ Below w.heap.size w w') :
    Calls Tryz.prog 58 #[.agg #[.int .i64 f, .int .i64 l], .int .i64 n] w fun e w' => e = .returned (.bool (decide (t ≠ 0 ∧ r < l))) ∧ Below w.heap.size w w' := by
  have HM := hideR HM
  have zq : ∀ w, (Op.intDiv .quo .i64 n M).run Tryz.prog w = .ok (.int .i64 q) w := fun w => by
    unfold Op.intDiv
    rw [if_neg (by omega), Int.tdiv_eq_ediv_of_nonneg (by omega), hq]
    exact congrArg (fun z => Result.ok (Value.int .i64 z) w) (by rw [IntKind.wrap_i64]; omega)
  have zr : ∀ w, (Op.intDiv .rem .i64 n M).run Tryz.prog w = .ok (.int .i64 r) w := fun w => by
    unfold Op.intDiv
    rw [if_neg (by omega), Int.tmod_eq_emod_of_nonneg (by omega), hr]
    rfl
  have zt : ∀ w, (Op.intDiv .rem .i64 q 10).run Tryz.prog w = .ok (.int .i64 t) w := fun w => by
    unfold Op.intDiv
    rw [if_neg (by omega), Int.tmod_eq_emod_of_nonneg (by omega), ht]
    rfl
  have hq10 : q.tmod 10 = t := by rw [Int.tmod_eq_emod_of_nonneg (by omega), ht]
  have hrm : n.tmod M = r := by rw [Int.tmod_eq_emod_of_nonneg (by omega), hr]
  have tg : (q.tmod 10 != 0) = true := by rw [hq10]; simpa using h
  have tg2 : (t != 0) = true := by simpa using h
  rw [show decide (t ≠ 0 ∧ r < l) = decide (r < l) by simp [h]]
  go_enter Tryz.func58, Tryz.ntmps58
  go_wp2_with fail
  have C0 := (Two.new w (.int .i64 f) (.int .i64 l) 95)
  go_region_with (first
    | (go_at_call 85; have _ := B1; refine (HM.out _).mono ?_; rintro e w2 ⟨rfl, b2⟩; have C2 := C1.keep b2; have B2 := bup B1 b2; obtain ⟨_, d0, d1, _, _⟩ := id C2)
    | (go_at_call 85; refine (HM.out _).mono ?_; rintro e w1 ⟨rfl, b1⟩; have C1 := C0.drew.keep b1; have B1 := bup (bel1 w (.cells #[.int .i64 f, .int .i64 l] 95)).drew b1; obtain ⟨_, c0, c1, _, _⟩ := id C1))
  all_goals (try go_wp2_with fail)
  all_goals (go_ret; exact ⟨by first | rfl | go_simp, B2⟩)
set_option maxRecDepth 100000 in
theorem frame_walk (f l n M q : Int) (hM0 : 0 < M ∧ M ≤ 14400) (hn : 0 ≤ n ∧ n ≤ 1000000000000) (hq : n / M = q) (hq0 : 0 ≤ q ∧ q ≤ 1000000000000) (hlq : 0 ≤ l * (q - q / 10) ∧ l * (q - q / 10) ≤ 4000000000000) (w : World)
    (HM : ∀ w, Calls Tryz.prog 85 #[.agg #[.int .i64 f, .int .i64 l]] w fun e w' => e = .returned (.int .i64 M) ∧ Below w.heap.size w w') :
    Calls Tryz.prog 59 #[.agg #[.int .i64 f, .int .i64 l], .int .i64 n] w fun e w' => e = .returned (.int .i64 (n - l * (q - q / 10))) ∧ Below w.heap.size w w' := by
  have HM := hideR HM
  have zq : ∀ w, (Op.intDiv .quo .i64 n M).run Tryz.prog w = .ok (.int .i64 q) w := fun w => by
    unfold Op.intDiv
    rw [if_neg (by omega), Int.tdiv_eq_ediv_of_nonneg (by omega), hq]
    exact congrArg (fun z => Result.ok (Value.int .i64 z) w) (by rw [IntKind.wrap_i64]; omega)
  go_enter Tryz.func59, Tryz.ntmps59
  go_wp2_with fail
  go_at_call 85
  refine (HM.out _).mono ?_
  rintro e w1 ⟨rfl, b1⟩
  have C1 := (Two.new w (.int .i64 f) (.int .i64 l) 95).keep b1
  have B1 := bup (bel1 w _) b1
  obtain ⟨_, c0, c1, _, _⟩ := id C1
  clear b1
  go_wp2_with fail
  go_ret
  exact ⟨rfl, B1⟩
end Go.Proofs.YtaipdckakgohjaaGreatDoor
