/- Package code: the contract of Frame. -/
import Derived.Test.YtaipdckakgohjaaDoorCdM
import Derived.Test.YtaipdckakgohjaaDoorCdE1
import Derived.Test.YtaipdckakgohjaaDoorCdE2
import Derived.Test.YtaipdckakgohjaaDoorCdE3
namespace Go.Proofs.YtaipdckakgohjaaDoor
open Go.RowKit Go.Shelf

theorem time_ok {t : Rt} (h : timeA t = 0) : rightB t = true ∧ 1 ≤ t.D ∧ t.D ≤ 1048576 ∧ 0 ≤ t.N ∧ t.N ≤ 360000 * t.D := by
  unfold timeA at h
  by_cases c : rightB t = true ∧ t.D ≤ 1048576
  · rw [if_pos c] at h
    have ri := (right_iff t).1 c.1
    by_cases c2 : t.N < 0 ∨ 0 < cmpI t ⟨360000, 1⟩
    · rw [if_pos c2] at h
      cases h
    · refine ⟨c.1, ri.1, c.2, by omega, ?_⟩
      unfold cmpI at c2
      simp only [Int.mul_one] at c2
      by_cases c3 : t.N < 360000 * t.D
      · omega
      · rw [if_neg c3] at c2
        by_cases c4 : 360000 * t.D < t.N
        · rw [if_pos c4] at c2
          omega
        · omega
  · rw [if_neg c] at h
    cases h
theorem whole_scale (how g P Q : Int) (hg : 0 < g) : wholeI how (g * P) (g * Q) = wholeI how P Q := by
  unfold wholeI
  split
  · exact Int.mul_ediv_mul_of_pos _ _ hg
  · split
    · rw [show 2 * (g * P) + g * Q = g * (2 * P + Q) by rw [Int.mul_add, Int.mul_left_comm], show 2 * (g * Q) = g * (2 * Q) by rw [Int.mul_left_comm]]
      exact Int.mul_ediv_mul_of_pos _ _ hg
    · rw [show -(g * P) = g * (-P) by rw [Int.mul_neg]]
      rw [Int.mul_ediv_mul_of_pos _ _ hg]
theorem whole_bound (how P Q : Int) (hP : 0 ≤ P) (hQ : 0 < Q) : 0 ≤ wholeI how P Q ∧ wholeI how P Q ≤ P + 1 := by
  have d0 : 0 ≤ P / Q := Int.ediv_nonneg hP (by omega)
  have d1 : P / Q ≤ P := Int.ediv_le_self _ hP
  unfold wholeI
  split
  · omega
  · split
    · have a0 : 0 ≤ (2 * P + Q) / (2 * Q) := Int.ediv_nonneg (by omega) (by omega)
      have a1 : (2 * P + Q) / (2 * Q) ≤ P + 1 := by
        have h : (2 * P + Q) / (2 * Q) < P + 2 := (Int.ediv_lt_iff_lt_mul (by omega)).2 (by
          have : P * 1 ≤ P * Q := Int.mul_le_mul_of_nonneg_left (by omega) hP
          rw [Int.add_mul, show P * (2 * Q) = 2 * (P * Q) by rw [Int.mul_left_comm]]
          omega)
        omega
      omega
    · have a0 : -P / Q ≤ 0 := by
        have : -P / Q < 1 := (Int.ediv_lt_iff_lt_mul hQ).2 (by omega)
        omega
      have a1 : -P ≤ -P / Q := (Int.le_ediv_iff_mul_le hQ).2 (by
        have : P * 1 ≤ P * Q := Int.mul_le_mul_of_nonneg_left (by omega) hP
        rw [Int.neg_mul]
        omega)
      omega
/-- A time by a rate: a right ratio, made whole as the product itself. -/
theorem mul_time (t : Rt) (n d how : Int) (ht : timeA t = 0) (hr : rightB ⟨n, d⟩ = true) (hn : 1 ≤ n ∧ n ≤ 240000) (hd : 1 ≤ d ∧ d ≤ 1001) (hh : howB how = true) :
    (mulA t ⟨n, d⟩).2 = 0 ∧ wholeA (mulA t ⟨n, d⟩).1 1 how = (wholeI how (t.N * n) (t.D * d), 0) := by
  obtain ⟨tr, t1, t2, t3, t4⟩ := time_ok ht
  rw [mulA_right tr hr, val_mul]
  simp only
  obtain ⟨P, hP⟩ : ∃ P, t.N * n = P := ⟨_, rfl⟩
  obtain ⟨Q, hQ⟩ : ∃ Q, t.D * d = Q := ⟨_, rfl⟩
  have P0 : 0 ≤ P := by rw [← hP]; exact Int.mul_nonneg t3 (by omega)
  have P1 : P ≤ 377487360000 * 240000 := by rw [← hP]; exact Int.mul_le_mul (by omega) hn.2 (by omega) (by omega)
  have Q0 : 0 < Q := by rw [← hQ]; exact Int.mul_pos (by omega) (by omega)
  have Q1 : Q ≤ 1048576 * 1001 := by rw [← hQ]; exact Int.mul_le_mul t2 hd.2 (by omega) (by omega)
  rw [hP, hQ]
  clear hP hQ
  obtain ⟨g, hg⟩ : ∃ g : Nat, P.natAbs.gcd Q.natAbs = g := ⟨_, rfl⟩
  have g0 : 0 < g := by rw [← hg]; exact Nat.gcd_pos_of_pos_right _ (by omega)
  have e1 : (g : Int) * (P / g) = P := Int.mul_ediv_cancel' (by rw [← hg]; exact Int.ofNat_dvd_left.2 (Nat.gcd_dvd_left _ _))
  have e2 : (g : Int) * (Q / g) = Q := Int.mul_ediv_cancel' (by rw [← hg]; exact Int.ofNat_dvd_left.2 (Nat.gcd_dvd_right _ _))
  have n1 := q_num P Q Q0
  have n2 := q_den P Q Q0
  rw [hg] at n1 n2
  have b1 : 0 ≤ P / g := Int.ediv_nonneg P0 (by omega)
  have b2 : P / g ≤ P := Int.ediv_le_self _ P0
  have b3 : Q / g ≤ Q := Int.ediv_le_self _ (by omega)
  have fits : fitsQ (Rat.divInt P Q) = true := by
    unfold fitsQ
    rw [n1, n2, decide_eq_true_iff]
    omega
  rw [low_fits _ fits]
  refine ⟨rfl, ?_⟩
  have hw := whole_scale how g (P / g) (Q / g) (by omega)
  rw [e1, e2] at hw
  have wb := whole_bound how P Q P0 Q0
  have rr := low_ok_right (Rat.divInt P Q) (by rw [low_fits _ fits])
  rw [low_fits _ fits] at rr
  unfold wholeA
  rw [if_pos rr.1, if_pos hh]
  simp only [Int.mul_one]
  rw [n1, n2, ← hw]
  rw [if_pos (by unfold inNum; rw [decide_eq_true_iff]; omega)]
def frameF (n d : Int) (dr : Bool) (t : Rt) (how : Int) : Int × Int :=
  if checkI n d dr = 0 then (if timeA t = 0 then (if howB how = true then (wholeI how (t.N * n) (t.D * d), 0) else (0, 5)) else (0, timeA t)) else (0, 14)
theorem check_right {n d : Int} {dr : Bool} (h : checkI n d dr = 0) : rightB ⟨n, d⟩ = true := by
  unfold checkI at h
  by_cases c : 1 ≤ n ∧ n ≤ 240000 ∧ 1 ≤ d ∧ d ≤ 1001 ∧ d ≤ n ∧ n ≤ d * 240 ∧ rightB ⟨n, d⟩ = true ∧ (dr = true → leftI n d ≠ 0)
  · exact c.2.2.2.2.2.2.1
  · rw [if_neg c] at h
    cases h
theorem frame5_any (n d : Int) (dr : Bool) (hn : I64 n) (hd : I64 d) (t : Rt) (ht : RtIn t) (how : Int) (w : World) :
    Calls Tryd.prog 26 #[.agg #[.int .i64 n, .int .i64 d, .bool dr], rtv t, .int .i64 how] w fun e w' => e = .returned (.tuple #[.int .i64 (frameF n d dr t how).1, .int .i64 (frameF n d dr t how).2]) ∧ Below w.heap.size w w' := by
  have HC := check_any n d dr hn hd
  have HT := time_any t ht
  unfold frameF
  by_cases h : checkI n d dr = 0
  · rw [if_pos h]
    rw [h] at HC
    by_cases h1 : timeA t = 0
    · rw [if_pos h1]
      rw [h1] at HT
      obtain ⟨n1, d1, _, _, _⟩ := full_ok n d dr h
      by_cases h2 : howB how = true
      · rw [if_pos h2]
        obtain ⟨m1, m2⟩ := mul_time t n d how h1 (check_right h) n1 d1 h2
        have HM := mul_any t ⟨n, d⟩ ht ⟨hn, hd⟩
        rw [m1] at HM
        have HW := whole_any (mulA t ⟨n, d⟩).1 (mulA_in _ _) 1 (by unfold I64; simp) how
        rw [m2] at HW
        have HS := speed_any n d dr
        have h3 : how = 1 ∨ how = 2 ∨ how = 3 := by
          unfold howB at h2
          rw [decide_eq_true_iff] at h2
          omega
        rcases h3 with rfl | rfl | rfl
        · exact frame_ok1 n d t.N t.D _ _ _ _ dr w HC HT HS HM HW
        · exact frame_ok2 n d t.N t.D _ _ _ _ dr w HC HT HS HM HW
        · exact frame_ok3 n d t.N t.D _ _ _ _ dr w HC HT HS HM HW
      · rw [if_neg h2]
        have h3 : ¬ how = 1 ∧ ¬ how = 2 ∧ ¬ how = 3 := by
          unfold howB at h2
          rw [decide_eq_true_iff] at h2
          omega
        exact frame_kind n d t.N t.D how dr (by simpa using h3.1) (by simpa using h3.2.1) (by simpa using h3.2.2) w HC HT
    · rw [if_neg h1]
      exact frame_out n d t.N t.D how _ dr (by simpa using h1) w HC HT
  · rw [if_neg h]
    rw [(check_two n d dr).resolve_left h] at HC
    exact frame_bad n d t.N t.D how 14 dr rfl w HC
end Go.Proofs.YtaipdckakgohjaaDoor
