/- Package code: Time outright; Label. -/
import Derived.Test.YtaipdckakgohjaaDoorCdN
namespace Go.Proofs.YtaipdckakgohjaaDoor
open Go.RowKit Go.Shelf

theorem check_flip {n d : Int} {dr : Bool} (h : checkI n d dr = 0) : rightB ⟨d, n⟩ = true := by
  have r := (right_iff ⟨n, d⟩).1 (check_right h)
  obtain ⟨n1, d1, _, _, _⟩ := full_ok n d dr h
  rw [right_iff]
  have g : d.natAbs.gcd n.natAbs = 1 := by rw [Nat.gcd_comm]; exact r.2.2.2.2
  exact ⟨by simp only; omega, by simp only; omega, by simp only; omega, by simp only; omega, g⟩
theorem time_form (n d : Int) (dr : Bool) (fr : Int) (h : checkI n d dr = 0) :
    timeF n d dr fr = if 0 ≤ fr ∧ fr * d ≤ 360000 * n then ((low (Rat.divInt (fr * d) n)).1, 0) else bad 31 := by
  obtain ⟨n1, d1, _, _, _⟩ := full_ok n d dr h
  have rf := check_flip h
  unfold timeF
  rw [if_pos h]
  by_cases hr : rightB ⟨fr, 1⟩ = true
  · rw [mulA_right hr rf, val_mul]
    simp only [Int.one_mul]
    obtain ⟨P, hP⟩ : ∃ P, fr * d = P := ⟨_, rfl⟩
    rw [hP]
    have Ps : (0 ≤ fr → 0 ≤ P) ∧ (fr < 0 → P < 0) := by
      rw [← hP]
      exact ⟨fun x => Int.mul_nonneg x (by omega), fun x => Int.mul_neg_of_neg_of_pos x (by omega)⟩
    obtain ⟨g, hg⟩ : ∃ g : Nat, P.natAbs.gcd n.natAbs = g := ⟨_, rfl⟩
    have g0 : 0 < g := by rw [← hg]; exact Nat.gcd_pos_of_pos_right _ (by omega)
    have e1 : (g : Int) * (P / g) = P := Int.mul_ediv_cancel' (by rw [← hg]; exact Int.ofNat_dvd_left.2 (Nat.gcd_dvd_left _ _))
    have e2 : (g : Int) * (n / g) = n := Int.mul_ediv_cancel' (by rw [← hg]; exact Int.ofNat_dvd_left.2 (Nat.gcd_dvd_right _ _))
    have q1 := q_num P n (by omega)
    have q2 := q_den P n (by omega)
    rw [hg] at q1 q2
    have b3 : n / g ≤ n := Int.ediv_le_self _ (by omega)
    have b4 : 0 < n / g := by
      refine Int.lt_of_not_ge fun x => ?_
      have : (g : Int) * (n / g) ≤ g * 0 := Int.mul_le_mul_of_nonneg_left x (by omega)
      omega
    have cmp : ∀ k : Int, P / g ≤ k * (n / g) ↔ P ≤ k * n := by
      intro k
      constructor
      · intro x
        have := Int.mul_le_mul_of_nonneg_left x (show (0 : Int) ≤ g by omega)
        rw [e1, Int.mul_left_comm, e2] at this
        exact this
      · intro x
        refine Int.le_of_not_gt fun y => ?_
        have := Int.mul_lt_mul_of_pos_left y (show (0 : Int) < g by omega)
        rw [e1, Int.mul_left_comm, e2] at this
        omega
    by_cases hf : fitsQ (Rat.divInt P n) = true
    · rw [low_fits _ hf]
      have rr := low_ok_right (Rat.divInt P n) (by rw [low_fits _ hf])
      rw [low_fits _ hf] at rr
      simp only
      have ta : timeA ⟨(Rat.divInt P n).num, (Rat.divInt P n).den⟩ = if (Rat.divInt P n).num < 0 ∨ 0 < cmpI ⟨(Rat.divInt P n).num, (Rat.divInt P n).den⟩ ⟨360000, 1⟩ then 31 else 0 := by
        unfold timeA
        rw [if_pos ⟨rr.1, by simp only; rw [q2]; omega⟩]
      have cm : 0 < cmpI ⟨(Rat.divInt P n).num, (Rat.divInt P n).den⟩ ⟨360000, 1⟩ ↔ ¬ P ≤ 360000 * n := by
        rw [← cmp 360000]
        unfold cmpI
        simp only [Int.mul_one]
        rw [q1, q2]
        split
        · omega
        · split <;> omega
      have sg : (Rat.divInt P n).num < 0 ↔ P < 0 := by
        rw [q1]
        have := cmp (-1)
        constructor
        · intro x
          refine Int.lt_of_not_ge fun y => ?_
          have := Int.ediv_nonneg y (show (0 : Int) ≤ g by omega)
          omega
        · intro x
          refine Int.lt_of_not_ge fun y => ?_
          have := Int.mul_nonneg (show (0 : Int) ≤ g by omega) y
          omega
      by_cases c : 0 ≤ fr ∧ P ≤ 360000 * n
      · rw [if_pos c, if_pos ⟨trivial, by rw [ta, if_neg]; intro x; rcases x with x | x; exact absurd (sg.1 x) (by have := Ps.1 c.1; omega); exact cm.1 x c.2⟩]
      · rw [if_neg c, if_neg]
        rintro ⟨_, x⟩
        rw [ta] at x
        by_cases c2 : (Rat.divInt P n).num < 0 ∨ 0 < cmpI ⟨(Rat.divInt P n).num, (Rat.divInt P n).den⟩ ⟨360000, 1⟩
        · rw [if_pos c2] at x
          cases x
        · refine c ⟨?_, ?_⟩
          · refine Int.le_of_not_gt fun y => c2 (.inl (sg.2 (Ps.2 y)))
          · refine Decidable.byContradiction fun y => c2 (.inr (cm.2 y))
    · rw [Bool.not_eq_true] at hf
      rw [low_not _ hf]
      rw [if_neg (by simp), if_neg]
      rintro ⟨x, y⟩
      have p0 := Ps.1 x
      have b1 : 0 ≤ P / g := Int.ediv_nonneg p0 (by omega)
      have b2 : P / g ≤ P := Int.ediv_le_self _ p0
      unfold fitsQ at hf
      rw [q1, q2, decide_eq_false_iff_not] at hf
      omega
  · have e : mulA ⟨fr, 1⟩ ⟨d, n⟩ = bad 12 := by
      unfold mulA
      rw [if_neg (by simp [hr])]
    rw [e, if_neg (by unfold bad; simp), if_neg]
    rintro ⟨x, y⟩
    refine hr ((right_iff _).2 ⟨by simp, by simp, by simp only; omega, ?_, by simp⟩)
    simp only
    have : fr * 1 ≤ fr * d := Int.mul_le_mul_of_nonneg_left (by omega) x
    omega
theorem num_bound (f l fr : Int) (h : Full f l) (hf : 0 ≤ fr ∧ fr ≤ 1000000000) : 0 ≤ numI f l fr ∧ numI f l fr ≤ 1000000000000 := by
  obtain ⟨f1, f2, l1, l2⟩ := h
  have T0 : 0 < 600 * f - 9 * l := by omega
  have q0 : 0 ≤ fr / (600 * f - 9 * l) := Int.ediv_nonneg hf.1 (by omega)
  have r0 := Int.emod_nonneg fr (show 600 * f - 9 * l ≠ 0 by omega)
  have r1 := Int.emod_lt_of_pos fr T0
  have dm := Int.mul_ediv_add_emod fr (600 * f - 9 * l)
  have a1 : fr / (600 * f - 9 * l) * (60 * f) ≤ fr / (600 * f - 9 * l) * (600 * f - 9 * l) := Int.mul_le_mul_of_nonneg_left (by omega) q0
  have a2 : 0 ≤ fr / (600 * f - 9 * l) * (60 * f) := Int.mul_nonneg q0 (by omega)
  have a3 : (600 * f - 9 * l) * (fr / (600 * f - 9 * l)) = fr / (600 * f - 9 * l) * (600 * f - 9 * l) := Int.mul_comm _ _
  have a4 : fr / (600 * f - 9 * l) * 10 * (60 * f) = 10 * (fr / (600 * f - 9 * l) * (60 * f)) := by rw [Int.mul_comm _ 10, Int.mul_assoc]
  unfold numI
  rw [a4]
  split
  · rename_i c
    have x0 : 0 ≤ (fr % (600 * f - 9 * l) - 60 * f) / (60 * f - l) := Int.ediv_nonneg (by omega) (by omega)
    have x1 : (fr % (600 * f - 9 * l) - 60 * f) / (60 * f - l) ≤ fr % (600 * f - 9 * l) - 60 * f := Int.ediv_le_self _ (by omega)
    have y0 : 0 ≤ l * (1 + (fr % (600 * f - 9 * l) - 60 * f) / (60 * f - l)) := Int.mul_nonneg l1 (by omega)
    have y1 : l * (1 + (fr % (600 * f - 9 * l) - 60 * f) / (60 * f - l)) ≤ 4 * 200000 := Int.mul_le_mul l2 (by omega) (by omega) (by omega)
    omega
  · omega
def labelF (n d : Int) (dr : Bool) (fr : Int) : List UInt8 :=
  dialL 2 (if dr = true then 59 else 58) (fullI n d).toNat (if 100 < fullI n d then 3 else 2) (numI (fullI n d) (if dr = true then leftI n d else 0) fr).toNat
theorem label_ok (n d : Int) (dr : Bool) (hn : I64 n) (hd : I64 d) (fr : Int) (hf : I64 fr) (h : checkI n d dr = 0) (hb : 0 ≤ fr ∧ fr * d ≤ 360000 * n) (w : World) (hp : PowAt w) :
    Calls Tryd.prog 23 #[.agg #[.int .i64 n, .int .i64 d, .bool dr], .int .i64 fr] w fun e w' => e = .returned (.tuple #[.string (bs (labelF n d dr fr)), .int .i64 0]) ∧ Below w.heap.size w w' := by
  obtain ⟨n1, d1, _, nd, hF⟩ := full_ok n d dr h
  have HT := ctime_any n d dr hn hd fr hf
  rw [time_form n d dr fr h, if_pos hb] at HT
  have fb : fr ≤ 1000000000 := by
    have y : fr * d ≤ 86400000 * d := by omega
    have := Int.le_of_mul_le_mul_right y (by omega)
    omega
  have nb := num_bound _ _ fr hF ⟨hb.1, fb⟩
  have HN := count_any n d dr n1 d1
  have HD := cdial_any (fullI n d) (if dr = true then leftI n d else 0) dr ⟨hF.1, hF.2.1⟩
  have HB := cnumber_any (fullI n d) (if dr = true then leftI n d else 0) fr hF ⟨hb.1, fb⟩
  have f1 := hF.1
  have f2 := hF.2.1
  have HW := fun (w0 : World) (b0 : Below w.heap.size w w0) => write_any 2 (if dr = true then 59 else 58) (fullI n d).toNat (if 100 < fullI n d then 3 else 2) (numI (fullI n d) (if dr = true then leftI n d else 0) fr).toNat false (by omega) (by split <;> omega) (by omega) (by omega) w0 (hp.keep b0)
  rw [show (((numI (fullI n d) (if dr = true then leftI n d else 0) fr).toNat : Nat) : Int) = numI (fullI n d) (if dr = true then leftI n d else 0) fr by omega, show (((fullI n d).toNat : Nat) : Int) = fullI n d by omega, show (((if 100 < fullI n d then 3 else 2 : Nat) : Nat) : Int) = (if 100 < fullI n d then (3 : Int) else 2) by split <;> rfl, show (((if dr = true then 59 else 58 : UInt8).toNat : Nat) : Int) = (if dr = true then (59 : Int) else 58) by split <;> rfl] at HW
  exact label_walk n d fr _ _ _ _ _ _ _ _ _ dr false _ w HT HN HD HB HW
theorem label_no (n d : Int) (dr : Bool) (hn : I64 n) (hd : I64 d) (fr : Int) (hf : I64 fr) (h : checkI n d dr = 0) (hb : ¬ (0 ≤ fr ∧ fr * d ≤ 360000 * n)) (w : World) :
    Calls Tryd.prog 23 #[.agg #[.int .i64 n, .int .i64 d, .bool dr], .int .i64 fr] w fun e w' => e = .returned (.tuple #[.string ⟨#[]⟩, .int .i64 31]) ∧ Below w.heap.size w w' := by
  have HT := ctime_any n d dr hn hd fr hf
  rw [time_form n d dr fr h, if_neg hb] at HT
  exact label_bad n d fr 0 0 31 dr rfl w HT
end Go.Proofs.YtaipdckakgohjaaDoor
