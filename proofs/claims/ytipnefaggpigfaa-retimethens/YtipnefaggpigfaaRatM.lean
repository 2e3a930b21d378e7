/- The mathematics of package ratio: numbers of 128 bits by their halves, long division, ratios as rational numbers (the core library's): no program is named here. -/
import Derived.KernelRfl
namespace Go.Proofs.Ytipnefaggpigfaa

/-! Whole numbers of 128 bits by their halves. -/
def hiZ (z : Int) : Int := z / 18446744073709551616 % 18446744073709551616
def loZ (z : Int) : Int := z % 18446744073709551616

theorem hiZ_range (z : Int) : 0 ≤ hiZ z ∧ hiZ z < 18446744073709551616 := by unfold hiZ; omega
theorem loZ_range (z : Int) : 0 ≤ loZ z ∧ loZ z < 18446744073709551616 := by unfold loZ; omega

theorem plus_lo (a b : Int) : (loZ a + loZ b) % 18446744073709551616 = loZ (a + b) := by unfold loZ; omega
theorem plus_hi (a b : Int) : (hiZ a + hiZ b + (loZ a + loZ b) / 18446744073709551616) % 18446744073709551616 = hiZ (a + b) := by unfold loZ hiZ; omega
theorem flip_lo (a : Int) : 18446744073709551615 - loZ a = loZ (-1 - a) := by unfold loZ; omega
theorem flip_hi (a : Int) : 18446744073709551615 - hiZ a = hiZ (-1 - a) := by unfold hiZ; omega

/-- The floor of a negative number, by the flipped one. -/
theorem floor_flip (a d : Int) (hd : 0 < d) : -1 - (-1 - a) / d = a / d := by
  have h1 := Int.emod_nonneg a (show d ≠ 0 by omega)
  have h2 := Int.emod_lt_of_pos a hd
  have h3 := Int.mul_ediv_add_emod a d
  have : (-1 - a) / d = -1 - a / d := by
    have e : -1 - a = (d - 1 - a % d) + (-1 - a / d) * d := by
      have e2 : (-1 - a / d) * d = -d - d * (a / d) := by rw [Int.sub_mul, Int.mul_comm (a / d) d]; omega
      rw [e2]; omega
    rw [e, Int.add_mul_ediv_right _ _ (by omega), Int.ediv_eq_zero_of_lt (by omega) (by omega)]
    omega
  omega

/-- The quotient's halves. -/
theorem floor_halves (a d : Int) (h0 : 0 ≤ a) (h1 : a < 170141183460469231731687303715884105728) (hd : 0 < d) (hd2 : d < 18446744073709551616) :
    hiZ a / d = hiZ (a / d) ∧ (hiZ a % d * 18446744073709551616 + loZ a) / d = loZ (a / d) := by
  have eh : hiZ a = a / 18446744073709551616 := by unfold hiZ; omega
  have ea : a = hiZ a * 18446744073709551616 + loZ a := by rw [eh]; unfold loZ; omega
  have lr := loZ_range a
  have hr := hiZ_range a
  generalize hiZ a = H at *
  generalize loZ a = L at *
  have eH := Int.mul_ediv_add_emod H d
  have r0 := Int.emod_nonneg H (show d ≠ 0 by omega)
  have r1 := Int.emod_lt_of_pos H hd
  have q0 : 0 ≤ H / d := Int.ediv_nonneg (by omega) (by omega)
  have q1 : H / d ≤ H := Int.ediv_le_self _ (by omega)
  generalize hq : H / d = q at *
  generalize hr' : H % d = r at *
  have e : a = (r * 18446744073709551616 + L) + q * 18446744073709551616 * d := by
    rw [ea, ← eH, Int.add_mul, Int.mul_right_comm q, Int.mul_comm d q]; omega
  have l1 : (r * 18446744073709551616 + L) / d < 18446744073709551616 := by
    apply Int.ediv_lt_of_lt_mul hd
    have : r * 18446744073709551616 + 18446744073709551616 ≤ d * 18446744073709551616 := by omega
    omega
  have l0 : 0 ≤ (r * 18446744073709551616 + L) / d := Int.ediv_nonneg (by omega) (by omega)
  have ed : a / d = (r * 18446744073709551616 + L) / d + q * 18446744073709551616 := by
    rw [e, Int.add_mul_ediv_right _ _ (by omega)]
  unfold hiZ loZ
  rw [ed]
  generalize (r * 18446744073709551616 + L) / d = t at *
  omega

theorem floor_bounds (a d : Int) (hd : 0 < d) (h0 : -170141183460469231731687303715884105728 ≤ a) (h1 : a < 170141183460469231731687303715884105728) :
    -170141183460469231731687303715884105728 ≤ a / d ∧ a / d < 170141183460469231731687303715884105728 := by
  constructor
  · apply Int.le_ediv_of_mul_le hd
    have : -170141183460469231731687303715884105728 * d ≤ -170141183460469231731687303715884105728 * 1 := Int.mul_le_mul_of_nonpos_left (by omega) (by omega)
    omega
  · apply Int.ediv_lt_of_lt_mul hd
    have : 170141183460469231731687303715884105728 * 1 ≤ 170141183460469231731687303715884105728 * d := Int.mul_le_mul_of_nonneg_left (by omega) (by omega)
    omega

/-- The rest, as it is reckoned in 64 bits. -/
theorem rest_wraps (a d : Int) (hd : 0 < d) (hd2 : d < 18446744073709551616) : (loZ a - loZ (a / d) * d % 18446744073709551616) % 18446744073709551616 = a % d := by
  have r0 := Int.emod_nonneg a (show d ≠ 0 by omega)
  have r1 := Int.emod_lt_of_pos a hd
  unfold loZ
  have h3 := Int.mul_ediv_add_emod a d
  have e : (a % 18446744073709551616 - a / d % 18446744073709551616 * d % 18446744073709551616) % 18446744073709551616 = (a - a / d * d) % 18446744073709551616 := by
    rw [Int.sub_emod, Int.emod_emod_of_dvd _ (Int.dvd_refl _), Int.emod_emod_of_dvd _ (Int.dvd_refl _), ← Int.sub_emod, Int.sub_emod a (a / d % 18446744073709551616 * d), Int.mul_emod, Int.emod_emod_of_dvd _ (Int.dvd_refl _), ← Int.mul_emod, ← Int.sub_emod]
  rw [e, show a - a / d * d = a % d by rw [Int.mul_comm]; omega]
  omega

/-! Knuth's step. -/
theorem knuth_gt (u q v1 v0 u1 : Nat) (hq : q * v1 ≤ u) : q * v0 > 4294967296 * (u - q * v1) + u1 ↔ q * (v1 * 4294967296 + v0) > u * 4294967296 + u1 := by
  have e : q * (v1 * 4294967296 + v0) = q * v1 * 4294967296 + q * v0 := by rw [Nat.mul_add, Nat.mul_assoc]
  rw [e]
  omega
theorem knuth_first (u v1 v0 : Nat) (hv : 2147483648 ≤ v1) (hv0 : v0 < 4294967296) (hu : u < v1 * 4294967296 + v0) : u / v1 ≤ 4294967297 := by
  have : u / v1 < 4294967298 := (Nat.div_lt_iff_lt_mul (by omega)).2 (by omega)
  omega
theorem knuth_ge (u q v u1 : Nat) (hv : 0 < v) (h : q * v > u * 4294967296 + u1) : (u * 4294967296 + u1) / v ≤ q - 1 := by
  have : (u * 4294967296 + u1) / v < q := (Nat.div_lt_iff_lt_mul hv).2 h
  omega
theorem knuth_start (u v1 v0 u1 : Nat) (hv : 0 < v1) (hu1 : u1 < 4294967296) : (u * 4294967296 + u1) / (v1 * 4294967296 + v0) ≤ u / v1 := by
  have h1 : (u * 4294967296 + u1) / (v1 * 4294967296 + v0) ≤ (u * 4294967296 + u1) / (v1 * 4294967296) := Nat.div_le_div_left (by omega) (by omega)
  have h2 : (u * 4294967296 + u1) / (v1 * 4294967296) = u / v1 := by
    rw [Nat.mul_comm v1, ← Nat.div_div_eq_div_mul]
    congr 1
    omega
  omega
theorem knuth_small (u v u1 : Nat) (hu : u < v) (hu1 : u1 < 4294967296) : (u * 4294967296 + u1) / v < 4294967296 := by
  apply (Nat.div_lt_iff_lt_mul (by omega)).2
  omega
theorem knuth_le (u q v u1 : Nat) (hv : 0 < v) (h : ¬ q * v > u * 4294967296 + u1) : q ≤ (u * 4294967296 + u1) / v :=
  (Nat.le_div_iff_mul_le hv).2 (by omega)

theorem div_step (A P S a N : Nat) (hN : 0 < N) (hA : A = P * (2 * N) + S) (hS : S < 2 * N) (ha : a * (2 * N) = S * 340282366920938463463374607431768211456) :
    a / 170141183460469231731687303715884105728 ≤ 1 ∧ ∃ S', A = (2 * P + a / 170141183460469231731687303715884105728) * N + S' ∧ S' < N ∧ (2 * a % 340282366920938463463374607431768211456) * N = S' * 340282366920938463463374607431768211456 := by
  have e2 : a * (2 * N) = 2 * (a * N) := by rw [Nat.mul_left_comm]
  have hlt : a < 340282366920938463463374607431768211456 := by
    apply Nat.lt_of_mul_lt_mul_right (a := 2 * N)
    rw [ha, Nat.mul_comm]
    exact (Nat.mul_lt_mul_left (by omega)).2 hS
  have eA : P * (2 * N) = 2 * (P * N) := by rw [Nat.mul_left_comm]
  refine ⟨by omega, ?_⟩
  by_cases h : N ≤ S
  · have hge : 170141183460469231731687303715884105728 ≤ a := by
      apply Nat.le_of_mul_le_mul_right (c := 2 * N) _ (by omega)
      rw [ha]
      have := Nat.mul_le_mul_right 340282366920938463463374607431768211456 h
      omega
    have hb : a / 170141183460469231731687303715884105728 = 1 := by omega
    have hm : 2 * a % 340282366920938463463374607431768211456 = 2 * a - 340282366920938463463374607431768211456 := by omega
    refine ⟨S - N, ?_, by omega, ?_⟩
    · rw [hb, hA, Nat.add_mul, Nat.mul_assoc]; omega
    · rw [hm, Nat.sub_mul, Nat.sub_mul, Nat.mul_assoc, ← e2, ha, Nat.mul_comm N]
  · have hge : a < 170141183460469231731687303715884105728 := by
      apply Nat.lt_of_mul_lt_mul_right (a := 2 * N)
      rw [ha]
      omega
    have hb : a / 170141183460469231731687303715884105728 = 0 := by omega
    have hm : 2 * a % 340282366920938463463374607431768211456 = 2 * a := by omega
    refine ⟨S, ?_, by omega, ?_⟩
    · rw [hb, hA, Nat.add_zero, Nat.mul_assoc]; omega
    · rw [hm, Nat.mul_assoc, ← e2, ha]
theorem quo_step (P b t : Nat) (hb : 0 < b) (ht : t ≤ 1) :
    2 * (P % b) + t < 2 * b ∧ (b ≤ 2 * (P % b) + t → (2 * P + t) / b = 2 * (P / b) + 1 ∧ (2 * P + t) % b = 2 * (P % b) + t - b) ∧ (2 * (P % b) + t < b → (2 * P + t) / b = 2 * (P / b) ∧ (2 * P + t) % b = 2 * (P % b) + t) := by
  have h1 := Nat.div_add_mod P b
  have h2 := Nat.mod_lt P hb
  have key : ∀ k r : Nat, 2 * P + t = b * k + r → r < b → (2 * P + t) / b = k ∧ (2 * P + t) % b = r := by
    intro k r e hr
    rw [e, Nat.mul_add_div hb, Nat.mul_add_mod, Nat.div_eq_of_lt hr, Nat.mod_eq_of_lt hr]
    exact ⟨rfl, rfl⟩
  refine ⟨by omega, fun h => key _ _ ?_ (by omega), fun h => key _ _ ?_ (by omega)⟩
  · rw [Nat.mul_add, Nat.mul_left_comm]; omega
  · rw [Nat.mul_left_comm]; omega

/-- long division by two digits -/
theorem long_div (M u0 Y : Nat) (hY : 0 < Y) :
    (M * 4294967296 + u0) / Y = M / Y * 4294967296 + (M % Y * 4294967296 + u0) / Y ∧
    (M * 4294967296 + u0) % Y = (M % Y * 4294967296 + u0) % Y := by
  have e : M * 4294967296 + u0 = Y * (M / Y * 4294967296) + (M % Y * 4294967296 + u0) := by
    have h := Nat.div_add_mod M Y
    rw [← Nat.mul_assoc]
    generalize M / Y = q at *
    generalize M % Y = r at *
    rw [← h, Nat.add_mul]
    omega
  rw [e, Nat.mul_add_div hY, Nat.mul_add_mod]
  exact ⟨rfl, rfl⟩

structure Rt where
  N : Int
  D : Int

def rightB (r : Rt) : Bool := decide (1 ≤ r.D ∧ r.D ≤ 2147483648 ∧ -4611686018427387904 ≤ r.N ∧ r.N ≤ 4611686018427387904 ∧ r.N.natAbs.gcd r.D.natAbs = 1)
def valQ (r : Rt) : Rat := Rat.divInt r.N r.D
def fitsQ (q : Rat) : Bool := decide (-4611686018427387904 ≤ q.num ∧ q.num ≤ 4611686018427387904 ∧ (q.den : Int) ≤ 2147483648)
def low (q : Rat) : Rt × Int := if fitsQ q = true then (⟨q.num, q.den⟩, 0) else (⟨0, 0⟩, 12)
def bad (e : Int) : Rt × Int := (⟨0, 0⟩, e)

theorem right_iff (r : Rt) : rightB r = true ↔ 1 ≤ r.D ∧ r.D ≤ 2147483648 ∧ -4611686018427387904 ≤ r.N ∧ r.N ≤ 4611686018427387904 ∧ r.N.natAbs.gcd r.D.natAbs = 1 := by
  unfold rightB; exact decide_eq_true_iff

theorem gcd_rest (n d : Int) (hd : 0 < d) : (n % d).toNat.gcd d.toNat = n.natAbs.gcd d.natAbs := by
  have h0 := Int.emod_nonneg n (show d ≠ 0 by omega)
  have e1 : (n % d).toNat = (n % d).natAbs := by omega
  have e2 : d.toNat = d.natAbs := by omega
  rw [e1, e2, ← Int.gcd_eq_natAbs_gcd_natAbs, ← Int.gcd_eq_natAbs_gcd_natAbs, Int.emod_def, Int.gcd_sub_mul_left_left]

theorem q_num (n d : Int) (hd : 0 < d) : (Rat.divInt n d).num = n / (n.natAbs.gcd d.natAbs : Nat) := by
  rw [Rat.num_divInt, Int.sign_eq_one_of_pos hd, Int.one_mul, Int.gcd_eq_natAbs_gcd_natAbs, Nat.gcd_comm]
theorem q_den (n d : Int) (hd : 0 < d) : ((Rat.divInt n d).den : Int) = d / (n.natAbs.gcd d.natAbs : Nat) := by
  rw [Rat.den_divInt, if_neg (by omega), Int.gcd_eq_natAbs_gcd_natAbs, Nat.gcd_comm, Int.natCast_ediv]
  congr 1
  omega

theorem right_num (r : Rt) (h : rightB r = true) : (valQ r).num = r.N := by
  obtain ⟨h1, _, _, _, hg⟩ := (right_iff r).1 h
  unfold valQ; rw [q_num _ _ (by omega), hg]; simp
theorem right_den (r : Rt) (h : rightB r = true) : ((valQ r).den : Int) = r.D := by
  obtain ⟨h1, _, _, _, hg⟩ := (right_iff r).1 h
  unfold valQ; rw [q_den _ _ (by omega), hg]; simp
theorem right_fits (r : Rt) (h : rightB r = true) : fitsQ (valQ r) = true := by
  have h1 := right_num r h
  have h2 := right_den r h
  have := (right_iff r).1 h
  unfold fitsQ
  rw [h1, h2]
  exact decide_eq_true ⟨this.2.2.1, this.2.2.2.1, this.2.1⟩
theorem low_right (r : Rt) (h : rightB r = true) : low (valQ r) = (r, 0) := by
  unfold low
  rw [if_pos (right_fits r h), right_num r h, right_den r h]
theorem low_fits (q : Rat) (h : fitsQ q = true) : low q = (⟨q.num, q.den⟩, 0) := by unfold low; rw [if_pos h]
theorem low_not (q : Rat) (h : fitsQ q = false) : low q = (⟨0, 0⟩, 12) := by unfold low; rw [if_neg (by simp [h])]
theorem fits_right (q : Rat) (h : fitsQ q = true) : rightB ⟨q.num, q.den⟩ = true := by
  have h2 : _ := of_decide_eq_true h
  refine (right_iff _).2 ⟨?_, h2.2.2, h2.1, h2.2.1, ?_⟩
  · have := q.den_pos; simp only; omega
  · exact q.reduced
theorem val_fits (q : Rat) : valQ ⟨q.num, q.den⟩ = q := Rat.num_divInt_den q
theorem right_inj (r s : Rt) (hr : rightB r = true) (hs : rightB s = true) (h : valQ r = valQ s) : r = s := by
  have := low_right r hr
  rw [h, low_right s hs] at this
  exact (Prod.mk.inj this).1.symm
theorem low_ok (q : Rat) (h : (low q).2 = 0) : fitsQ q = true := by
  cases hf : fitsQ q with
  | true => rfl
  | false => rw [low_not q hf] at h; simp at h
theorem low_ok_right (q : Rat) (h : (low q).2 = 0) : rightB (low q).1 = true ∧ valQ (low q).1 = q := by
  have hf := low_ok q h
  rw [low_fits q hf]
  exact ⟨fits_right q hf, val_fits q⟩

/-- what the code's `lowest` tells -/
theorem low_eq (n d g : Int) (hd : 0 < d) (hg : g = ((n % d).toNat.gcd d.toNat : Nat)) :
    low (Rat.divInt n d) = if -4611686018427387904 ≤ n / g ∧ n / g ≤ 4611686018427387904 ∧ d / g ≤ 2147483648 then (⟨n / g, d / g⟩, 0) else (⟨0, 0⟩, 12) := by
  have e : g = ((n.natAbs.gcd d.natAbs : Nat) : Int) := by rw [hg, gcd_rest n d hd]
  unfold low fitsQ
  rw [q_num n d hd, q_den n d hd, ← e]
  simp only [decide_eq_true_eq]
theorem val_pos (r : Rt) (h : rightB r = true) : 0 < r.D := by have := (right_iff r).1 h; omega

/-- sums, products by their tops and bottoms -/
theorem val_add (a b : Rt) (ha : rightB a = true) (hb : rightB b = true) : valQ a + valQ b = Rat.divInt (a.N * b.D + b.N * a.D) (a.D * b.D) := by
  have h1 := val_pos a ha
  have h2 := val_pos b hb
  exact Rat.divInt_add_divInt _ _ (by omega) (by omega)
theorem val_mul (a b : Rt) : valQ a * valQ b = Rat.divInt (a.N * b.N) (a.D * b.D) := Rat.divInt_mul_divInt ..
theorem val_neg (a : Rt) : valQ ⟨-a.N, a.D⟩ = -valQ a := (Rat.neg_divInt a.N a.D).symm
theorem neg_right (a : Rt) : rightB ⟨-a.N, a.D⟩ = rightB a := by
  rw [Bool.eq_iff_iff, right_iff, right_iff]
  simp only [Int.natAbs_neg]
  omega
theorem val_sub (a b : Rt) : valQ a - valQ b = valQ a + valQ ⟨-b.N, b.D⟩ := by
  rw [val_neg, Rat.sub_eq_add_neg]
theorem val_div (a b : Rt) : valQ a / valQ b = Rat.divInt (a.N * b.D) (a.D * b.N) := by
  rw [Rat.div_def]
  unfold valQ
  rw [Rat.inv_divInt, Rat.divInt_mul_divInt]
def addA (a b : Rt) : Rt × Int := if (rightB a && rightB b) = true then low (valQ a + valQ b) else bad 12
def subA (a b : Rt) : Rt × Int := if (rightB a && rightB b) = true then low (valQ a - valQ b) else bad 12
def mulA (a b : Rt) : Rt × Int := if (rightB a && rightB b) = true then low (valQ a * valQ b) else bad 12
def divA (a b : Rt) : Rt × Int := if (rightB a && rightB b) = true then (if b.N = 0 then bad 11 else low (valQ a / valQ b)) else bad 12
def negA (a : Rt) : Rt × Int := if rightB a = true then (⟨-a.N, a.D⟩, 0) else bad 12
def cmpI (a b : Rt) : Int := if a.N * b.D < b.N * a.D then -1 else if b.N * a.D < a.N * b.D then 1 else 0
theorem both_iff (a b : Rt) : (rightB a && rightB b) = true ↔ rightB a = true ∧ rightB b = true := by simp
theorem addA_right {a b : Rt} (ha : rightB a = true) (hb : rightB b = true) : addA a b = low (valQ a + valQ b) := by unfold addA; rw [if_pos (by simp [ha, hb])]
theorem subA_right {a b : Rt} (ha : rightB a = true) (hb : rightB b = true) : subA a b = low (valQ a - valQ b) := by unfold subA; rw [if_pos (by simp [ha, hb])]
theorem mulA_right {a b : Rt} (ha : rightB a = true) (hb : rightB b = true) : mulA a b = low (valQ a * valQ b) := by unfold mulA; rw [if_pos (by simp [ha, hb])]
theorem divA_right {a b : Rt} (ha : rightB a = true) (hb : rightB b = true) (h0 : b.N ≠ 0) : divA a b = low (valQ a / valQ b) := by unfold divA; rw [if_pos (by simp [ha, hb]), if_neg h0]
theorem addA_ok {a b : Rt} (h : (addA a b).2 = 0) : rightB a = true ∧ rightB b = true ∧ rightB (addA a b).1 = true ∧ valQ (addA a b).1 = valQ a + valQ b := by
  by_cases hr : (rightB a && rightB b) = true
  · obtain ⟨ha, hb⟩ := (both_iff a b).1 hr
    rw [addA_right ha hb] at h ⊢
    have := low_ok_right _ h
    exact ⟨ha, hb, this.1, this.2⟩
  · unfold addA at h; rw [if_neg hr] at h; simp [bad] at h
theorem mulA_ok {a b : Rt} (h : (mulA a b).2 = 0) : rightB a = true ∧ rightB b = true ∧ rightB (mulA a b).1 = true ∧ valQ (mulA a b).1 = valQ a * valQ b := by
  by_cases hr : (rightB a && rightB b) = true
  · obtain ⟨ha, hb⟩ := (both_iff a b).1 hr
    rw [mulA_right ha hb] at h ⊢
    have := low_ok_right _ h
    exact ⟨ha, hb, this.1, this.2⟩
  · unfold mulA at h; rw [if_neg hr] at h; simp [bad] at h
theorem add_comm' (a b : Rt) : addA a b = addA b a := by unfold addA; rw [Rat.add_comm, Bool.and_comm]
theorem mul_comm' (a b : Rt) : mulA a b = mulA b a := by unfold mulA; rw [Rat.mul_comm, Bool.and_comm]
theorem add_back {a b : Rt} (h : (addA a b).2 = 0) : subA (addA a b).1 b = (a, 0) := by
  obtain ⟨ha, hb, hc, e⟩ := addA_ok h
  rw [subA_right hc hb, e, Rat.add_sub_cancel, low_right a ha]
theorem mul_back {a b : Rt} (h : (mulA a b).2 = 0) (h0 : b.N ≠ 0) : divA (mulA a b).1 b = (a, 0) := by
  obtain ⟨ha, hb, hc, e⟩ := mulA_ok h
  have hn : valQ b ≠ 0 := fun e0 => h0 (by rw [← right_num b hb, e0]; rfl)
  rw [divA_right hc hb h0, e, Rat.mul_div_cancel hn, low_right a ha]
theorem add_three {a b c : Rt} (h : (addA a b).2 = 0) (k : (addA b c).2 = 0) : addA (addA a b).1 c = addA a (addA b c).1 := by
  obtain ⟨ha, hb, hab, e⟩ := addA_ok h
  obtain ⟨_, hc, hbc, f⟩ := addA_ok k
  rw [addA_right hab hc, addA_right ha hbc, e, f, Rat.add_assoc]
theorem mul_three {a b c : Rt} (h : (mulA a b).2 = 0) (k : (mulA b c).2 = 0) : mulA (mulA a b).1 c = mulA a (mulA b c).1 := by
  obtain ⟨ha, hb, hab, e⟩ := mulA_ok h
  obtain ⟨_, hc, hbc, f⟩ := mulA_ok k
  rw [mulA_right hab hc, mulA_right ha hbc, e, f, Rat.mul_assoc]
theorem mul_parts {a b c : Rt} (k : (addA b c).2 = 0) (g : (mulA a b).2 = 0) (n : (mulA a c).2 = 0) : mulA a (addA b c).1 = addA (mulA a b).1 (mulA a c).1 := by
  obtain ⟨hb, hc, hbc, e⟩ := addA_ok k
  obtain ⟨ha, _, hab, f⟩ := mulA_ok g
  obtain ⟨_, _, hac, f2⟩ := mulA_ok n
  rw [mulA_right ha hbc, addA_right hab hac, e, f, f2, Rat.mul_add]

/-! order -/
theorem cmp_lt {a b : Rt} (ha : rightB a = true) (hb : rightB b = true) : a.N * b.D < b.N * a.D ↔ valQ a < valQ b := by
  rw [Rat.lt_iff, right_num a ha, right_num b hb, right_den a ha, right_den b hb]
theorem cmp_right {a b : Rt} (ha : rightB a = true) (hb : rightB b = true) : cmpI a b = if valQ a < valQ b then -1 else if valQ b < valQ a then 1 else 0 := by
  unfold cmpI
  simp only [cmp_lt ha hb, cmp_lt hb ha]
theorem cmp_turn (a b : Rt) : cmpI a b = -cmpI b a := by
  unfold cmpI
  split <;> split <;> (try split) <;> omega
theorem cmp_range (a b : Rt) : -1 ≤ cmpI a b ∧ cmpI a b ≤ 1 := by unfold cmpI; split <;> (try split) <;> omega
theorem cmp_self (a : Rt) : cmpI a a = 0 := by unfold cmpI; rw [if_neg (by omega), if_neg (by omega)]
theorem cmp_zero {a b : Rt} (ha : rightB a = true) (hb : rightB b = true) : cmpI a b = 0 ↔ a = b := by
  constructor
  · intro h
    apply right_inj a b ha hb
    rw [cmp_right ha hb] at h
    by_cases h1 : valQ a < valQ b
    · rw [if_pos h1] at h; omega
    · rw [if_neg h1] at h
      by_cases h2 : valQ b < valQ a
      · rw [if_pos h2] at h; omega
      · exact Rat.le_antisymm (Rat.not_lt.1 h2) (Rat.not_lt.1 h1)
  · rintro rfl; exact cmp_self a
theorem cmp_le {a b : Rt} (ha : rightB a = true) (hb : rightB b = true) : cmpI a b ≤ 0 ↔ valQ a ≤ valQ b := by
  rw [cmp_right ha hb, ← Rat.not_lt]
  by_cases h1 : valQ a < valQ b
  · rw [if_pos h1]
    exact ⟨fun _ h => absurd h (Rat.not_lt.2 (Rat.le_of_lt h1)), fun _ => by omega⟩
  · rw [if_neg h1]
    by_cases h2 : valQ b < valQ a
    · rw [if_pos h2]; exact ⟨fun h => by omega, fun h => absurd h2 h⟩
    · rw [if_neg h2]; exact ⟨fun _ => h2, fun _ => by omega⟩
theorem cmp_trans {a b c : Rt} (ha : rightB a = true) (hb : rightB b = true) (hc : rightB c = true) (h1 : cmpI a b ≤ 0) (h2 : cmpI b c ≤ 0) : cmpI a c ≤ 0 :=
  (cmp_le ha hc).2 (Rat.le_trans ((cmp_le ha hb).1 h1) ((cmp_le hb hc).1 h2))
theorem sub_sign {a b : Rt} (ha : rightB a = true) (hb : rightB b = true) (h : (subA a b).2 = 0) : (0 < (subA a b).1.N ↔ 0 < cmpI a b) ∧ ((subA a b).1.N < 0 ↔ cmpI a b < 0) := by
  rw [subA_right ha hb] at h ⊢
  have hf := low_ok _ h
  rw [low_fits _ hf]
  have e1 : 0 ≤ (valQ a - valQ b).num ↔ cmpI b a ≤ 0 := by rw [Rat.num_nonneg, ← Rat.le_iff_sub_nonneg, cmp_le hb ha]
  have e2 : 0 ≤ (valQ b - valQ a).num ↔ cmpI a b ≤ 0 := by rw [Rat.num_nonneg, ← Rat.le_iff_sub_nonneg, cmp_le ha hb]
  have e3 : (valQ b - valQ a).num = -(valQ a - valQ b).num := by rw [← Rat.neg_sub]; rfl
  have e4 := cmp_turn a b
  simp only
  omega
theorem sub_not {a b : Rt} (h : (subA a b).2 ≠ 0) : (subA a b).1 = ⟨0, 0⟩ := by
  unfold subA at h ⊢
  split
  · rename_i hr
    rw [if_pos hr] at h
    unfold low at h ⊢
    split
    · rename_i hf; rw [if_pos hf] at h; simp at h
    · rfl
  · rfl
/-! made whole -/
def wholeI (how n d : Int) : Int := if how = 1 then n / d else if how = 2 then (2 * n + d) / (2 * d) else -(-n / d)
def inNum (k : Int) : Bool := decide (-4611686018427387904 ≤ k ∧ k ≤ 4611686018427387904)
def howB (how : Int) : Bool := decide (1 ≤ how ∧ how ≤ 3)
def wholeA (r : Rt) (times how : Int) : Int × Int :=
  if rightB r = true then (if howB how = true then (if inNum (wholeI how (r.N * times) r.D) = true then (wholeI how (r.N * times) r.D, 0) else (0, 12)) else (0, 1)) else (0, 12)
def snapK (r g : Rt) (how : Int) : Int := wholeI how (r.N * g.D) (r.D * g.N)
def snapA (r g : Rt) (how : Int) : Rt × Int :=
  if (rightB r && rightB g) = true then (if g.N ≤ 0 then bad 11 else (if howB how = true then (if inNum (snapK r g how) = true then low (Rat.divInt (snapK r g how * g.N) g.D) else bad 12) else bad 1)) else bad 12

/-- one divisor behind the other -/
theorem made_floor (n d m : Int) (hd : 0 < d) : n / d / m = wholeI 1 n (d * m) := by
  unfold wholeI
  rw [if_pos rfl, Int.ediv_ediv_of_nonneg (by omega)]
theorem made_ceil (n d m : Int) (hd : 0 < d) : -(-n / d / m) = wholeI 3 n (d * m) := by
  unfold wholeI
  rw [if_neg (by omega), if_neg (by omega), Int.ediv_ediv_of_nonneg (by omega)]
theorem made_near (n d m : Int) (hd : 0 < d) (hm : 0 < m) : ((n + n) / d / m + 1) / 2 = wholeI 2 n (d * m) := by
  unfold wholeI
  have hp : 0 < d * m := Int.mul_pos hd hm
  rw [if_neg (by omega), if_pos rfl, Int.ediv_ediv_of_nonneg (by omega)]
  have e : (n + n) / (d * m) + 1 = (2 * n + d * m) / (d * m) := by
    rw [show 2 * n + d * m = (n + n) + 1 * (d * m) by omega, Int.add_mul_ediv_right _ _ (by omega)]
  rw [e, Int.ediv_ediv_of_nonneg (by omega), Int.mul_comm (d * m) 2]
/-! P310 -/
theorem floor_q (n d : Int) (hd : 0 < d) : n / d = (Rat.divInt n d).floor := by
  have hg : 0 < (n.natAbs.gcd d.natAbs : Nat) := Nat.gcd_pos_of_pos_right _ (by omega)
  rw [Rat.floor_def, q_num n d hd, q_den n d hd]
  have h1 : ((n.natAbs.gcd d.natAbs : Nat) : Int) ∣ n := by
    have := Nat.gcd_dvd_left n.natAbs d.natAbs
    exact Int.ofNat_dvd_left.2 this
  have h2 : ((n.natAbs.gcd d.natAbs : Nat) : Int) ∣ d := by
    have := Nat.gcd_dvd_right n.natAbs d.natAbs
    exact Int.ofNat_dvd_left.2 this
  generalize hG : ((n.natAbs.gcd d.natAbs : Nat) : Int) = g at *
  obtain ⟨a, rfl⟩ := h1
  obtain ⟨b, rfl⟩ := h2
  have hg0 : 0 < g := by omega
  rw [Int.mul_ediv_cancel_left _ (by omega), Int.mul_ediv_cancel_left _ (by omega), Int.mul_ediv_mul_of_pos _ _ hg0]
theorem snap_val (r g : Rt) : Rat.divInt (r.N * g.D) (r.D * g.N) = valQ r / valQ g := (val_div r g).symm
theorem snapK_floor (r g : Rt) (hr : rightB r = true) (h0 : 0 < g.N) : snapK r g 1 = (valQ r / valQ g).floor := by
  have h1 := val_pos r hr
  unfold snapK wholeI
  rw [if_pos rfl, floor_q _ _ (Int.mul_pos h1 h0), snap_val r g]
theorem snapK_ceil (r g : Rt) (hr : rightB r = true) (h0 : 0 < g.N) : snapK r g 3 = (valQ r / valQ g).ceil := by
  have h1 := val_pos r hr
  unfold snapK wholeI
  rw [if_neg (by omega), if_neg (by omega), floor_q _ _ (Int.mul_pos h1 h0), ← Rat.neg_divInt, snap_val r g, Rat.ceil_eq_neg_floor_neg]
theorem half_q (n d : Int) (hd : 0 < d) : Rat.divInt (2 * n + d) (2 * d) = Rat.divInt n d + 1 / 2 := by
  rw [show (1 / 2 : Rat) = Rat.divInt 1 2 by rw [Rat.divInt_eq_div]; rfl, Rat.divInt_add_divInt _ _ (by omega) (by omega)]
  congr 1 <;> omega
theorem snapK_near (r g : Rt) (hr : rightB r = true) (h0 : 0 < g.N) : snapK r g 2 = (valQ r / valQ g + 1 / 2).floor := by
  have h1 := val_pos r hr
  have h2 := Int.mul_pos h1 h0
  unfold snapK wholeI
  rw [if_neg (by omega), if_pos rfl, floor_q _ _ (by omega), half_q _ _ h2, snap_val r g]
theorem snapA_ok {r g : Rt} {how : Int} (h : (snapA r g how).2 = 0) : rightB r = true ∧ rightB g = true ∧ 0 < g.N ∧ rightB (snapA r g how).1 = true ∧ valQ (snapA r g how).1 = (snapK r g how : Rat) * valQ g := by
  unfold snapA at h ⊢
  by_cases hb : (rightB r && rightB g) = true
  · rw [if_pos hb] at h ⊢
    by_cases h0 : g.N ≤ 0
    · rw [if_pos h0] at h; simp [bad] at h
    · rw [if_neg h0] at h ⊢
      by_cases hh : howB how = true
      · rw [if_pos hh] at h ⊢
        by_cases hi : inNum (snapK r g how) = true
        · rw [if_pos hi] at h ⊢
          have h1 := low_ok_right _ h
          obtain ⟨hr, hg⟩ := (both_iff r g).1 hb
          refine ⟨hr, hg, by omega, h1.1, h1.2.trans ?_⟩
          unfold valQ
          have : ((snapK r g how : Int) : Rat) = Rat.divInt (snapK r g how) 1 := by rw [Rat.divInt_eq_div]; grind
          rw [this, Rat.divInt_mul_divInt, Int.one_mul]
        · rw [if_neg hi] at h; simp [bad] at h
      · rw [if_neg hh] at h; simp [bad] at h
  · rw [if_neg hb] at h; simp [bad] at h

theorem g_pos {g : Rt} (hg : rightB g = true) (h0 : 0 < g.N) : 0 < valQ g := by
  have := (cmp_lt (a := ⟨0, 1⟩) (b := g) (by decide) hg).1 (by simp; omega)
  have e : valQ ⟨0, 1⟩ = 0 := by decide
  rw [e] at this
  exact this
theorem x_mul {r g : Rt} (hg : rightB g = true) (h0 : 0 < g.N) : valQ r = valQ r / valQ g * valQ g := by
  have := g_pos hg h0
  rw [Rat.div_mul_cancel]
  intro e; rw [e] at this; exact absurd this (by decide)
/-- all that P310 asks, of values -/
theorem near_core (x g : Rat) (hg : 0 < g) (f c n : Int) (hf : f = x.floor) (hc : c = x.ceil) (hn : n = (x + 1 / 2).floor) :
    (f : Rat) * g ≤ x * g ∧ x * g ≤ (c : Rat) * g ∧ (n = f ∨ n = c) ∧ (c = f ∨ c = f + 1) ∧ (c = f → (f : Rat) * g = x * g) ∧ (c ≠ f → (f : Rat) * g ≠ x * g) ∧
    (x * g - f * g < c * g - x * g → n = f) ∧ (¬ x * g - f * g < c * g - x * g → n = c) := by
  have f1 : (f : Rat) ≤ x := by rw [hf]; exact Rat.floor_le x
  have f2 : x < (f : Rat) + 1 := by have := Rat.lt_floor_add_one x; rw [hf]; simpa using this
  have c1 : x ≤ (c : Rat) := by rw [hc]; exact Rat.le_ceil
  have c2 : (c : Rat) < x + 1 := by rw [hc]; exact Rat.ceil_lt
  have n1 : (n : Rat) ≤ x + 1 / 2 := by rw [hn]; exact Rat.floor_le _
  have n2 : x + 1 / 2 < (n : Rat) + 1 := by have := Rat.lt_floor_add_one (x + 1 / 2); rw [hn]; simpa using this
  have i1 : c < f + 2 := by
    apply Rat.intCast_lt_intCast.1
    have : ((f + 2 : Int) : Rat) = (f : Rat) + 2 := by simp
    grind
  have i2 : f ≤ c := by
    apply Rat.intCast_le_intCast.1
    grind
  have i3 : f ≤ n := by
    have : f < n + 1 := by
      apply Rat.intCast_lt_intCast.1
      have : ((n + 1 : Int) : Rat) = (n : Rat) + 1 := by simp
      grind
    omega
  have i4 : n ≤ c := by
    have : n < c + 1 := by
      apply Rat.intCast_lt_intCast.1
      have : ((c + 1 : Int) : Rat) = (c : Rat) + 1 := by simp
      grind
    omega
  have m1 : (f : Rat) * g ≤ x * g := Rat.mul_le_mul_of_nonneg_right f1 (Rat.le_of_lt hg)
  have m2 : x * g ≤ (c : Rat) * g := Rat.mul_le_mul_of_nonneg_right c1 (Rat.le_of_lt hg)
  have key : x * g - f * g < c * g - x * g ↔ 2 * x < (f : Rat) + c := by
    rw [← Rat.mul_lt_mul_right (a := 2 * x) (b := (f : Rat) + c) hg]
    grind
  refine ⟨m1, m2, by omega, by omega, ?_, ?_, ?_, ?_⟩
  · intro e; subst e; exact Rat.le_antisymm m1 m2
  · intro e he
    have : (f : Rat) = x := by
      have h : ((f : Rat) - x) * g = 0 := by grind
      rcases Rat.mul_eq_zero.1 h with h | h <;> grind
    apply e
    rw [hc, ← this, Rat.ceil_intCast]
  · rw [key]
    intro h
    by_cases e : n = f
    · exact e
    · exfalso
      have ec : c = f + 1 := by omega
      have en : n = f + 1 := by omega
      have e1 : (c : Rat) = (f : Rat) + 1 := by rw [ec]; simp
      have e2 : (n : Rat) = (f : Rat) + 1 := by rw [en]; simp
      grind
  · rw [key]
    intro h
    by_cases e : n = c
    · exact e
    · exfalso
      have ec : c = f + 1 := by omega
      have en : n = f := by omega
      have e1 : (c : Rat) = (f : Rat) + 1 := by rw [ec]; simp
      have e2 : (n : Rat) = (f : Rat) := by rw [en]
      grind

end Go.Proofs.Ytipnefaggpigfaa
