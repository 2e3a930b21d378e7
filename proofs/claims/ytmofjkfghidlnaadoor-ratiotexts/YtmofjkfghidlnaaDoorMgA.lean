/- Several texts, one behind the other. -/
import Derived.KernelRfl
import Derived.Shelf.Bits.Mul64
import Derived.Shelf.Small.Bits
import Derived.Laws.Externs
import Derived.Laws.Bits64b
import Derived.WalkKit
import Derived.BigRegion
import Derived.Deep.RegionWith
import Derived.Deep.Cut
import Derived.Deep.CutRange
import Derived.Deep.DeepCutAuto
import Derived.Deep.CutBlock
import Derived.Deep.RegionHeld3
import Derived.Test.YtmofjkfghidlnaaDoorProg
/- The mathematics of package ratio: numbers of 128 bits by their halves, long division, ratios as rational numbers (the core library's): no program is named here. -/
namespace Go.Proofs.YtmofjkfghidlnaaDoor

/-! Whole numbers of 128 bits by their halves. -/
def hiZ (z : Int) : Int := z / 18446744073709551616 % 18446744073709551616
def loZ (z : Int) : Int := z % 18446744073709551616

theorem hiZ_range (z : Int) : 0 ≤ hiZ z ∧ hiZ z < 18446744073709551616 := by unfold hiZ; omega
theorem loZ_range (z : Int) : 0 ≤ loZ z ∧ loZ z < 18446744073709551616 := by unfold loZ; omega

theorem plus_lo (a b : Int) : (loZ a + loZ b) % 18446744073709551616 = loZ (a + b) := by unfold loZ; omega
theorem plus_hi (a b : Int) : (hiZ a + hiZ b + (loZ a + loZ b) / 18446744073709551616) % 18446744073709551616 = hiZ (a + b) := by unfold loZ hiZ; omega
theorem flip_lo (a : Int) : 18446744073709551615 - loZ a = loZ (-1 - a) := by unfold loZ; omega
theorem flip_hi (a : Int) : 18446744073709551615 - hiZ a = hiZ (-1 - a) := by unfold hiZ; omega

/-- The floor of a negative number, by the flipped one. -/
theorem floor_flip (a d : Int) (hd : 0 < d) : -1 - (-1 - a) / d = a / d := by
  have h1 := Int.emod_nonneg a (show d ≠ 0 by omega)
  have h2 := Int.emod_lt_of_pos a hd
  have h3 := Int.mul_ediv_add_emod a d
  have : (-1 - a) / d = -1 - a / d := by
    have e : -1 - a = (d - 1 - a % d) + (-1 - a / d) * d := by
      have e2 : (-1 - a / d) * d = -d - d * (a / d) := by rw [Int.sub_mul, Int.mul_comm (a / d) d]; omega
      rw [e2]; omega
    rw [e, Int.add_mul_ediv_right _ _ (by omega), Int.ediv_eq_zero_of_lt (by omega) (by omega)]
    omega
  omega

/-- The quotient's halves. -/
theorem floor_halves (a d : Int) (h0 : 0 ≤ a) (h1 : a < 170141183460469231731687303715884105728) (hd : 0 < d) (hd2 : d < 18446744073709551616) :
    hiZ a / d = hiZ (a / d) ∧ (hiZ a % d * 18446744073709551616 + loZ a) / d = loZ (a / d) := by
  have eh : hiZ a = a / 18446744073709551616 := by unfold hiZ; omega
  have ea : a = hiZ a * 18446744073709551616 + loZ a := by rw [eh]; unfold loZ; omega
  have lr := loZ_range a
  have hr := hiZ_range a
  generalize hiZ a = H at *
  generalize loZ a = L at *
  have eH := Int.mul_ediv_add_emod H d
  have r0 := Int.emod_nonneg H (show d ≠ 0 by omega)
  have r1 := Int.emod_lt_of_pos H hd
  have q0 : 0 ≤ H / d := Int.ediv_nonneg (by omega) (by omega)
  have q1 : H / d ≤ H := Int.ediv_le_self _ (by omega)
  generalize hq : H / d = q at *
  generalize hr' : H % d = r at *
  have e : a = (r * 18446744073709551616 + L) + q * 18446744073709551616 * d := by
    rw [ea, ← eH, Int.add_mul, Int.mul_right_comm q, Int.mul_comm d q]; omega
  have l1 : (r * 18446744073709551616 + L) / d < 18446744073709551616 := by
    apply Int.ediv_lt_of_lt_mul hd
    have : r * 18446744073709551616 + 18446744073709551616 ≤ d * 18446744073709551616 := by omega
    omega
  have l0 : 0 ≤ (r * 18446744073709551616 + L) / d := Int.ediv_nonneg (by omega) (by omega)
  have ed : a / d = (r * 18446744073709551616 + L) / d + q * 18446744073709551616 := by
    rw [e, Int.add_mul_ediv_right _ _ (by omega)]
  unfold hiZ loZ
  rw [ed]
  generalize (r * 18446744073709551616 + L) / d = t at *
  omega

theorem floor_bounds (a d : Int) (hd : 0 < d) (h0 : -170141183460469231731687303715884105728 ≤ a) (h1 : a < 170141183460469231731687303715884105728) :
    -170141183460469231731687303715884105728 ≤ a / d ∧ a / d < 170141183460469231731687303715884105728 := by
  constructor
  · apply Int.le_ediv_of_mul_le hd
    have : -170141183460469231731687303715884105728 * d ≤ -170141183460469231731687303715884105728 * 1 := Int.mul_le_mul_of_nonpos_left (by omega) (by omega)
    omega
  · apply Int.ediv_lt_of_lt_mul hd
    have : 170141183460469231731687303715884105728 * 1 ≤ 170141183460469231731687303715884105728 * d := Int.mul_le_mul_of_nonneg_left (by omega) (by omega)
    omega

/-- The rest, as it is reckoned in 64 bits. -/
theorem rest_wraps (a d : Int) (hd : 0 < d) (hd2 : d < 18446744073709551616) : (loZ a - loZ (a / d) * d % 18446744073709551616) % 18446744073709551616 = a % d := by
  have r0 := Int.emod_nonneg a (show d ≠ 0 by omega)
  have r1 := Int.emod_lt_of_pos a hd
  unfold loZ
  have h3 := Int.mul_ediv_add_emod a d
  have e : (a % 18446744073709551616 - a / d % 18446744073709551616 * d % 18446744073709551616) % 18446744073709551616 = (a - a / d * d) % 18446744073709551616 := by
    rw [Int.sub_emod, Int.emod_emod_of_dvd _ (Int.dvd_refl _), Int.emod_emod_of_dvd _ (Int.dvd_refl _), ← Int.sub_emod, Int.sub_emod a (a / d % 18446744073709551616 * d), Int.mul_emod, Int.emod_emod_of_dvd _ (Int.dvd_refl _), ← Int.mul_emod, ← Int.sub_emod]
  rw [e, show a - a / d * d = a % d by rw [Int.mul_comm]; omega]
  omega

/-! Knuth's step. -/
theorem knuth_gt (u q v1 v0 u1 : Nat) (hq : q * v1 ≤ u) : q * v0 > 4294967296 * (u - q * v1) + u1 ↔ q * (v1 * 4294967296 + v0) > u * 4294967296 + u1 := by
  have e : q * (v1 * 4294967296 + v0) = q * v1 * 4294967296 + q * v0 := by rw [Nat.mul_add, Nat.mul_assoc]
  rw [e]
  omega
theorem knuth_first (u v1 v0 : Nat) (hv : 2147483648 ≤ v1) (hv0 : v0 < 4294967296) (hu : u < v1 * 4294967296 + v0) : u / v1 ≤ 4294967297 := by
  have : u / v1 < 4294967298 := (Nat.div_lt_iff_lt_mul (by omega)).2 (by omega)
  omega
theorem knuth_ge (u q v u1 : Nat) (hv : 0 < v) (h : q * v > u * 4294967296 + u1) : (u * 4294967296 + u1) / v ≤ q - 1 := by
  have : (u * 4294967296 + u1) / v < q := (Nat.div_lt_iff_lt_mul hv).2 h
  omega
theorem knuth_start (u v1 v0 u1 : Nat) (hv : 0 < v1) (hu1 : u1 < 4294967296) : (u * 4294967296 + u1) / (v1 * 4294967296 + v0) ≤ u / v1 := by
  have h1 : (u * 4294967296 + u1) / (v1 * 4294967296 + v0) ≤ (u * 4294967296 + u1) / (v1 * 4294967296) := Nat.div_le_div_left (by omega) (by omega)
  have h2 : (u * 4294967296 + u1) / (v1 * 4294967296) = u / v1 := by
    rw [Nat.mul_comm v1, ← Nat.div_div_eq_div_mul]
    congr 1
    omega
  omega
theorem knuth_small (u v u1 : Nat) (hu : u < v) (hu1 : u1 < 4294967296) : (u * 4294967296 + u1) / v < 4294967296 := by
  apply (Nat.div_lt_iff_lt_mul (by omega)).2
  omega
theorem knuth_le (u q v u1 : Nat) (hv : 0 < v) (h : ¬ q * v > u * 4294967296 + u1) : q ≤ (u * 4294967296 + u1) / v :=
  (Nat.le_div_iff_mul_le hv).2 (by omega)

theorem div_step (A P S a N : Nat) (hN : 0 < N) (hA : A = P * (2 * N) + S) (hS : S < 2 * N) (ha : a * (2 * N) = S * 340282366920938463463374607431768211456) :
    a / 170141183460469231731687303715884105728 ≤ 1 ∧ ∃ S', A = (2 * P + a / 170141183460469231731687303715884105728) * N + S' ∧ S' < N ∧ (2 * a % 340282366920938463463374607431768211456) * N = S' * 340282366920938463463374607431768211456 := by
  have e2 : a * (2 * N) = 2 * (a * N) := by rw [Nat.mul_left_comm]
  have hlt : a < 340282366920938463463374607431768211456 := by
    apply Nat.lt_of_mul_lt_mul_right (a := 2 * N)
    rw [ha, Nat.mul_comm]
    exact (Nat.mul_lt_mul_left (by omega)).2 hS
  have eA : P * (2 * N) = 2 * (P * N) := by rw [Nat.mul_left_comm]
  refine ⟨by omega, ?_⟩
  by_cases h : N ≤ S
  · have hge : 170141183460469231731687303715884105728 ≤ a := by
      apply Nat.le_of_mul_le_mul_right (c := 2 * N) _ (by omega)
      rw [ha]
      have := Nat.mul_le_mul_right 340282366920938463463374607431768211456 h
      omega
    have hb : a / 170141183460469231731687303715884105728 = 1 := by omega
    have hm : 2 * a % 340282366920938463463374607431768211456 = 2 * a - 340282366920938463463374607431768211456 := by omega
    refine ⟨S - N, ?_, by omega, ?_⟩
    · rw [hb, hA, Nat.add_mul, Nat.mul_assoc]; omega
    · rw [hm, Nat.sub_mul, Nat.sub_mul, Nat.mul_assoc, ← e2, ha, Nat.mul_comm N]
  · have hge : a < 170141183460469231731687303715884105728 := by
      apply Nat.lt_of_mul_lt_mul_right (a := 2 * N)
      rw [ha]
      omega
    have hb : a / 170141183460469231731687303715884105728 = 0 := by omega
    have hm : 2 * a % 340282366920938463463374607431768211456 = 2 * a := by omega
    refine ⟨S, ?_, by omega, ?_⟩
    · rw [hb, hA, Nat.add_zero, Nat.mul_assoc]; omega
    · rw [hm, Nat.mul_assoc, ← e2, ha]
theorem quo_step (P b t : Nat) (hb : 0 < b) (ht : t ≤ 1) :
    2 * (P % b) + t < 2 * b ∧ (b ≤ 2 * (P % b) + t → (2 * P + t) / b = 2 * (P / b) + 1 ∧ (2 * P + t) % b = 2 * (P % b) + t - b) ∧ (2 * (P % b) + t < b → (2 * P + t) / b = 2 * (P / b) ∧ (2 * P + t) % b = 2 * (P % b) + t) := by
  have h1 := Nat.div_add_mod P b
  have h2 := Nat.mod_lt P hb
  have key : ∀ k r : Nat, 2 * P + t = b * k + r → r < b → (2 * P + t) / b = k ∧ (2 * P + t) % b = r := by
    intro k r e hr
    rw [e, Nat.mul_add_div hb, Nat.mul_add_mod, Nat.div_eq_of_lt hr, Nat.mod_eq_of_lt hr]
    exact ⟨rfl, rfl⟩
  refine ⟨by omega, fun h => key _ _ ?_ (by omega), fun h => key _ _ ?_ (by omega)⟩
  · rw [Nat.mul_add, Nat.mul_left_comm]; omega
  · rw [Nat.mul_left_comm]; omega

/-- long division by two digits -/
theorem long_div (M u0 Y : Nat) (hY : 0 < Y) :
    (M * 4294967296 + u0) / Y = M / Y * 4294967296 + (M % Y * 4294967296 + u0) / Y ∧
    (M * 4294967296 + u0) % Y = (M % Y * 4294967296 + u0) % Y := by
  have e : M * 4294967296 + u0 = Y * (M / Y * 4294967296) + (M % Y * 4294967296 + u0) := by
    have h := Nat.div_add_mod M Y
    rw [← Nat.mul_assoc]
    generalize M / Y = q at *
    generalize M % Y = r at *
    rw [← h, Nat.add_mul]
    omega
  rw [e, Nat.mul_add_div hY, Nat.mul_add_mod]
  exact ⟨rfl, rfl⟩

structure Rt where
  N : Int
  D : Int

def rightB (r : Rt) : Bool := decide (1 ≤ r.D ∧ r.D ≤ 2147483648 ∧ -4611686018427387904 ≤ r.N ∧ r.N ≤ 4611686018427387904 ∧ r.N.natAbs.gcd r.D.natAbs = 1)
def valQ (r : Rt) : Rat := Rat.divInt r.N r.D
def fitsQ (q : Rat) : Bool := decide (-4611686018427387904 ≤ q.num ∧ q.num ≤ 4611686018427387904 ∧ (q.den : Int) ≤ 2147483648)
def low (q : Rat) : Rt × Int := if fitsQ q = true then (⟨q.num, q.den⟩, 0) else (⟨0, 0⟩, 12)
def bad (e : Int) : Rt × Int := (⟨0, 0⟩, e)

theorem right_iff (r : Rt) : rightB r = true ↔ 1 ≤ r.D ∧ r.D ≤ 2147483648 ∧ -4611686018427387904 ≤ r.N ∧ r.N ≤ 4611686018427387904 ∧ r.N.natAbs.gcd r.D.natAbs = 1 := by
  unfold rightB; exact decide_eq_true_iff

theorem gcd_rest (n d : Int) (hd : 0 < d) : (n % d).toNat.gcd d.toNat = n.natAbs.gcd d.natAbs := by
  have h0 := Int.emod_nonneg n (show d ≠ 0 by omega)
  have e1 : (n % d).toNat = (n % d).natAbs := by omega
  have e2 : d.toNat = d.natAbs := by omega
  rw [e1, e2, ← Int.gcd_eq_natAbs_gcd_natAbs, ← Int.gcd_eq_natAbs_gcd_natAbs, Int.emod_def, Int.gcd_sub_mul_left_left]

theorem q_num (n d : Int) (hd : 0 < d) : (Rat.divInt n d).num = n / (n.natAbs.gcd d.natAbs : Nat) := by
  rw [Rat.num_divInt, Int.sign_eq_one_of_pos hd, Int.one_mul, Int.gcd_eq_natAbs_gcd_natAbs, Nat.gcd_comm]
theorem q_den (n d : Int) (hd : 0 < d) : ((Rat.divInt n d).den : Int) = d / (n.natAbs.gcd d.natAbs : Nat) := by
  rw [Rat.den_divInt, if_neg (by omega), Int.gcd_eq_natAbs_gcd_natAbs, Nat.gcd_comm, Int.natCast_ediv]
  congr 1
  omega

theorem right_num (r : Rt) (h : rightB r = true) : (valQ r).num = r.N := by
  obtain ⟨h1, _, _, _, hg⟩ := (right_iff r).1 h
  unfold valQ; rw [q_num _ _ (by omega), hg]; simp
theorem right_den (r : Rt) (h : rightB r = true) : ((valQ r).den : Int) = r.D := by
  obtain ⟨h1, _, _, _, hg⟩ := (right_iff r).1 h
  unfold valQ; rw [q_den _ _ (by omega), hg]; simp
theorem right_fits (r : Rt) (h : rightB r = true) : fitsQ (valQ r) = true := by
  have h1 := right_num r h
  have h2 := right_den r h
  have := (right_iff r).1 h
  unfold fitsQ
  rw [h1, h2]
  exact decide_eq_true ⟨this.2.2.1, this.2.2.2.1, this.2.1⟩
theorem low_right (r : Rt) (h : rightB r = true) : low (valQ r) = (r, 0) := by
  unfold low
  rw [if_pos (right_fits r h), right_num r h, right_den r h]
theorem low_fits (q : Rat) (h : fitsQ q = true) : low q = (⟨q.num, q.den⟩, 0) := by unfold low; rw [if_pos h]
theorem low_not (q : Rat) (h : fitsQ q = false) : low q = (⟨0, 0⟩, 12) := by unfold low; rw [if_neg (by simp [h])]
theorem fits_right (q : Rat) (h : fitsQ q = true) : rightB ⟨q.num, q.den⟩ = true := by
  have h2 : _ := of_decide_eq_true h
  refine (right_iff _).2 ⟨?_, h2.2.2, h2.1, h2.2.1, ?_⟩
  · have := q.den_pos; simp only; omega
  · exact q.reduced
theorem val_fits (q : Rat) : valQ ⟨q.num, q.den⟩ = q := Rat.num_divInt_den q
theorem right_inj (r s : Rt) (hr : rightB r = true) (hs : rightB s = true) (h : valQ r = valQ s) : r = s := by
  have := low_right r hr
  rw [h, low_right s hs] at this
  exact (Prod.mk.inj this).1.symm
theorem low_ok (q : Rat) (h : (low q).2 = 0) : fitsQ q = true := by
  cases hf : fitsQ q with
  | true => rfl
  | false => rw [low_not q hf] at h; simp at h
theorem low_ok_right (q : Rat) (h : (low q).2 = 0) : rightB (low q).1 = true ∧ valQ (low q).1 = q := by
  have hf := low_ok q h
  rw [low_fits q hf]
  exact ⟨fits_right q hf, val_fits q⟩

/-- what the code's `lowest` tells -/
theorem low_eq (n d g : Int) (hd : 0 < d) (hg : g = ((n % d).toNat.gcd d.toNat : Nat)) :
    low (Rat.divInt n d) = if -4611686018427387904 ≤ n / g ∧ n / g ≤ 4611686018427387904 ∧ d / g ≤ 2147483648 then (⟨n / g, d / g⟩, 0) else (⟨0, 0⟩, 12) := by
  have e : g = ((n.natAbs.gcd d.natAbs : Nat) : Int) := by rw [hg, gcd_rest n d hd]
  unfold low fitsQ
  rw [q_num n d hd, q_den n d hd, ← e]
  simp only [decide_eq_true_eq]
theorem val_pos (r : Rt) (h : rightB r = true) : 0 < r.D := by have := (right_iff r).1 h; omega

/-- sums, products by their tops and bottoms -/
theorem val_add (a b : Rt) (ha : rightB a = true) (hb : rightB b = true) : valQ a + valQ b = Rat.divInt (a.N * b.D + b.N * a.D) (a.D * b.D) := by
  have h1 := val_pos a ha
  have h2 := val_pos b hb
  exact Rat.divInt_add_divInt _ _ (by omega) (by omega)
theorem val_mul (a b : Rt) : valQ a * valQ b = Rat.divInt (a.N * b.N) (a.D * b.D) := Rat.divInt_mul_divInt ..
theorem val_neg (a : Rt) : valQ ⟨-a.N, a.D⟩ = -valQ a := (Rat.neg_divInt a.N a.D).symm
theorem neg_right (a : Rt) : rightB ⟨-a.N, a.D⟩ = rightB a := by
  rw [Bool.eq_iff_iff, right_iff, right_iff]
  simp only [Int.natAbs_neg]
  omega
theorem val_sub (a b : Rt) : valQ a - valQ b = valQ a + valQ ⟨-b.N, b.D⟩ := by
  rw [val_neg, Rat.sub_eq_add_neg]
theorem val_div (a b : Rt) : valQ a / valQ b = Rat.divInt (a.N * b.D) (a.D * b.N) := by
  rw [Rat.div_def]
  unfold valQ
  rw [Rat.inv_divInt, Rat.divInt_mul_divInt]
def addA (a b : Rt) : Rt × Int := if (rightB a && rightB b) = true then low (valQ a + valQ b) else bad 12
def subA (a b : Rt) : Rt × Int := if (rightB a && rightB b) = true then low (valQ a - valQ b) else bad 12
def mulA (a b : Rt) : Rt × Int := if (rightB a && rightB b) = true then low (valQ a * valQ b) else bad 12
def divA (a b : Rt) : Rt × Int := if (rightB a && rightB b) = true then (if b.N = 0 then bad 11 else low (valQ a / valQ b)) else bad 12
def negA (a : Rt) : Rt × Int := if rightB a = true then (⟨-a.N, a.D⟩, 0) else bad 12
def cmpI (a b : Rt) : Int := if a.N * b.D < b.N * a.D then -1 else if b.N * a.D < a.N * b.D then 1 else 0
theorem both_iff (a b : Rt) : (rightB a && rightB b) = true ↔ rightB a = true ∧ rightB b = true := by simp
theorem addA_right {a b : Rt} (ha : rightB a = true) (hb : rightB b = true) : addA a b = low (valQ a + valQ b) := by unfold addA; rw [if_pos (by simp [ha, hb])]
theorem subA_right {a b : Rt} (ha : rightB a = true) (hb : rightB b = true) : subA a b = low (valQ a - valQ b) := by unfold subA; rw [if_pos (by simp [ha, hb])]
theorem mulA_right {a b : Rt} (ha : rightB a = true) (hb : rightB b = true) : mulA a b = low (valQ a * valQ b) := by unfold mulA; rw [if_pos (by simp [ha, hb])]
theorem divA_right {a b : Rt} (ha : rightB a = true) (hb : rightB b = true) (h0 : b.N ≠ 0) : divA a b = low (valQ a / valQ b) := by unfold divA; rw [if_pos (by simp [ha, hb]), if_neg h0]
theorem addA_ok {a b : Rt} (h : (addA a b).2 = 0) : rightB a = true ∧ rightB b = true ∧ rightB (addA a b).1 = true ∧ valQ (addA a b).1 = valQ a + valQ b := by
  by_cases hr : (rightB a && rightB b) = true
  · obtain ⟨ha, hb⟩ := (both_iff a b).1 hr
    rw [addA_right ha hb] at h ⊢
    have := low_ok_right _ h
    exact ⟨ha, hb, this.1, this.2⟩
  · unfold addA at h; rw [if_neg hr] at h; simp [bad] at h
theorem mulA_ok {a b : Rt} (h : (mulA a b).2 = 0) : rightB a = true ∧ rightB b = true ∧ rightB (mulA a b).1 = true ∧ valQ (mulA a b).1 = valQ a * valQ b := by
  by_cases hr : (rightB a && rightB b) = true
  · obtain ⟨ha, hb⟩ := (both_iff a b).1 hr
    rw [mulA_right ha hb] at h ⊢
    have := low_ok_right _ h
    exact ⟨ha, hb, this.1, this.2⟩
  · unfold mulA at h; rw [if_neg hr] at h; simp [bad] at h
theorem add_comm' (a b : Rt) : addA a b = addA b a := by unfold addA; rw [Rat.add_comm, Bool.and_comm]
theorem mul_comm' (a b : Rt) : mulA a b = mulA b a := by unfold mulA; rw [Rat.mul_comm, Bool.and_comm]
theorem add_back {a b : Rt} (h : (addA a b).2 = 0) : subA (addA a b).1 b = (a, 0) := by
  obtain ⟨ha, hb, hc, e⟩ := addA_ok h
  rw [subA_right hc hb, e, Rat.add_sub_cancel, low_right a ha]
theorem mul_back {a b : Rt} (h : (mulA a b).2 = 0) (h0 : b.N ≠ 0) : divA (mulA a b).1 b = (a, 0) := by
  obtain ⟨ha, hb, hc, e⟩ := mulA_ok h
  have hn : valQ b ≠ 0 := fun e0 => h0 (by rw [← right_num b hb, e0]; rfl)
  rw [divA_right hc hb h0, e, Rat.mul_div_cancel hn, low_right a ha]
theorem add_three {a b c : Rt} (h : (addA a b).2 = 0) (k : (addA b c).2 = 0) : addA (addA a b).1 c = addA a (addA b c).1 := by
  obtain ⟨ha, hb, hab, e⟩ := addA_ok h
  obtain ⟨_, hc, hbc, f⟩ := addA_ok k
  rw [addA_right hab hc, addA_right ha hbc, e, f, Rat.add_assoc]
theorem mul_three {a b c : Rt} (h : (mulA a b).2 = 0) (k : (mulA b c).2 = 0) : mulA (mulA a b).1 c = mulA a (mulA b c).1 := by
  obtain ⟨ha, hb, hab, e⟩ := mulA_ok h
  obtain ⟨_, hc, hbc, f⟩ := mulA_ok k
  rw [mulA_right hab hc, mulA_right ha hbc, e, f, Rat.mul_assoc]
theorem mul_parts {a b c : Rt} (k : (addA b c).2 = 0) (g : (mulA a b).2 = 0) (n : (mulA a c).2 = 0) : mulA a (addA b c).1 = addA (mulA a b).1 (mulA a c).1 := by
  obtain ⟨hb, hc, hbc, e⟩ := addA_ok k
  obtain ⟨ha, _, hab, f⟩ := mulA_ok g
  obtain ⟨_, _, hac, f2⟩ := mulA_ok n
  rw [mulA_right ha hbc, addA_right hab hac, e, f, f2, Rat.mul_add]

/-! order -/
theorem cmp_lt {a b : Rt} (ha : rightB a = true) (hb : rightB b = true) : a.N * b.D < b.N * a.D ↔ valQ a < valQ b := by
  rw [Rat.lt_iff, right_num a ha, right_num b hb, right_den a ha, right_den b hb]
theorem cmp_right {a b : Rt} (ha : rightB a = true) (hb : rightB b = true) : cmpI a b = if valQ a < valQ b then -1 else if valQ b < valQ a then 1 else 0 := by
  unfold cmpI
  simp only [cmp_lt ha hb, cmp_lt hb ha]
theorem cmp_turn (a b : Rt) : cmpI a b = -cmpI b a := by
  unfold cmpI
  split <;> split <;> (try split) <;> omega
theorem cmp_range (a b : Rt) : -1 ≤ cmpI a b ∧ cmpI a b ≤ 1 := by unfold cmpI; split <;> (try split) <;> omega
theorem cmp_self (a : Rt) : cmpI a a = 0 := by unfold cmpI; rw [if_neg (by omega), if_neg (by omega)]
theorem cmp_zero {a b : Rt} (ha : rightB a = true) (hb : rightB b = true) : cmpI a b = 0 ↔ a = b := by
  constructor
  · intro h
    apply right_inj a b ha hb
    rw [cmp_right ha hb] at h
    by_cases h1 : valQ a < valQ b
    · rw [if_pos h1] at h; omega
    · rw [if_neg h1] at h
      by_cases h2 : valQ b < valQ a
      · rw [if_pos h2] at h; omega
      · exact Rat.le_antisymm (Rat.not_lt.1 h2) (Rat.not_lt.1 h1)
  · rintro rfl; exact cmp_self a
theorem cmp_le {a b : Rt} (ha : rightB a = true) (hb : rightB b = true) : cmpI a b ≤ 0 ↔ valQ a ≤ valQ b := by
  rw [cmp_right ha hb, ← Rat.not_lt]
  by_cases h1 : valQ a < valQ b
  · rw [if_pos h1]
    exact ⟨fun _ h => absurd h (Rat.not_lt.2 (Rat.le_of_lt h1)), fun _ => by omega⟩
  · rw [if_neg h1]
    by_cases h2 : valQ b < valQ a
    · rw [if_pos h2]; exact ⟨fun h => by omega, fun h => absurd h2 h⟩
    · rw [if_neg h2]; exact ⟨fun _ => h2, fun _ => by omega⟩
theorem cmp_trans {a b c : Rt} (ha : rightB a = true) (hb : rightB b = true) (hc : rightB c = true) (h1 : cmpI a b ≤ 0) (h2 : cmpI b c ≤ 0) : cmpI a c ≤ 0 :=
  (cmp_le ha hc).2 (Rat.le_trans ((cmp_le ha hb).1 h1) ((cmp_le hb hc).1 h2))
theorem sub_sign {a b : Rt} (ha : rightB a = true) (hb : rightB b = true) (h : (subA a b).2 = 0) : (0 < (subA a b).1.N ↔ 0 < cmpI a b) ∧ ((subA a b).1.N < 0 ↔ cmpI a b < 0) := by
  rw [subA_right ha hb] at h ⊢
  have hf := low_ok _ h
  rw [low_fits _ hf]
  have e1 : 0 ≤ (valQ a - valQ b).num ↔ cmpI b a ≤ 0 := by rw [Rat.num_nonneg, ← Rat.le_iff_sub_nonneg, cmp_le hb ha]
  have e2 : 0 ≤ (valQ b - valQ a).num ↔ cmpI a b ≤ 0 := by rw [Rat.num_nonneg, ← Rat.le_iff_sub_nonneg, cmp_le ha hb]
  have e3 : (valQ b - valQ a).num = -(valQ a - valQ b).num := by rw [← Rat.neg_sub]; rfl
  have e4 := cmp_turn a b
  simp only
  omega
theorem sub_not {a b : Rt} (h : (subA a b).2 ≠ 0) : (subA a b).1 = ⟨0, 0⟩ := by
  unfold subA at h ⊢
  split
  · rename_i hr
    rw [if_pos hr] at h
    unfold low at h ⊢
    split
    · rename_i hf; rw [if_pos hf] at h; simp at h
    · rfl
  · rfl
/-! made whole -/
def wholeI (how n d : Int) : Int := if how = 1 then n / d else if how = 2 then (2 * n + d) / (2 * d) else -(-n / d)
def inNum (k : Int) : Bool := decide (-4611686018427387904 ≤ k ∧ k ≤ 4611686018427387904)
def howB (how : Int) : Bool := decide (1 ≤ how ∧ how ≤ 3)
def wholeA (r : Rt) (times how : Int) : Int × Int :=
  if rightB r = true then (if howB how = true then (if inNum (wholeI how (r.N * times) r.D) = true then (wholeI how (r.N * times) r.D, 0) else (0, 12)) else (0, 1)) else (0, 12)
def snapK (r g : Rt) (how : Int) : Int := wholeI how (r.N * g.D) (r.D * g.N)
def snapA (r g : Rt) (how : Int) : Rt × Int :=
  if (rightB r && rightB g) = true then (if g.N ≤ 0 then bad 11 else (if howB how = true then (if inNum (snapK r g how) = true then low (Rat.divInt (snapK r g how * g.N) g.D) else bad 12) else bad 1)) else bad 12

/-- one divisor behind the other -/
theorem made_floor (n d m : Int) (hd : 0 < d) : n / d / m = wholeI 1 n (d * m) := by
  unfold wholeI
  rw [if_pos rfl, Int.ediv_ediv_of_nonneg (by omega)]
theorem made_ceil (n d m : Int) (hd : 0 < d) : -(-n / d / m) = wholeI 3 n (d * m) := by
  unfold wholeI
  rw [if_neg (by omega), if_neg (by omega), Int.ediv_ediv_of_nonneg (by omega)]
theorem made_near (n d m : Int) (hd : 0 < d) (hm : 0 < m) : ((n + n) / d / m + 1) / 2 = wholeI 2 n (d * m) := by
  unfold wholeI
  have hp : 0 < d * m := Int.mul_pos hd hm
  rw [if_neg (by omega), if_pos rfl, Int.ediv_ediv_of_nonneg (by omega)]
  have e : (n + n) / (d * m) + 1 = (2 * n + d * m) / (d * m) := by
    rw [show 2 * n + d * m = (n + n) + 1 * (d * m) by omega, Int.add_mul_ediv_right _ _ (by omega)]
  rw [e, Int.ediv_ediv_of_nonneg (by omega), Int.mul_comm (d * m) 2]
/-! P310 -/
theorem floor_q (n d : Int) (hd : 0 < d) : n / d = (Rat.divInt n d).floor := by
  have hg : 0 < (n.natAbs.gcd d.natAbs : Nat) := Nat.gcd_pos_of_pos_right _ (by omega)
  rw [Rat.floor_def, q_num n d hd, q_den n d hd]
  have h1 : ((n.natAbs.gcd d.natAbs : Nat) : Int) ∣ n := by
    have := Nat.gcd_dvd_left n.natAbs d.natAbs
    exact Int.ofNat_dvd_left.2 this
  have h2 : ((n.natAbs.gcd d.natAbs : Nat) : Int) ∣ d := by
    have := Nat.gcd_dvd_right n.natAbs d.natAbs
    exact Int.ofNat_dvd_left.2 this
  generalize hG : ((n.natAbs.gcd d.natAbs : Nat) : Int) = g at *
  obtain ⟨a, rfl⟩ := h1
  obtain ⟨b, rfl⟩ := h2
  have hg0 : 0 < g := by omega
  rw [Int.mul_ediv_cancel_left _ (by omega), Int.mul_ediv_cancel_left _ (by omega), Int.mul_ediv_mul_of_pos _ _ hg0]
theorem snap_val (r g : Rt) : Rat.divInt (r.N * g.D) (r.D * g.N) = valQ r / valQ g := (val_div r g).symm
theorem snapK_floor (r g : Rt) (hr : rightB r = true) (h0 : 0 < g.N) : snapK r g 1 = (valQ r / valQ g).floor := by
  have h1 := val_pos r hr
  unfold snapK wholeI
  rw [if_pos rfl, floor_q _ _ (Int.mul_pos h1 h0), snap_val r g]
theorem snapK_ceil (r g : Rt) (hr : rightB r = true) (h0 : 0 < g.N) : snapK r g 3 = (valQ r / valQ g).ceil := by
  have h1 := val_pos r hr
  unfold snapK wholeI
  rw [if_neg (by omega), if_neg (by omega), floor_q _ _ (Int.mul_pos h1 h0), ← Rat.neg_divInt, snap_val r g, Rat.ceil_eq_neg_floor_neg]
theorem half_q (n d : Int) (hd : 0 < d) : Rat.divInt (2 * n + d) (2 * d) = Rat.divInt n d + 1 / 2 := by
  rw [show (1 / 2 : Rat) = Rat.divInt 1 2 by rw [Rat.divInt_eq_div]; rfl, Rat.divInt_add_divInt _ _ (by omega) (by omega)]
  congr 1 <;> omega
theorem snapK_near (r g : Rt) (hr : rightB r = true) (h0 : 0 < g.N) : snapK r g 2 = (valQ r / valQ g + 1 / 2).floor := by
  have h1 := val_pos r hr
  have h2 := Int.mul_pos h1 h0
  unfold snapK wholeI
  rw [if_neg (by omega), if_pos rfl, floor_q _ _ (by omega), half_q _ _ h2, snap_val r g]
theorem snapA_ok {r g : Rt} {how : Int} (h : (snapA r g how).2 = 0) : rightB r = true ∧ rightB g = true ∧ 0 < g.N ∧ rightB (snapA r g how).1 = true ∧ valQ (snapA r g how).1 = (snapK r g how : Rat) * valQ g := by
  unfold snapA at h ⊢
  by_cases hb : (rightB r && rightB g) = true
  · rw [if_pos hb] at h ⊢
    by_cases h0 : g.N ≤ 0
    · rw [if_pos h0] at h; simp [bad] at h
    · rw [if_neg h0] at h ⊢
      by_cases hh : howB how = true
      · rw [if_pos hh] at h ⊢
        by_cases hi : inNum (snapK r g how) = true
        · rw [if_pos hi] at h ⊢
          have h1 := low_ok_right _ h
          obtain ⟨hr, hg⟩ := (both_iff r g).1 hb
          refine ⟨hr, hg, by omega, h1.1, h1.2.trans ?_⟩
          unfold valQ
          have : ((snapK r g how : Int) : Rat) = Rat.divInt (snapK r g how) 1 := by rw [Rat.divInt_eq_div]; grind
          rw [this, Rat.divInt_mul_divInt, Int.one_mul]
        · rw [if_neg hi] at h; simp [bad] at h
      · rw [if_neg hh] at h; simp [bad] at h
  · rw [if_neg hb] at h; simp [bad] at h

theorem g_pos {g : Rt} (hg : rightB g = true) (h0 : 0 < g.N) : 0 < valQ g := by
  have := (cmp_lt (a := ⟨0, 1⟩) (b := g) (by decide) hg).1 (by simp; omega)
  have e : valQ ⟨0, 1⟩ = 0 := by decide
  rw [e] at this
  exact this
theorem x_mul {r g : Rt} (hg : rightB g = true) (h0 : 0 < g.N) : valQ r = valQ r / valQ g * valQ g := by
  have := g_pos hg h0
  rw [Rat.div_mul_cancel]
  intro e; rw [e] at this; exact absurd this (by decide)
/-- all that P310 asks, of values -/
theorem near_core (x g : Rat) (hg : 0 < g) (f c n : Int) (hf : f = x.floor) (hc : c = x.ceil) (hn : n = (x + 1 / 2).floor) :
    (f : Rat) * g ≤ x * g ∧ x * g ≤ (c : Rat) * g ∧ (n = f ∨ n = c) ∧ (c = f ∨ c = f + 1) ∧ (c = f → (f : Rat) * g = x * g) ∧ (c ≠ f → (f : Rat) * g ≠ x * g) ∧
    (x * g - f * g < c * g - x * g → n = f) ∧ (¬ x * g - f * g < c * g - x * g → n = c) := by
  have f1 : (f : Rat) ≤ x := by rw [hf]; exact Rat.floor_le x
  have f2 : x < (f : Rat) + 1 := by have := Rat.lt_floor_add_one x; rw [hf]; simpa using this
  have c1 : x ≤ (c : Rat) := by rw [hc]; exact Rat.le_ceil
  have c2 : (c : Rat) < x + 1 := by rw [hc]; exact Rat.ceil_lt
  have n1 : (n : Rat) ≤ x + 1 / 2 := by rw [hn]; exact Rat.floor_le _
  have n2 : x + 1 / 2 < (n : Rat) + 1 := by have := Rat.lt_floor_add_one (x + 1 / 2); rw [hn]; simpa using this
  have i1 : c < f + 2 := by
    apply Rat.intCast_lt_intCast.1
    have : ((f + 2 : Int) : Rat) = (f : Rat) + 2 := by simp
    grind
  have i2 : f ≤ c := by
    apply Rat.intCast_le_intCast.1
    grind
  have i3 : f ≤ n := by
    have : f < n + 1 := by
      apply Rat.intCast_lt_intCast.1
      have : ((n + 1 : Int) : Rat) = (n : Rat) + 1 := by simp
      grind
    omega
  have i4 : n ≤ c := by
    have : n < c + 1 := by
      apply Rat.intCast_lt_intCast.1
      have : ((c + 1 : Int) : Rat) = (c : Rat) + 1 := by simp
      grind
    omega
  have m1 : (f : Rat) * g ≤ x * g := Rat.mul_le_mul_of_nonneg_right f1 (Rat.le_of_lt hg)
  have m2 : x * g ≤ (c : Rat) * g := Rat.mul_le_mul_of_nonneg_right c1 (Rat.le_of_lt hg)
  have key : x * g - f * g < c * g - x * g ↔ 2 * x < (f : Rat) + c := by
    rw [← Rat.mul_lt_mul_right (a := 2 * x) (b := (f : Rat) + c) hg]
    grind
  refine ⟨m1, m2, by omega, by omega, ?_, ?_, ?_, ?_⟩
  · intro e; subst e; exact Rat.le_antisymm m1 m2
  · intro e he
    have : (f : Rat) = x := by
      have h : ((f : Rat) - x) * g = 0 := by grind
      rcases Rat.mul_eq_zero.1 h with h | h <;> grind
    apply e
    rw [hc, ← this, Rat.ceil_intCast]
  · rw [key]
    intro h
    by_cases e : n = f
    · exact e
    · exfalso
      have ec : c = f + 1 := by omega
      have en : n = f + 1 := by omega
      have e1 : (c : Rat) = (f : Rat) + 1 := by rw [ec]; simp
      have e2 : (n : Rat) = (f : Rat) + 1 := by rw [en]; simp
      grind
  · rw [key]
    intro h
    by_cases e : n = c
    · exact e
    · exfalso
      have ec : c = f + 1 := by omega
      have en : n = f := by omega
      have e1 : (c : Rat) = (f : Rat) + 1 := by rw [ec]; simp
      have e2 : (n : Rat) = (f : Rat) := by rw [en]
      grind

end Go.Proofs.YtmofjkfghidlnaaDoor

/- The shelf's contracts of math/bits.Mul64 and LeadingZeros64 speak of this program. -/
namespace Go.Proofs.YtmofjkfghidlnaaDoor
open Go.Shelf
def lay264Ren : Ren := ⟨fun x => if x = 264 then 71 else x, fun x => if x = 46 then 102 else if x = 53 then 68 else x, fun x => x⟩
set_option maxRecDepth 100000 in
theorem lay264 : Lays.n264 Tryd.prog lay264Ren := { mixed := by kernel_rfl, f264 := by kernel_rfl, t46 := by kernel_rfl, a46 := fun _ => by kernel_rfl, z46 := fun _ => by kernel_rfl, v46 := fun _ => by kernel_rfl, t53 := by kernel_rfl, a53 := fun _ => by kernel_rfl, z53 := fun _ => by kernel_rfl, v53 := fun _ => by kernel_rfl }
def lay134Ren : Ren := ⟨fun x => if x = 129 then 132 else if x = 134 then 124 else x, fun x => if x = 3 then 3 else if x = 4 then 4 else if x = 5 then 5 else if x = 9 then 9 else if x = 46 then 102 else if x = 53 then 68 else x, fun x => x⟩
set_option maxRecDepth 100000 in
theorem lay134 : Lays.n134 Tryd.prog lay134Ren := { mixed := by kernel_rfl, f129 := by kernel_rfl, f134 := by kernel_rfl, t3 := by kernel_rfl, a3 := fun _ => by kernel_rfl, z3 := fun _ => by kernel_rfl, v3 := fun _ => by kernel_rfl, t4 := by kernel_rfl, a4 := fun _ => by kernel_rfl, z4 := fun _ => by kernel_rfl, v4 := fun _ => by kernel_rfl, t5 := by kernel_rfl, a5 := fun _ => by kernel_rfl, z5 := fun _ => by kernel_rfl, v5 := fun _ => by kernel_rfl, t9 := by kernel_rfl, a9 := fun _ => by kernel_rfl, z9 := fun _ => by kernel_rfl, v9 := fun _ => by kernel_rfl, t46 := by kernel_rfl, a46 := fun _ => by kernel_rfl, z46 := fun _ => by kernel_rfl, v46 := fun _ => by kernel_rfl, t53 := by kernel_rfl, a53 := fun _ => by kernel_rfl, z53 := fun _ => by kernel_rfl, v53 := fun _ => by kernel_rfl }
end Go.Proofs.YtmofjkfghidlnaaDoor

/- Contracts of package ratio's numbers of 128 bits. -/
namespace Go.Proofs.YtmofjkfghidlnaaDoor
open Go.RowKit
attribute [local go_sem] Oper.semAt_some

/-- A number of 128 bits, as package ratio holds it. -/
def wv (z : Int) : Value := .agg #[.int .u64 (hiZ z), .int .u64 (loZ z)]
/-- A ratio. -/
def rtv (r : Rt) : Value := .agg #[.int .i64 r.N, .int .i64 r.D]

theorem bcell {W w1 : World} (hb : Below W.heap.size W w1) : (∀ b o, b < W.heap.size → w1.cell? ⟨b, o, none⟩ = W.cell? ⟨b, o, none⟩) ∧ (∀ b o, b < W.heap.size → w1.frozen? ⟨b, o, none⟩ = W.frozen? ⟨b, o, none⟩) :=
  ⟨fun b o h => hb.cell (p := ⟨b, o, none⟩) h, fun b o h => hb.frozen (p := ⟨b, o, none⟩) h⟩
theorem bel1 (w : World) (o1 : Obj) : Below w.heap.size w (w.alloc o1) := (Below.refl _ _).alloc (Nat.le_refl _) o1
theorem bel2 (w : World) (o1 o2 : Obj) : Below w.heap.size w ((w.alloc o1).alloc o2) := (bel1 w o1).alloc (by simp) o2
theorem bel3 (w : World) (o1 o2 o3 : Obj) : Below w.heap.size w (((w.alloc o1).alloc o2).alloc o3) := (bel2 w o1 o2).alloc (by simp; omega) o3
/-- Behind a call from a world that has grown. -/
theorem bup {w W w1 : World} (h : Below w.heap.size w W) (k : Below W.heap.size W w1) : Below w.heap.size w w1 := h.trans (k.mono h.size)
theorem ret_int {k : IntKind} {a b : Int} (h : a = b) : Ending.returned (.int k a) = .returned (.int k b) := by rw [h]
theorem flip_bits (x : Int) (h : 0 ≤ x ∧ x < 18446744073709551616) : bits .xor .u64 IntKind.u64.max x = 18446744073709551615 - x := by
  obtain ⟨n, rfl⟩ := Int.eq_ofNat_of_zero_le h.1
  have h1 : (BitVec.ofInt 64 (n : Int)).toNat = n := by
    rw [BitVec.ofInt_natCast, BitVec.toNat_ofNat]; exact Nat.mod_eq_of_lt (by omega)
  show IntKind.u64.wrap ((BitVec.ofInt 64 IntKind.u64.max ^^^ BitVec.ofInt 64 (n : Int)).toNat : Int) = _
  rw [show BitVec.ofInt 64 IntKind.u64.max = BitVec.allOnes 64 by decide, BitVec.allOnes_xor, BitVec.toNat_not, h1, IntKind.wrap_u64]
  omega

theorem add_run (a b : Int) (w : World) : (callFunc 93 #[.int .u64 (loZ a), .int .u64 (loZ b), .int .u64 0]).run Tryd.prog w = .ok (.value (.tuple #[.int .u64 (loZ (a + b)), .int .u64 ((loZ a + loZ b) / 18446744073709551616)])) w := by
  have ha := loZ_range a
  have hb := loZ_range b
  rw [run_callFunc_extern Tryd.func93 (by kernel_rfl) (by kernel_rfl) (by kernel_rfl) (e := add64Entry) (by kernel_rfl), run_add64 _ _ _ ha.1 hb.1 (by omega) (by omega)]
  simp only [Result.andThen, Int.add_zero, plus_lo]

theorem size_any (k : Int) (h0 : -9223372036854775808 ≤ k) (h1 : k ≤ 9223372036854775807) (w : World) :
    Calls Tryd.prog 60 #[.int .i64 k] w fun e w' => e = .returned (.int .u64 k.natAbs) ∧ w' = w := by
  go_enter Tryd.func60, Tryd.ntmps60
  go_wp2
  · go_ret
    exact ⟨ret_int (by rw [IntKind.wrap_u64, IntKind.wrap_u64]; omega), rfl⟩
  · go_ret
    exact ⟨ret_int (by omega), rfl⟩

theorem widen_any (k : Int) (h0 : -9223372036854775808 ≤ k) (h1 : k ≤ 9223372036854775807) (w : World) :
    Calls Tryd.prog 57 #[.int .i64 k] w fun e w' => e = .returned (wv k) ∧ Below w.heap.size w w' := by
  go_enter Tryd.func57, Tryd.ntmps57
  go_wp2
  refine bodyPost_ret (v := wv k) (by
    simp [results, Tryd.results57, go_sem, wv]
    rw [IntKind.wrap_u64, IntKind.wrap_u64]
    unfold hiZ loZ
    omega) rfl ⟨rfl, bel1 _ _⟩

theorem plus_any (a b : Int) (w : World) :
    Calls Tryd.prog 68 #[wv a, wv b] w fun e w' => e = .returned (wv (a + b)) ∧ Below w.heap.size w w' := by
  have hadd := add_run a b
  have h1 := loZ_range a
  have h2 := loZ_range b
  have h3 := hiZ_range a
  have h4 := hiZ_range b
  have hs : IntKind.u64.wrap (IntKind.u64.wrap (hiZ a + hiZ b) + (loZ a + loZ b) / 18446744073709551616) = hiZ (a + b) := by
    rw [IntKind.wrap_u64, IntKind.wrap_u64, ← plus_hi]; omega
  have HS : Hid (IntKind.u64.wrap (IntKind.u64.wrap (hiZ a + hiZ b) + (loZ a + loZ b) / 18446744073709551616) = hiZ (a + b)) := hs
  clear hs
  unfold wv
  go_enter Tryd.func68, Tryd.ntmps68
  go_wp2
  rw [HS.out]
  exact bodyPost_ret (v := .agg #[.int .u64 (hiZ (a + b)), .int .u64 (loZ (a + b))]) (by simp [results, Tryd.results68, go_sem]) rfl ⟨rfl, bel3 _ _ _ _⟩

theorem flip_any (a : Int) (w : World) :
    Calls Tryd.prog 88 #[wv a] w fun e w' => e = .returned (wv (-1 - a)) ∧ Below w.heap.size w w' := by
  have f1 := flip_bits _ (hiZ_range a)
  have f2 := flip_bits _ (loZ_range a)
  rw [flip_hi] at f1
  rw [flip_lo] at f2
  unfold wv
  go_enter Tryd.func88, Tryd.ntmps88
  go_wp2
  exact bodyPost_ret (v := .agg #[.int .u64 (hiZ (-1 - a)), .int .u64 (loZ (-1 - a))]) (by simp [results, Tryd.results88, go_sem]) rfl ⟨rfl, bel2 _ _ _⟩

theorem negative_any (a : Int) (w : World) :
    Calls Tryd.prog 58 #[wv a] w fun e w' => e = .returned (wv (-a)) ∧ Below w.heap.size w w' := by
  unfold wv
  go_enter Tryd.func58, Tryd.ntmps58
  go_wp2_with fail
  go_at_call 88
  refine (flip_any a _).mono ?_
  rintro e w1 ⟨rfl, b1⟩
  go_wp2_with fail
  go_at_call 57
  refine (widen_any 1 (by omega) (by omega) _).mono ?_
  rintro e w2 ⟨rfl, b2⟩
  go_wp2_with fail
  go_at_call 68
  refine (plus_any (-1 - a) 1 _).mono ?_
  rintro e w3 ⟨rfl, b3⟩
  rw [show -1 - a + 1 = -a by omega]
  have B := bup (bup b1 b2) b3
  obtain ⟨hc, hf⟩ := bcell B
  clear b1 b2 b3
  simp only [wv]
  go_wp2_with fail
  exact bodyPost_ret (v := .agg #[.int .u64 (hiZ (-a)), .int .u64 (loZ (-a))]) (by simp [results, Tryd.results58, go_sem, hc]) rfl ⟨rfl, ((bup (bel2 _ _ _) B).setCell (by simp) _).setCell (by simp) _⟩

theorem gcd_round (a b : Nat) : b.gcd (a % b) = a.gcd b := by
  rw [Nat.gcd_comm a b, Nat.gcd_rec b a, Nat.gcd_comm]

theorem divisor_any (a b : Nat) (ha : a < 18446744073709551616) (hb : b < 18446744073709551616) (w : World) :
    Calls Tryd.prog 65 #[.int .u64 a, .int .u64 b] w fun e w' => e = .returned (.int .u64 (a.gcd b : Nat)) ∧ Below w.heap.size w w' := by
  go_enter Tryd.func65, Tryd.ntmps65
  go_wp2
  go_loopw [0, 1] (fun va vb wr => ∃ x y : Nat, va = .int .u64 x ∧ vb = .int .u64 y ∧ x < 18446744073709551616 ∧ y < 18446744073709551616 ∧ x.gcd y = a.gcd b ∧ Below w.heap.size w wr) (fun _ vb _ => (intOf vb).natAbs)
  case atStart => exact ⟨a, b, rfl, rfl, ha, hb, rfl, Below.refl _ _⟩
  case round =>
    obtain ⟨x, y, rfl, rfl, hx, hy, hg, hB⟩ := hrel
    have HG : Hid (x.gcd y = a.gcd b) := hg
    clear hg
    by_cases h0 : y = 0
    · subst h0
      go_wp2
      go_ret
      refine ⟨ret_int ?_, hB⟩
      have := HG.out
      simp at this
      rw [this]
    · have hn : ((y : Int) != 0) = true := by simp; omega
      go_wp2
      go_region
      all_goals (try go_wp2)
      all_goals (
        go_roundw
        case rel =>
          refine ⟨y, x % y, rfl, by go_num, hy, by have := Nat.mod_lt x (show y > 0 by omega); omega, ?_, hB.drew⟩
          rw [gcd_round x y]; exact HG.out
        case measure =>
          have := Nat.mod_lt x (show y > 0 by omega)
          simp [intOf]
          omega)
end Go.Proofs.YtmofjkfghidlnaaDoor

/- The contract of math/bits.Div64. -/
namespace Go.Proofs.YtmofjkfghidlnaaDoor
open Go.RowKit Go.Shelf
attribute [local go_sem] Oper.semAt_some

theorem lz_any (y : Nat) (hy : y < 18446744073709551616) (w : World) : Calls Tryd.prog 124 #[.int .u64 y] w fun e w' => e = .returned (.int .i64 (64 - (Lib.bitLen y : Int))) ∧ w' = w := by
  have := Any.bits_LeadingZeros64 lay134 (y : Int) w (by omega) (by omega)
  exact this

theorem ret_two {k : IntKind} {a b c d : Int} (h : a = c) (h2 : b = d) : Ending.returned (.tuple #[.int k a, .int k b]) = .returned (.tuple #[.int k c, .int k d]) := by rw [h, h2]

set_option maxRecDepth 100000 in
theorem div_zero (lo y : Nat) (hlo : lo < 18446744073709551616) (hy : y < 18446744073709551616) (h0 : 0 < y) (w : World) :
    Calls Tryd.prog 108 #[.int .u64 0, .int .u64 lo, .int .u64 y] w fun e w' => e = .returned (.tuple #[.int .u64 (lo / y : Nat), .int .u64 (lo % y : Nat)]) ∧ Below w.heap.size w w' := by
  have h1 : ((y : Int) == 0) = false := by simp; omega
  have h2 : ¬ (y : Int) ≤ 0 := by omega
  have h3 : ¬ y = 0 := by omega
  have hq : IntKind.u64.wrap ((lo : Int) / (y : Int)) = ((lo / y : Nat) : Int) := by
    rw [IntKind.wrap_u64, ← Int.natCast_ediv]
    have := Nat.div_le_self lo y
    generalize lo / y = q at this ⊢
    omega
  go_enter Tryd.func108, Tryd.ntmps108
  go_wp2
  go_region
  all_goals (try go_wp2)
  all_goals (
    go_ret2
    exact ⟨ret_two rfl (by omega), (Below.refl _ _).drew⟩)

/-! how far the greatest bit is shifted -/
theorem bitLen_bounds : ∀ (f x : Nat), x < 2 ^ f → x < 2 ^ Lib.bitLenAux f x ∧ (0 < x → 2 ^ Lib.bitLenAux f x ≤ 2 * x)
  | 0, x, h => by simp [Lib.bitLenAux] at h ⊢; omega
  | f + 1, x, h => by
    unfold Lib.bitLenAux
    by_cases h0 : x = 0
    · subst h0; simp
    · rw [if_neg h0]
      obtain ⟨h1, h2⟩ := bitLen_bounds f (x / 2) (by rw [Nat.pow_succ] at h; omega)
      rw [Nat.pow_add, Nat.pow_one]
      refine ⟨by omega, fun _ => ?_⟩
      by_cases hx : 0 < x / 2
      · have := h2 hx; omega
      · have e : x / 2 = 0 := by omega
        rw [e]
        have : Lib.bitLenAux f 0 = 0 := by cases f <;> simp [Lib.bitLenAux]
        rw [this]; omega

/-- All that the division's first steps lay down. -/
theorem knuth_setup (hi lo y : Nat) (hlo : lo < 18446744073709551616) (hy : y < 18446744073709551616) (hlt : hi < y) :
    ∃ s Y v1 v0 u32 u10 u1 u0 : Nat, (64 : Int) - (Lib.bitLen y : Int) = s ∧ s ≤ 63 ∧
      IntKind.u64.wrap ((y : Int) * 2 ^ s) = Y ∧ (Y : Int) / 4294967296 = v1 ∧ bits .and .u64 (Y : Int) 4294967295 = v0 ∧
      bits .or .u64 (IntKind.u64.wrap ((hi : Int) * 2 ^ s)) ((lo : Int) / 2 ^ (64 - s)) = u32 ∧ IntKind.u64.wrap ((lo : Int) * 2 ^ s) = u10 ∧ (u10 : Int) / 4294967296 = u1 ∧ bits .and .u64 (u10 : Int) 4294967295 = u0 ∧
      Y = v1 * 4294967296 + v0 ∧ v0 < 4294967296 ∧ 2147483648 ≤ v1 ∧ v1 < 4294967296 ∧ u32 < Y ∧ u1 < 4294967296 ∧ u0 < 4294967296 ∧
      Y = y * 2 ^ s ∧ (hi * 18446744073709551616 + lo) * 2 ^ s = (u32 * 4294967296 + u1) * 4294967296 + u0 := by
  have hl64 : Lib.bitLen y ≤ 64 := Lib.bitLen_le y 64 (by omega) (by omega)
  obtain ⟨hb1, hb2⟩ := bitLen_bounds 64 y (by omega)
  have hb2 := hb2 (by omega)
  change y < 2 ^ Lib.bitLen y at hb1
  change 2 ^ Lib.bitLen y ≤ 2 * y at hb2
  generalize Lib.bitLen y = L at *
  have hL1 : 1 ≤ L := by
    rcases Nat.eq_zero_or_pos L with h | h
    · subst h; simp at hb1; omega
    · exact h
  have e64 : 2 ^ L * 2 ^ (64 - L) = 18446744073709551616 := by rw [← Nat.pow_add, show L + (64 - L) = 64 by omega]
  have hY1 : y * 2 ^ (64 - L) < 18446744073709551616 := by
    rw [← e64]; exact (Nat.mul_lt_mul_right (Nat.two_pow_pos _)).2 hb1
  have hY2 : 18446744073709551616 ≤ 2 * (y * 2 ^ (64 - L)) := by
    rw [← e64, ← Nat.mul_assoc]; exact Nat.mul_le_mul_right _ hb2
  have hH : hi * 2 ^ (64 - L) + 2 ^ (64 - L) ≤ y * 2 ^ (64 - L) := by
    rw [← Nat.succ_mul]; exact Nat.mul_le_mul_right _ hlt
  have hs64 : 64 - (64 - L) = L := by omega
  have hdl : lo / 2 ^ L < 2 ^ (64 - L) := by
    apply (Nat.div_lt_iff_lt_mul (Nat.two_pow_pos _)).2
    rw [Nat.mul_comm, e64]; exact hlo
  have hml : lo * 2 ^ (64 - L) = lo / 2 ^ L * 18446744073709551616 + lo % 2 ^ L * 2 ^ (64 - L) := by
    have h := Nat.div_add_mod lo (2 ^ L)
    calc lo * 2 ^ (64 - L) = (2 ^ L * (lo / 2 ^ L) + lo % 2 ^ L) * 2 ^ (64 - L) := by rw [h]
      _ = lo / 2 ^ L * 18446744073709551616 + lo % 2 ^ L * 2 ^ (64 - L) := by rw [Nat.add_mul, Nat.mul_right_comm, e64, Nat.mul_comm]
  have hmm : lo % 2 ^ L * 2 ^ (64 - L) < 18446744073709551616 := by
    rw [← e64]; exact (Nat.mul_lt_mul_right (Nat.two_pow_pos _)).2 (Nat.mod_lt _ (Nat.two_pow_pos _))
  have c1 : ∀ z : Nat, (z : Int) * 2 ^ (64 - L) = ((z * 2 ^ (64 - L) : Nat) : Int) := fun z => by simp
  refine ⟨64 - L, y * 2 ^ (64 - L), y * 2 ^ (64 - L) / 4294967296, y * 2 ^ (64 - L) % 4294967296, hi * 2 ^ (64 - L) + lo / 2 ^ L, lo % 2 ^ L * 2 ^ (64 - L), lo % 2 ^ L * 2 ^ (64 - L) / 4294967296, lo % 2 ^ L * 2 ^ (64 - L) % 4294967296,
    by omega, by omega, ?_, by omega, ?_, ?_, ?_, by omega, ?_, by omega, by omega, by omega, by omega, by omega, by omega, by omega, rfl, ?_⟩
  · rw [c1, IntKind.wrap_u64]; omega
  · rw [show (4294967295 : Int) = ((4294967295 : Nat) : Int) by rfl, bits_and_u64_nat _ _ (by omega) (by omega), Nat.and_two_pow_sub_one_eq_mod _ 32]
  · rw [hs64, c1, IntKind.wrap_u64, show (lo : Int) / 2 ^ L = ((lo / 2 ^ L : Nat) : Int) by simp, show ((hi * 2 ^ (64 - L) : Nat) : Int) % 18446744073709551616 = ((hi * 2 ^ (64 - L) : Nat) : Int) by omega,
      bits_or_u64_nat _ _ (by omega) (by omega)]
    congr 1
    have := Nat.shiftLeft_add_eq_or_of_lt hdl hi
    rw [Nat.shiftLeft_eq] at this
    exact this.symm
  · rw [c1, hml, IntKind.wrap_u64]; omega
  · rw [show (4294967295 : Int) = ((4294967295 : Nat) : Int) by rfl, bits_and_u64_nat _ _ (by omega) (by omega), Nat.and_two_pow_sub_one_eq_mod _ 32]
  · rw [Nat.add_mul, hml, Nat.mul_right_comm]; omega

/-- one digit: the loop's relation -/
theorem digit_go (u q v1 v0 u1 r : Nat) (hv : 2147483648 ≤ v1) (hr : r + q * v1 = u) (h : 4294967296 ≤ q ∨ 4294967296 * r + u1 < q * v0) (hs : (u * 4294967296 + u1) / (v1 * 4294967296 + v0) < 4294967296) (hq : (u * 4294967296 + u1) / (v1 * 4294967296 + v0) ≤ q) :
    (u * 4294967296 + u1) / (v1 * 4294967296 + v0) ≤ q - 1 ∧ r + v1 + (q - 1) * v1 = u := by
  have hq1 : 1 ≤ q := by
    rcases h with h | h
    · omega
    · rcases Nat.eq_zero_or_pos q with e | e
      · subst e; simp at h
      · exact e
  have e2 : v1 + (q - 1) * v1 = q * v1 := by
    obtain ⟨k, rfl⟩ : ∃ k, q = k + 1 := ⟨q - 1, by omega⟩
    rw [Nat.add_sub_cancel, Nat.succ_mul]; omega
  refine ⟨?_, by omega⟩
  rcases h with h | h
  · omega
  · refine knuth_ge u q _ u1 (by omega) ((knuth_gt u q v1 v0 u1 (by omega)).1 ?_)
    rw [show u - q * v1 = r by omega]
    exact h
theorem digit_end (u q v1 v0 u1 r : Nat) (hv : 2147483648 ≤ v1) (hr : r + q * v1 = u) (h : ¬ 4294967296 * r + u1 < q * v0) (hq : (u * 4294967296 + u1) / (v1 * 4294967296 + v0) ≤ q) :
    (u * 4294967296 + u1) / (v1 * 4294967296 + v0) = q := by
  refine Nat.le_antisymm hq (knuth_le u q _ u1 (by omega) (fun k => h ?_))
  have := (knuth_gt u q v1 v0 u1 (by omega)).2 k
  rw [show u - q * v1 = r by omega] at this
  exact this

/-- where the loop of a digit begins -/
theorem digit_start (u v1 v0 u1 : Nat) (hv : 2147483648 ≤ v1) (hv1 : v1 < 4294967296) (hv0 : v0 < 4294967296) (hu : u < v1 * 4294967296 + v0) (hu1 : u1 < 4294967296) :
    ∃ q r : Nat, (u : Int) / (v1 : Int) = q ∧ IntKind.u64.wrap ((u : Int) - IntKind.u64.wrap ((q : Int) * (v1 : Int))) = r ∧ r + q * v1 = u ∧ r < 4294967296 ∧ (u * 4294967296 + u1) / (v1 * 4294967296 + v0) ≤ q ∧ q ≤ 4294967297 := by
  have h1 := Nat.div_le_self u v1
  have h2 := knuth_first u v1 v0 hv hv0 hu
  have h3 := knuth_start u v1 v0 u1 (by omega) hu1
  have h4 := Nat.mod_lt u (show v1 > 0 by omega)
  have h5 := Nat.div_add_mod' u v1
  generalize (u * 4294967296 + u1) / (v1 * 4294967296 + v0) = Q at *
  refine ⟨u / v1, u % v1, ?_, ?_, by omega, by omega, h3, h2⟩
  · rw [Int.natCast_ediv]
  · rw [← Int.natCast_mul]
    generalize u / v1 * v1 = m at *
    generalize u % v1 = r at *
    rw [IntKind.wrap_u64, IntKind.wrap_u64]
    omega
theorem q_v0 (q v0 : Nat) (hq : q < 4294967296) (hv0 : v0 < 4294967296) : IntKind.u64.wrap ((q : Int) * (v0 : Int)) = ((q * v0 : Nat) : Int) := by
  have := Nat.mul_le_mul (show q ≤ 4294967295 by omega) (show v0 ≤ 4294967295 by omega)
  rw [← Int.natCast_mul]
  generalize q * v0 = m at *
  rw [IntKind.wrap_u64]
  omega
theorem digit_break (u q v1 v0 u1 r : Nat) (hv : 2147483648 ≤ v1) (hv0 : v0 < 4294967296) (hr : r + q * v1 = u) (h : 4294967296 ≤ r) (hq2 : q ≤ 4294967296) (hq : (u * 4294967296 + u1) / (v1 * 4294967296 + v0) ≤ q) :
    (u * 4294967296 + u1) / (v1 * 4294967296 + v0) = q := by
  refine digit_end u q v1 v0 u1 r hv hr (fun k => ?_) hq
  have := Nat.mul_le_mul hq2 (show v0 ≤ 4294967295 by omega)
  omega

/-! the same, of letters -/
theorem goL {u q v1 v0 u1 r Y Q : Nat} (hY : Y = v1 * 4294967296 + v0) (hQ : Q = (u * 4294967296 + u1) / Y) (hv : 2147483648 ≤ v1) (hr : r + q * v1 = u) (h : 4294967296 ≤ q ∨ 4294967296 * r + u1 < q * v0) (hs : Q < 4294967296) (hq : Q ≤ q) :
    Q ≤ q - 1 ∧ r + v1 + (q - 1) * v1 = u := by
  subst hY; subst hQ; exact digit_go u q v1 v0 u1 r hv hr h hs hq
theorem endL {u q v1 v0 u1 r Y Q : Nat} (hY : Y = v1 * 4294967296 + v0) (hQ : Q = (u * 4294967296 + u1) / Y) (hv : 2147483648 ≤ v1) (hr : r + q * v1 = u) (h : ¬ 4294967296 * r + u1 < q * v0) (hq : Q ≤ q) : Q = q := by
  subst hY; subst hQ; exact digit_end u q v1 v0 u1 r hv hr h hq
theorem breakL {u q v1 v0 u1 r Y Q : Nat} (hY : Y = v1 * 4294967296 + v0) (hQ : Q = (u * 4294967296 + u1) / Y) (hv : 2147483648 ≤ v1) (hv0 : v0 < 4294967296) (hr : r + q * v1 = u) (h : 4294967296 ≤ r) (hq2 : q ≤ 4294967296) (hq : Q ≤ q) : Q = q := by
  subst hY; subst hQ; exact digit_break u q v1 v0 u1 r hv hv0 hr h hq2 hq
theorem startL {u v1 v0 u1 Y : Nat} (hY : Y = v1 * 4294967296 + v0) (hv : 2147483648 ≤ v1) (hv1 : v1 < 4294967296) (hv0 : v0 < 4294967296) (hu : u < Y) (hu1 : u1 < 4294967296) :
    ∃ Q q r : Nat, Q = (u * 4294967296 + u1) / Y ∧ Q < 4294967296 ∧ (u : Int) / (v1 : Int) = q ∧ IntKind.u64.wrap ((u : Int) - IntKind.u64.wrap ((q : Int) * (v1 : Int))) = r ∧ r + q * v1 = u ∧ r < 4294967296 ∧ Q ≤ q ∧ q ≤ 4294967297 := by
  subst hY
  obtain ⟨q, r, h1, h2, h3, h4, h5, h6⟩ := digit_start u v1 v0 u1 hv hv1 hv0 hu hu1
  exact ⟨_, q, r, rfl, knuth_small u _ u1 hu hu1, h1, h2, h3, h4, h5, h6⟩

theorem rem_wrap (u u1 Y Q : Nat) (hY : Y < 18446744073709551616) (hY0 : 0 < Y) (hQ : Q = (u * 4294967296 + u1) / Y) :
    IntKind.u64.wrap (IntKind.u64.wrap (IntKind.u64.wrap ((u : Int) * 4294967296) + (u1 : Int)) - IntKind.u64.wrap ((Q : Int) * (Y : Int))) = (((u * 4294967296 + u1) % Y : Nat) : Int) := by
  have h1 := Nat.div_add_mod' (u * 4294967296 + u1) Y
  have h2 := Nat.mod_lt (u * 4294967296 + u1) hY0
  rw [← hQ] at h1
  rw [← Int.natCast_mul]
  generalize Q * Y = P at *
  generalize (u * 4294967296 + u1) % Y = R at *
  rw [IntKind.wrap_u64, IntKind.wrap_u64, IntKind.wrap_u64, IntKind.wrap_u64]
  omega
theorem whole_div (hi lo y s Y u32 u1 u0 Q u21 Q2 r2 : Nat) (hY : Y = y * 2 ^ s) (hY0 : 0 < Y) (hU : (hi * 18446744073709551616 + lo) * 2 ^ s = (u32 * 4294967296 + u1) * 4294967296 + u0)
    (hQ : Q = (u32 * 4294967296 + u1) / Y) (h21 : u21 = (u32 * 4294967296 + u1) % Y) (hQ2 : Q2 = (u21 * 4294967296 + u0) / Y) (hr2 : r2 = (u21 * 4294967296 + u0) % Y) :
    Q * 4294967296 + Q2 = (hi * 18446744073709551616 + lo) / y ∧ r2 / 2 ^ s = (hi * 18446744073709551616 + lo) % y := by
  have hp : 0 < 2 ^ s := Nat.two_pow_pos s
  obtain ⟨h1, h2⟩ := long_div (u32 * 4294967296 + u1) u0 Y hY0
  rw [← hU] at h1 h2
  rw [← hQ, ← h21, ← hQ2] at h1
  rw [← h21, ← hr2] at h2
  rw [hY, Nat.mul_div_mul_right _ _ hp] at h1
  rw [hY, Nat.mul_mod_mul_right] at h2
  refine ⟨h1.symm, ?_⟩
  rw [← h2, Nat.mul_div_cancel _ hp]

set_option maxRecDepth 20000 in
set_option maxHeartbeats 1000000 in
theorem div_some (hi lo y : Nat) (hlo : lo < 18446744073709551616) (hy : y < 18446744073709551616) (h0 : 0 < hi) (hlt : hi < y) (w : World) :
    Calls Tryd.prog 108 #[.int .u64 hi, .int .u64 lo, .int .u64 y] w fun e w' => e = .returned (.tuple #[.int .u64 ((hi * 18446744073709551616 + lo) / y : Nat), .int .u64 ((hi * 18446744073709551616 + lo) % y : Nat)]) ∧ w' = w := by
  have h1 : ((y : Int) == 0) = false := by simp; omega
  have h2 : ¬ (y : Int) ≤ hi := by omega
  have h3 : ((hi : Int) == 0) = false := by simp; omega
  obtain ⟨s, Y, v1, v0, u32, u10, u1, u0, hs, hs63, eY, ev1, ev0, eu32, eu10, eu1, eu0, hY, hv0, hv1, hv1b, hu32, hu1, hu0, hYs, hU⟩ := knuth_setup hi lo y hlo hy hlt
  have hn1 : ¬ (v1 : Int) = 0 := by omega
  have hYb : Y < 18446744073709551616 := by omega
  obtain ⟨Q, q0, r0, hQ, hsm, eq0, er0, hr0, hr0b, hQ0, hq0b⟩ := startL (u := u32) (u1 := u1) hY hv1 hv1b hv0 hu32 hu1
  have HY : Hid (Y = v1 * 4294967296 + v0) := hY
  have HYs : Hid (Y = y * 2 ^ s) := hYs
  have HU : Hid ((hi * 18446744073709551616 + lo) * 2 ^ s = (u32 * 4294967296 + u1) * 4294967296 + u0) := hU
  have HS : Hid (∃ q r : Nat, (u32 : Int) / (v1 : Int) = q ∧ IntKind.u64.wrap ((u32 : Int) - IntKind.u64.wrap ((u32 : Int) / (v1 : Int) * (v1 : Int))) = r ∧ Q ≤ q ∧ q ≤ 4294967297 ∧ r + q * v1 = u32 ∧ r < 4294967296) := ⟨q0, r0, eq0, by rw [eq0]; exact er0, hQ0, hq0b, hr0, hr0b⟩
  have HQ : Hid (Q = (u32 * 4294967296 + u1) / Y) := hQ
  have Hsm : Hid (Q < 4294967296) := hsm
  have HB : Hid (2147483648 ≤ v1 ∧ v0 < 4294967296 ∧ v1 < 4294967296 ∧ u32 < Y ∧ u1 < 4294967296 ∧ u0 < 4294967296 ∧ Y < 18446744073709551616) := ⟨hv1, hv0, hv1b, hu32, hu1, hu0, hYb⟩
  obtain ⟨YI, eYI⟩ : ∃ V : Int, (Y : Int) = V := ⟨_, rfl⟩
  obtain ⟨V1, eV1⟩ : ∃ V : Int, (v1 : Int) = V := ⟨_, rfl⟩
  obtain ⟨V0, eV0⟩ : ∃ V : Int, (v0 : Int) = V := ⟨_, rfl⟩
  obtain ⟨U32, eU32⟩ : ∃ V : Int, (u32 : Int) = V := ⟨_, rfl⟩
  obtain ⟨U10, eU10⟩ : ∃ V : Int, (u10 : Int) = V := ⟨_, rfl⟩
  obtain ⟨U1, eU1⟩ : ∃ V : Int, (u1 : Int) = V := ⟨_, rfl⟩
  obtain ⟨U0, eU0⟩ : ∃ V : Int, (u0 : Int) = V := ⟨_, rfl⟩
  obtain ⟨QI, eQI⟩ : ∃ V : Int, (Q : Int) = V := ⟨_, rfl⟩
  have bV1 : 2147483648 ≤ V1 ∧ V1 < 4294967296 := by omega
  have bV0 : 0 ≤ V0 ∧ V0 < 4294967296 := by omega
  have bU32 : 0 ≤ U32 ∧ U32 < YI := by omega
  have bYI : 0 ≤ YI ∧ YI < 18446744073709551616 := by omega
  have bU1 : 0 ≤ U1 ∧ U1 < 4294967296 := by omega
  have bU0 : 0 ≤ U0 ∧ U0 < 4294967296 := by omega
  have bQ : 0 ≤ QI ∧ QI < 4294967296 := by omega
  have hn2 : ¬ V1 = 0 := by omega
  rw [eYI] at eY ev1 ev0
  rw [eV1] at ev1 HS
  rw [eV0] at ev0
  rw [eU32] at eu32 HS
  rw [eU10] at eu10 eu1 eu0
  rw [eU1] at eu1
  rw [eU0] at eu0
  have HV1 : Hid ((v1 : Int) = V1) := eV1
  have HQI : Hid ((Q : Int) = QI) := eQI
  have HE : Hid ((Y : Int) = YI ∧ (v1 : Int) = V1 ∧ (v0 : Int) = V0 ∧ (u32 : Int) = U32 ∧ (u1 : Int) = U1 ∧ (u0 : Int) = U0 ∧ (Q : Int) = QI) := ⟨eYI, eV1, eV0, eU32, eU1, eU0, eQI⟩
  clear hY hYs hU hr0 hQ hsm hr0b hQ0 hq0b hn1 hYb hv0 hv1 hv1b hu32 hu1 hu0 eYI eV1 eV0 eU32 eU10 eU1 eU0 eQI eq0 er0
  go_enter Tryd.func108, Tryd.ntmps108
  go_upto_block 0 with (go_at_call 124; refine (lz_any y hy _).mono ?_; rintro e w' ⟨rfl, hw⟩; obtain rfl := hw.symm; rw [hs])
  clear eY ev1 ev0 eu32 eu10 eu1 eu0
  go_cut [15, 16] (fun q r wx => q = .int .u64 QI ∧ (∃ z, r = .int .u64 z) ∧ w = wx)
  case first =>
    go_wp2_with fail
    go_loopw [15, 16] (fun va vb wx => ∃ x z : Int, va = .int .u64 x ∧ vb = .int .u64 z ∧ Hid (∃ q r : Nat, x = q ∧ z = r ∧ Q ≤ q ∧ q ≤ 4294967297 ∧ r + q * v1 = u32 ∧ r < 4294967296) ∧ w = wx) (fun va _ _ => (intOf va).natAbs)
    case atStart => exact ⟨_, _, rfl, rfl, HS, by trivial⟩
    case round =>
      obtain ⟨x, z, rfl, rfl, HRq, rfl⟩ := hrel
      have hx0 : 0 ≤ x := by obtain ⟨q, r, e1, e2, _⟩ := HRq.out; omega
      have hz0 : 0 ≤ z := by obtain ⟨q, r, e1, e2, _⟩ := HRq.out; omega
      have hx1 : x ≤ 4294967297 := by obtain ⟨q, r, e1, e2, _, h, _⟩ := HRq.out; omega
      have hz1 : z < 4294967296 := by obtain ⟨q, r, e1, e2, _, _, _, h⟩ := HRq.out; omega
      have HD : Hid ((4294967296 ≤ x ∨ ∃ q : Nat, x = q ∧ 4294967296 * z + U1 < ((q * v0 : Nat) : Int)) → ∃ q r : Nat, x - 1 = q ∧ z + V1 = r ∧ Q ≤ q ∧ q ≤ 4294967296 ∧ r + q * v1 = u32) := by
        intro hor
        obtain ⟨q, r, rfl, rfl, h1, h2, h3, h4⟩ := HRq.out
        have hor2 : 4294967296 ≤ q ∨ 4294967296 * r + u1 < q * v0 := by
          rcases hor with h | ⟨q', e, h⟩
          · left; omega
          · right
            obtain rfl : q = q' := by omega
            have := HE.out
            omega
        have hp : 1 ≤ q := by
          rcases hor2 with h | h
          · omega
          · rcases Nat.eq_zero_or_pos q with e | e
            · subst e; simp at h
            · exact e
        obtain ⟨k1, k2⟩ := goL HY.out HQ.out HB.out.1 h3 hor2 Hsm.out h1
        exact ⟨q - 1, r + v1, by omega, by rw [← HV1.out]; omega, k1, by omega, k2⟩
      by_cases hx : 4294967296 ≤ x
      · go_wp2
        · go_meet
          refine ⟨?_, ⟨_, rfl⟩, rfl⟩
          obtain ⟨q, r, e1, e2, k1, k2, k3⟩ := HD.out (.inl hx)
          rw [e1, ← breakL HY.out HQ.out HB.out.1 HB.out.2.1 k3 (by omega) k2 k1, HQI.out]
        · go_roundw
          case rel =>
            obtain ⟨q, r, e1, e2, k1, k2, k3⟩ := HD.out (.inl hx)
            exact ⟨_, _, rfl, rfl, ⟨q, r, e1, e2, k1, by omega, k3, by omega⟩, by trivial⟩
          case measure => simp [intOf]; omega
      · have HM : Hid (∃ q : Nat, x = q ∧ IntKind.u64.wrap (x * V0) = ((q * v0 : Nat) : Int)) := by
          obtain ⟨q, r, rfl, rfl, _⟩ := HRq.out
          refine ⟨q, rfl, ?_⟩
          rw [← HE.out.2.2.1]
          exact q_v0 q v0 (by omega) HB.out.2.1
        obtain ⟨M, hM⟩ : ∃ M, IntKind.u64.wrap (x * V0) = M := ⟨_, rfl⟩
        rw [hM] at HM
        by_cases hgt : 4294967296 * z + U1 < M
        · have HP := HD.out (.inr (by obtain ⟨q, e, h⟩ := HM.out; exact ⟨q, e, by omega⟩))
          have HP : Hid (∃ q r : Nat, x - 1 = q ∧ z + V1 = r ∧ Q ≤ q ∧ q ≤ 4294967296 ∧ r + q * v1 = u32) := HP
          have hx2 : 1 ≤ x := by obtain ⟨q, r, e1, _⟩ := HP.out; omega
          go_wp2
          · go_meet
            refine ⟨?_, ⟨_, rfl⟩, rfl⟩
            obtain ⟨q, r, e1, e2, k1, k2, k3⟩ := HP.out
            rw [e1, ← breakL HY.out HQ.out HB.out.1 HB.out.2.1 k3 (by omega) k2 k1, HQI.out]
          · go_roundw
            case rel =>
              obtain ⟨q, r, e1, e2, k1, k2, k3⟩ := HP.out
              exact ⟨_, _, rfl, rfl, ⟨q, r, e1, e2, k1, by omega, k3, by omega⟩, by trivial⟩
            case measure => simp [intOf]; omega
        · go_wp2
          go_meet
          refine ⟨?_, ⟨_, rfl⟩, rfl⟩
          obtain ⟨q, r, rfl, rfl, h1, h2, h3, h4⟩ := HRq.out
          have hE := HE.out
          obtain ⟨q', e, hm⟩ := HM.out
          obtain rfl : q = q' := by omega
          rw [← endL HY.out HQ.out HB.out.1 h3 (by omega) h1, HQI.out]
  case rest =>
    obtain ⟨rfl, ⟨z, rfl⟩, rfl⟩ := hcut
    clear HS
    have hY0 : Hid (0 < Y) := (by have := HB.out; omega : 0 < Y)
    obtain ⟨u21, h21⟩ : ∃ v, v = (u32 * 4294967296 + u1) % Y := ⟨_, rfl⟩
    have hl21 : u21 < Y := by rw [h21]; exact Nat.mod_lt _ hY0.out
    have e21 := rem_wrap u32 u1 Y Q HB.out.2.2.2.2.2.2 hY0.out HQ.out
    rw [← h21] at e21
    obtain ⟨Q2, q0, r0, hQ2, hsm2, eq0, er0, hr0, hr0b, hQ0, hq0b⟩ := startL (u := u21) (u1 := u0) HY.out HB.out.1 HB.out.2.2.1 HB.out.2.1 hl21 HB.out.2.2.2.2.2.1
    have HS2 : Hid (∃ q r : Nat, (u21 : Int) / (v1 : Int) = q ∧ IntKind.u64.wrap ((u21 : Int) - IntKind.u64.wrap ((u21 : Int) / (v1 : Int) * (v1 : Int))) = r ∧ Q2 ≤ q ∧ q ≤ 4294967297 ∧ r + q * v1 = u21 ∧ r < 4294967296) := ⟨q0, r0, eq0, by rw [eq0]; exact er0, hQ0, hq0b, hr0, hr0b⟩
    have eR := rem_wrap u21 u0 Y Q2 HB.out.2.2.2.2.2.2 hY0.out hQ2
    obtain ⟨r2, hr2⟩ : ∃ v, v = (u21 * 4294967296 + u0) % Y := ⟨_, rfl⟩
    rw [← hr2] at eR
    have HW := whole_div hi lo y s Y u32 u1 u0 Q u21 Q2 r2 HYs.out hY0.out HU.out HQ.out h21 hQ2 hr2
    have HW : Hid (Q * 4294967296 + Q2 = (hi * 18446744073709551616 + lo) / y ∧ r2 / 2 ^ s = (hi * 18446744073709551616 + lo) % y) := HW
    have HQ2 : Hid (Q2 = (u21 * 4294967296 + u0) / Y) := hQ2
    have Hsm2 : Hid (Q2 < 4294967296) := hsm2
    obtain ⟨U21, eU21⟩ : ∃ V : Int, (u21 : Int) = V := ⟨_, rfl⟩
    obtain ⟨Q2I, eQ2I⟩ : ∃ V : Int, (Q2 : Int) = V := ⟨_, rfl⟩
    obtain ⟨R2, eR2⟩ : ∃ V : Int, (r2 : Int) = V := ⟨_, rfl⟩
    obtain ⟨eYI, eV1, eV0, eU32, eU1, eU0, eQI⟩ := HE.out
    rw [eU32, eU1, eQI, eYI, eU21] at e21
    rw [eU21, eU0, eQ2I, eYI, eR2] at eR
    rw [eU21, eV1] at HS2
    have bU21 : 0 ≤ U21 ∧ U21 < YI := by omega
    have bQ2 : 0 ≤ Q2I ∧ Q2I < 4294967296 := by have := Hsm2.out; omega
    have hl2 : r2 < Y := by rw [hr2]; exact Nat.mod_lt _ hY0.out
    have bR2 : 0 ≤ R2 ∧ R2 < YI := by rw [← eR2, ← eYI]; omega
    have HQ2I : Hid ((Q2 : Int) = Q2I) := eQ2I
    have HR2 : Hid ((r2 : Int) = R2) := eR2
    clear h21 hl21 hQ2 hsm2 eq0 er0 hr0 hr0b hQ0 hq0b hr2 eU21 eQ2I eR2 eYI eV1 eV0 eU32 eU1 eU0 eQI hl2
    go_upto_block 2 with fail
    clear e21
    go_cut [18, 16] (fun q r wx => q = .int .u64 Q2I ∧ (∃ z, r = .int .u64 z) ∧ w = wx)
    case first =>
      go_wp2_with fail
      go_loopw [18, 16] (fun va vb wx => ∃ x z : Int, va = .int .u64 x ∧ vb = .int .u64 z ∧ Hid (∃ q r : Nat, x = q ∧ z = r ∧ Q2 ≤ q ∧ q ≤ 4294967297 ∧ r + q * v1 = u21 ∧ r < 4294967296) ∧ w = wx) (fun va _ _ => (intOf va).natAbs)
      case atStart => exact ⟨_, _, rfl, rfl, HS2, by trivial⟩
      case round =>
        obtain ⟨x, z, rfl, rfl, HRq, rfl⟩ := hrel
        have hx0 : 0 ≤ x := by obtain ⟨q, r, e1, e2, _⟩ := HRq.out; omega
        have hz0 : 0 ≤ z := by obtain ⟨q, r, e1, e2, _⟩ := HRq.out; omega
        have hx1 : x ≤ 4294967297 := by obtain ⟨q, r, e1, e2, _, h, _⟩ := HRq.out; omega
        have hz1 : z < 4294967296 := by obtain ⟨q, r, e1, e2, _, _, _, h⟩ := HRq.out; omega
        have HD : Hid ((4294967296 ≤ x ∨ ∃ q : Nat, x = q ∧ 4294967296 * z + U0 < ((q * v0 : Nat) : Int)) → ∃ q r : Nat, x - 1 = q ∧ z + V1 = r ∧ Q2 ≤ q ∧ q ≤ 4294967296 ∧ r + q * v1 = u21) := by
          intro hor
          obtain ⟨q, r, rfl, rfl, h1, h2, h3, h4⟩ := HRq.out
          have hor2 : 4294967296 ≤ q ∨ 4294967296 * r + u0 < q * v0 := by
            rcases hor with h | ⟨q', e, h⟩
            · left; omega
            · right
              obtain rfl : q = q' := by omega
              have := HE.out
              omega
          have hp : 1 ≤ q := by
            rcases hor2 with h | h
            · omega
            · rcases Nat.eq_zero_or_pos q with e | e
              · subst e; simp at h
              · exact e
          obtain ⟨k1, k2⟩ := goL HY.out HQ2.out HB.out.1 h3 hor2 Hsm2.out h1
          exact ⟨q - 1, r + v1, by omega, by rw [← HV1.out]; omega, k1, by omega, k2⟩
        by_cases hx : 4294967296 ≤ x
        · go_wp2
          · go_meet
            refine ⟨?_, ⟨_, rfl⟩, rfl⟩
            obtain ⟨q, r, e1, e2, k1, k2, k3⟩ := HD.out (.inl hx)
            rw [e1, ← breakL HY.out HQ2.out HB.out.1 HB.out.2.1 k3 (by omega) k2 k1, HQ2I.out]
          · go_roundw
            case rel =>
              obtain ⟨q, r, e1, e2, k1, k2, k3⟩ := HD.out (.inl hx)
              exact ⟨_, _, rfl, rfl, ⟨q, r, e1, e2, k1, by omega, k3, by omega⟩, by trivial⟩
            case measure => simp [intOf]; omega
        · have HM : Hid (∃ q : Nat, x = q ∧ IntKind.u64.wrap (x * V0) = ((q * v0 : Nat) : Int)) := by
            obtain ⟨q, r, rfl, rfl, _⟩ := HRq.out
            refine ⟨q, rfl, ?_⟩
            rw [← HE.out.2.2.1]
            exact q_v0 q v0 (by omega) HB.out.2.1
          obtain ⟨M, hM⟩ : ∃ M, IntKind.u64.wrap (x * V0) = M := ⟨_, rfl⟩
          rw [hM] at HM
          by_cases hgt : 4294967296 * z + U0 < M
          · have HP := HD.out (.inr (by obtain ⟨q, e, h⟩ := HM.out; exact ⟨q, e, by omega⟩))
            have HP : Hid (∃ q r : Nat, x - 1 = q ∧ z + V1 = r ∧ Q2 ≤ q ∧ q ≤ 4294967296 ∧ r + q * v1 = u21) := HP
            have hx2 : 1 ≤ x := by obtain ⟨q, r, e1, _⟩ := HP.out; omega
            go_wp2
            · go_meet
              refine ⟨?_, ⟨_, rfl⟩, rfl⟩
              obtain ⟨q, r, e1, e2, k1, k2, k3⟩ := HP.out
              rw [e1, ← breakL HY.out HQ2.out HB.out.1 HB.out.2.1 k3 (by omega) k2 k1, HQ2I.out]
            · go_roundw
              case rel =>
                obtain ⟨q, r, e1, e2, k1, k2, k3⟩ := HP.out
                exact ⟨_, _, rfl, rfl, ⟨q, r, e1, e2, k1, by omega, k3, by omega⟩, by trivial⟩
              case measure => simp [intOf]; omega
          · go_wp2
            go_meet
            refine ⟨?_, ⟨_, rfl⟩, rfl⟩
            obtain ⟨q, r, rfl, rfl, h1, h2, h3, h4⟩ := HRq.out
            have hE := HE.out
            obtain ⟨q', e, hm⟩ := HM.out
            obtain rfl : q = q' := by omega
            rw [← endL HY.out HQ2.out HB.out.1 h3 (by omega) h1, HQ2I.out]
    case rest =>
      obtain ⟨rfl, ⟨z2, rfl⟩, rfl⟩ := hcut
      go_wp2
      go_ret2
      obtain ⟨e1, e2⟩ := HW.out
      refine ⟨ret_two ?_ ?_, rfl⟩
      · rw [← e1, ← HQI.out, ← HQ2I.out]; simp
      · rw [← e2, ← HR2.out]; simp

theorem div_any (hi lo y : Nat) (hlo : lo < 18446744073709551616) (hy : y < 18446744073709551616) (hlt : hi < y) (w : World) :
    Calls Tryd.prog 108 #[.int .u64 hi, .int .u64 lo, .int .u64 y] w fun e w' => e = .returned (.tuple #[.int .u64 ((hi * 18446744073709551616 + lo) / y : Nat), .int .u64 ((hi * 18446744073709551616 + lo) % y : Nat)]) ∧ Below w.heap.size w w' := by
  rcases Nat.eq_zero_or_pos hi with rfl | h0
  · have := div_zero lo y hlo hy hlt w
    rw [Nat.zero_mul, Nat.zero_add]
    exact this
  · exact (div_some hi lo y hlo hy h0 hlt w).mono fun e w' ⟨h1, h2⟩ => ⟨h1, h2 ▸ Below.refl _ _⟩
end Go.Proofs.YtmofjkfghidlnaaDoor

/- Contracts of package ratio's products, quotients and rests of 128 bits. -/
namespace Go.Proofs.YtmofjkfghidlnaaDoor
open Go.RowKit Go.Shelf
attribute [local go_sem] Oper.semAt_some

/-- A number without its sign. -/
def sz (k : Int) : Int := (k.natAbs : Int)
theorem sz_range (k : Int) (h : -9223372036854775808 ≤ k ∧ k ≤ 9223372036854775807) : 0 ≤ sz k ∧ sz k ≤ 9223372036854775808 := by unfold sz; omega
theorem size_i (k : Int) (h : -9223372036854775808 ≤ k ∧ k ≤ 9223372036854775807) (w : World) :
    Calls Tryd.prog 60 #[.int .i64 k] w fun e w' => e = .returned (.int .u64 (sz k)) ∧ w' = w := size_any k h.1 h.2 w
theorem mul_i (x y : Int) (hx : 0 ≤ x ∧ x < 18446744073709551616) (hy : 0 ≤ y ∧ y < 18446744073709551616) (w : World) : Calls Tryd.prog 71 #[.int .u64 x, .int .u64 y] w fun e w' => e = .returned (.tuple #[.int .u64 (hiZ (x * y)), .int .u64 (loZ (x * y))]) ∧ w' = w := by
  obtain ⟨a, rfl⟩ := Int.eq_ofNat_of_zero_le hx.1
  obtain ⟨b, rfl⟩ := Int.eq_ofNat_of_zero_le hy.1
  have h := Any.bits_Mul64 lay264 a b (by omega) (by omega) w
  have hp : a * b ≤ 18446744073709551615 * 18446744073709551615 := Nat.mul_le_mul (by omega) (by omega)
  rw [← Int.natCast_mul, show hiZ ((a * b : Nat) : Int) = ((a * b / 18446744073709551616 : Nat) : Int) by unfold hiZ; generalize a * b = p at *; omega, show loZ ((a * b : Nat) : Int) = ((a * b % 18446744073709551616 : Nat) : Int) by unfold loZ; omega]
  exact h
theorem div_i (hi lo y : Int) (hh : 0 ≤ hi ∧ hi < y) (hl : 0 ≤ lo ∧ lo < 18446744073709551616) (hy : y < 18446744073709551616) (w : World) :
    Calls Tryd.prog 108 #[.int .u64 hi, .int .u64 lo, .int .u64 y] w fun e w' => e = .returned (.tuple #[.int .u64 ((hi * 18446744073709551616 + lo) / y), .int .u64 ((hi * 18446744073709551616 + lo) % y)]) ∧ Below w.heap.size w w' := by
  obtain ⟨a, rfl⟩ := Int.eq_ofNat_of_zero_le hh.1
  obtain ⟨b, rfl⟩ := Int.eq_ofNat_of_zero_le hl.1
  obtain ⟨c, rfl⟩ := Int.eq_ofNat_of_zero_le (show 0 ≤ y by omega)
  have h := div_any a b c (by omega) (by omega) (by omega) w
  have e : (a : Int) * 18446744073709551616 + (b : Int) = ((a * 18446744073709551616 + b : Nat) : Int) := by omega
  rw [e, ← Int.natCast_ediv, ← Int.natCast_emod]
  exact h
theorem divisor_i (x y : Int) (hx : 0 ≤ x ∧ x < 18446744073709551616) (hy : 0 ≤ y ∧ y < 18446744073709551616) (w : World) :
    Calls Tryd.prog 65 #[.int .u64 x, .int .u64 y] w fun e w' => e = .returned (.int .u64 (x.toNat.gcd y.toNat : Nat)) ∧ Below w.heap.size w w' := by
  obtain ⟨a, rfl⟩ := Int.eq_ofNat_of_zero_le hx.1
  obtain ⟨b, rfl⟩ := Int.eq_ofNat_of_zero_le hy.1
  exact divisor_any a b (by omega) (by omega) w

theorem sz_mul_same (a b : Int) (h : (decide (a < 0) != decide (b < 0)) = false) : sz a * sz b = a * b := by
  unfold sz
  by_cases ha : a < 0 <;> by_cases hb : b < 0 <;> simp [ha, hb] at h
  · rw [show (a.natAbs : Int) = -a by omega, show (b.natAbs : Int) = -b by omega, Int.neg_mul_neg]
  · rw [show (a.natAbs : Int) = a by omega, show (b.natAbs : Int) = b by omega]
theorem sz_mul_other (a b : Int) (h : (decide (a < 0) != decide (b < 0)) = true) : -(sz a * sz b) = a * b := by
  unfold sz
  by_cases ha : a < 0 <;> by_cases hb : b < 0 <;> simp [ha, hb] at h
  · rw [show (a.natAbs : Int) = -a by omega, show (b.natAbs : Int) = b by omega, Int.neg_mul, Int.neg_neg]
  · rw [show (a.natAbs : Int) = a by omega, show (b.natAbs : Int) = -b by omega, Int.mul_neg, Int.neg_neg]

set_option maxHeartbeats 400000 in
theorem product_any (a b : Int) (ha : -9223372036854775808 ≤ a ∧ a ≤ 9223372036854775807) (hb : -9223372036854775808 ≤ b ∧ b ≤ 9223372036854775807) (w : World) :
    Calls Tryd.prog 67 #[.int .i64 a, .int .i64 b] w fun e w' => e = .returned (wv (a * b)) ∧ Below w.heap.size w w' := by
  have ra := sz_range a ha
  have rb := sz_range b hb
  go_enter Tryd.func67, Tryd.ntmps67
  go_wp2_with fail
  go_at_call 60
  refine (size_i a ha _).mono ?_
  rintro e w1 ⟨rfl, hw⟩
  obtain rfl := hw.symm
  go_wp2_with fail
  go_at_call 60
  refine (size_i b hb _).mono ?_
  rintro e w1 ⟨rfl, hw⟩
  obtain rfl := hw.symm
  go_wp2_with fail
  go_at_call 71
  refine (mul_i (sz a) (sz b) (by omega) (by omega) _).mono ?_
  rintro e w1 ⟨rfl, hw⟩
  obtain rfl := hw.symm
  go_wp2_with fail
  · rename_i h _ _ _ _ 
    have hm : -(sz a * sz b) = a * b := sz_mul_other a b (by simpa [bne] using h)
    go_at_call 58
    refine (negative_any (sz a * sz b) _).mono ?_
    rintro e w2 ⟨rfl, b2⟩
    rw [hm]
    obtain ⟨hc, hf⟩ := bcell b2
    simp only [wv]
    go_wp2_with fail
    exact bodyPost_ret (v := wv (a * b)) (by simp [results, Tryd.results67, go_sem, hc, wv]) rfl ⟨rfl, ((bup (bel1 _ _) b2).setCell (by simp) _).setCell (by simp) _⟩
  · rename_i h
    have hm : sz a * sz b = a * b := sz_mul_same a b (by simpa [bne] using h)
    rw [hm]
    exact bodyPost_ret (v := wv (a * b)) (by simp [results, Tryd.results67, go_sem, wv]) rfl ⟨rfl, bel1 _ _⟩

theorem floor_pos (a d : Int) (h0 : 0 ≤ a) (h1 : a < 170141183460469231731687303715884105728) (hd : 0 < d) (hd2 : d < 18446744073709551616) (w : World) :
    Calls Tryd.prog 90 #[wv a, .int .u64 d] w fun e w' => e = .returned (wv (a / d)) ∧ Below w.heap.size w w' := by
  have hh : 0 ≤ hiZ a ∧ hiZ a < 9223372036854775808 := by unfold hiZ; omega
  have hl := loZ_range a
  have hn : ¬ d = 0 := by omega
  have m0 := Int.emod_nonneg (hiZ a) hn
  have m1 := Int.emod_lt_of_pos (hiZ a) hd
  obtain ⟨e1, e2⟩ := floor_halves a d h0 h1 hd hd2
  have tm : (hiZ a).tmod d = hiZ a % d := Int.tmod_eq_emod_of_nonneg hh.1
  have H2 : Hid ((hiZ a % d * 18446744073709551616 + loZ a) / d = loZ (a / d)) := e2
  clear e2
  unfold wv
  go_enter Tryd.func90, Tryd.ntmps90
  go_wp2_with fail
  go_region_with (go_at_call 108; refine (div_i (hiZ a % d) (loZ a) d ⟨m0, m1⟩ hl hd2 _).mono ?_; rintro e w1 ⟨rfl, b1⟩; rw [H2.out])
  all_goals (obtain ⟨hc, hf⟩ := bcell b1)
  all_goals go_wp2_with fail
  all_goals exact bodyPost_ret (v := .agg #[.int .u64 (hiZ (a / d)), .int .u64 (loZ (a / d))]) (by simp [results, Tryd.results90, go_sem, hc]) rfl ⟨rfl, ((bup (bel2 _ _ _).drew b1).setCell (by simp) _).setCell (by simp) _⟩

theorem floor_neg (a d : Int) (h0 : -170141183460469231731687303715884105728 ≤ a) (h1 : a < 0) (hd : 0 < d) (hd2 : d < 18446744073709551616) (w : World) :
    Calls Tryd.prog 90 #[wv a, .int .u64 d] w fun e w' => e = .returned (wv (a / d)) ∧ Below w.heap.size w w' := by
  have hh : wrap64 (hiZ a) < 0 := by unfold wrap64 hiZ; omega
  have hl := loZ_range a
  have H2 : Hid (-1 - (-1 - a) / d = a / d) := floor_flip a d hd
  have hb : -1 - a < 170141183460469231731687303715884105728 := by omega
  unfold wv
  go_enter Tryd.func90, Tryd.ntmps90
  go_wp2_with fail
  go_at_call 88
  refine (flip_any a _).mono ?_
  rintro e w1 ⟨rfl, b1⟩
  go_wp2_with fail
  go_at_call 90
  refine (floor_pos (-1 - a) d (by omega) hb hd hd2 _).mono ?_
  rintro e w2 ⟨rfl, b2⟩
  go_wp2_with fail
  go_at_call 88
  refine (flip_any ((-1 - a) / d) _).mono ?_
  rintro e w3 ⟨rfl, b3⟩
  rw [H2.out]
  have BB := bup (bup b1 b2) b3
  obtain ⟨hc, hf⟩ := bcell BB
  clear b1 b2 b3
  simp only [wv]
  go_wp2_with fail
  exact bodyPost_ret (v := .agg #[.int .u64 (hiZ (a / d)), .int .u64 (loZ (a / d))]) (by simp [results, Tryd.results90, go_sem, hc]) rfl ⟨rfl, ((bup (bel2 _ _ _) BB).setCell (by simp) _).setCell (by simp) _⟩

/-- Between the least and the greatest number of 128 bits. -/
def In128 (a : Int) : Prop := -170141183460469231731687303715884105728 ≤ a ∧ a < 170141183460469231731687303715884105728

theorem floor_any (a d : Int) (h : In128 a) (hd : 0 < d) (hd2 : d < 18446744073709551616) (w : World) :
    Calls Tryd.prog 90 #[wv a, .int .u64 d] w fun e w' => e = .returned (wv (a / d)) ∧ Below w.heap.size w w' := by
  by_cases h0 : 0 ≤ a
  · exact floor_pos a d h0 h.2 hd hd2 w
  · exact floor_neg a d h.1 (by omega) hd hd2 w
theorem In128.floor {a d : Int} (h : In128 a) (hd : 0 < d) : In128 (a / d) := floor_bounds a d hd h.1 h.2

theorem hideR {P : Prop} (h : P) : Hid P := h
end Go.Proofs.YtmofjkfghidlnaaDoor

/- Contracts of package ratio: rests, narrowed numbers, comparison, lowest terms. -/
namespace Go.Proofs.YtmofjkfghidlnaaDoor
open Go.RowKit Go.Shelf
attribute [local go_sem] Oper.semAt_some

set_option maxRecDepth 100000 in
set_option maxHeartbeats 1000000 in
theorem rest_any (a d : Int) (h : In128 a) (hd : 0 < d) (hd2 : d < 18446744073709551616) (w : World) :
    Calls Tryd.prog 89 #[wv a, .int .u64 d] w fun e w' => e = .returned (.int .u64 (a % d)) ∧ Below w.heap.size w w' := by
  have H2 : Hid ((loZ a - loZ (a / d) * d % 18446744073709551616) % 18446744073709551616 = a % d) := rest_wraps a d hd hd2
  have HF := hideR (floor_any a d h hd hd2)
  unfold wv at HF ⊢
  generalize hiZ (a / d) = qh at HF
  generalize loZ (a / d) = ql at HF H2
  generalize hiZ a = ah at HF ⊢
  generalize loZ a = al at HF H2 ⊢
  generalize a % d = m at H2 ⊢
  clear hd hd2 h
  have hfld : ∀ w, Sem.run Tryd.prog (Instr.field 70 (Value.agg #[.int .u64 qh, .int .u64 ql]) 1) w = Result.ok (.int .u64 ql) w := fun _ => by kernel_rfl
  go_enter Tryd.func89, Tryd.ntmps89
  go_wp2_with fail
  have c0 : (w.alloc (.cells #[.int .u64 ah, .int .u64 al] 70)).cell? ⟨w.heap.size, 0, none⟩ = some (.int .u64 ah) := by go_simp
  have c1 : (w.alloc (.cells #[.int .u64 ah, .int .u64 al] 70)).cell? ⟨w.heap.size, 1, none⟩ = some (.int .u64 al) := by go_simp
  have bV := bel1 w (.cells #[.int .u64 ah, .int .u64 al] 70)
  have hz : w.heap.size < (w.alloc (.cells #[.int .u64 ah, .int .u64 al] 70)).heap.size := by simp
  generalize w.alloc (.cells #[.int .u64 ah, .int .u64 al] 70) = V at *
  go_region_held3 (fun w' => w'.cell? ⟨w.heap.size, 0, none⟩ = some (.int .u64 ah) ∧ w'.cell? ⟨w.heap.size, 1, none⟩ = some (.int .u64 al)) (first | go_keep | assumption) (first | (go_at_call 90; refine (HF.out _).mono ?_; rintro e w1 ⟨rfl, b1⟩; have kk : w1.cell? ⟨w.heap.size, 0, none⟩ = some (.int .u64 ah) ∧ w1.cell? ⟨w.heap.size, 1, none⟩ = some (.int .u64 al) := ⟨(b1.cell (p := ⟨w.heap.size, 0, none⟩) hz).trans c0, (b1.cell (p := ⟨w.heap.size, 1, none⟩) hz).trans c1⟩))
  all_goals (try go_wp2_with fail)
  all_goals go_ret
  all_goals refine ⟨ret_int ?_, bup bV.drew b1⟩
  all_goals rw [IntKind.wrap_u64, IntKind.wrap_u64]
  all_goals exact H2.out

theorem wrap_lo (a : Int) (h : -9223372036854775808 ≤ a ∧ a ≤ 9223372036854775807) : wrap64 (loZ a) = a := by unfold wrap64 loZ; omega
theorem wrap_out (a : Int) (h : In128 a) (k : ¬ (-9223372036854775808 ≤ a ∧ a ≤ 9223372036854775807)) : (hiZ a == hiZ (wrap64 (loZ a))) = false := by
  have h0 := h.1
  have h1 := h.2
  simp only [beq_eq_false_iff_ne]
  unfold wrap64 hiZ loZ
  omega

set_option maxRecDepth 100000 in
set_option maxHeartbeats 1000000 in
theorem narrow_in (a : Int) (h : -9223372036854775808 ≤ a ∧ a ≤ 9223372036854775807) (w : World) :
    Calls Tryd.prog 91 #[wv a] w fun e w' => e = .returned (.tuple #[.int .i64 (if inNum a = true then a else 0), .bool (inNum a)]) ∧ Below w.heap.size w w' := by
  have hk := wrap_lo a h
  have hs := sz_range a h
  have hi : inNum a = decide (¬ 4611686018427387904 < sz a) := by unfold inNum sz; rw [decide_eq_decide]; omega
  rw [hi]
  clear hi
  unfold wv
  go_enter Tryd.func91, Tryd.ntmps91
  go_wp2_with fail
  have c0 : (w.alloc (.cells #[.int .u64 (hiZ a), .int .u64 (loZ a)] 70)).cell? ⟨w.heap.size, 0, none⟩ = some (.int .u64 (hiZ a)) := by go_simp
  have c1 : (w.alloc (.cells #[.int .u64 (hiZ a), .int .u64 (loZ a)] 70)).cell? ⟨w.heap.size, 1, none⟩ = some (.int .u64 (loZ a)) := by go_simp
  have bV := bel1 w (.cells #[.int .u64 (hiZ a), .int .u64 (loZ a)] 70)
  have hz : w.heap.size < (w.alloc (.cells #[.int .u64 (hiZ a), .int .u64 (loZ a)] 70)).heap.size := by simp
  generalize w.alloc (.cells #[.int .u64 (hiZ a), .int .u64 (loZ a)] 70) = V at *
  go_region_held3 (fun w' => w'.cell? ⟨w.heap.size, 0, none⟩ = some (.int .u64 (hiZ a)) ∧ w'.cell? ⟨w.heap.size, 1, none⟩ = some (.int .u64 (loZ a))) (first | go_keep | assumption) (first | (go_at_call 57; refine (widen_any a h.1 h.2 _).mono ?_; rintro e w1 ⟨rfl, b1⟩; simp only [wv]; have kk : w1.cell? ⟨w.heap.size, 0, none⟩ = some (.int .u64 (hiZ a)) ∧ w1.cell? ⟨w.heap.size, 1, none⟩ = some (.int .u64 (loZ a)) := ⟨(b1.cell (p := ⟨w.heap.size, 0, none⟩) hz).trans c0, (b1.cell (p := ⟨w.heap.size, 1, none⟩) hz).trans c1⟩) | (go_at_call 60; refine (size_i a h _).mono ?_; rintro e w2 ⟨rfl, hw⟩; obtain rfl := hw.symm))
  all_goals (try go_wp2_with fail)
  all_goals go_ret2
  all_goals exact ⟨rfl, bup bV.drew b1⟩

set_option maxRecDepth 100000 in
set_option maxHeartbeats 1000000 in
theorem narrow_out (a : Int) (h : In128 a) (ho : ¬ (-9223372036854775808 ≤ a ∧ a ≤ 9223372036854775807)) (w : World) :
    Calls Tryd.prog 91 #[wv a] w fun e w' => e = .returned (.tuple #[.int .i64 (if inNum a = true then a else 0), .bool (inNum a)]) ∧ Below w.heap.size w w' := by
  have hk := wrap_out a h ho
  have hr : -9223372036854775808 ≤ wrap64 (loZ a) ∧ wrap64 (loZ a) ≤ 9223372036854775807 := by unfold wrap64 loZ; omega
  have hi : inNum a = false := by unfold inNum; rw [decide_eq_false]; omega
  rw [hi]
  clear hi
  obtain ⟨k, ek⟩ : ∃ k, wrap64 (loZ a) = k := ⟨_, rfl⟩
  rw [ek] at hk hr
  have HW := hideR (widen_any k hr.1 hr.2)
  unfold wv at HW ⊢
  generalize hiZ k = kh at HW hk
  generalize loZ k = kl at HW
  clear h ho
  go_enter Tryd.func91, Tryd.ntmps91
  go_wp2_with fail
  have c0 : (w.alloc (.cells #[.int .u64 (hiZ a), .int .u64 (loZ a)] 70)).cell? ⟨w.heap.size, 0, none⟩ = some (.int .u64 (hiZ a)) := by go_simp
  have c1 : (w.alloc (.cells #[.int .u64 (hiZ a), .int .u64 (loZ a)] 70)).cell? ⟨w.heap.size, 1, none⟩ = some (.int .u64 (loZ a)) := by go_simp
  have bV := bel1 w (.cells #[.int .u64 (hiZ a), .int .u64 (loZ a)] 70)
  have hz : w.heap.size < (w.alloc (.cells #[.int .u64 (hiZ a), .int .u64 (loZ a)] 70)).heap.size := by simp
  generalize w.alloc (.cells #[.int .u64 (hiZ a), .int .u64 (loZ a)] 70) = V at *
  first | (go_region_held (fun w' => w'.cell? ⟨w.heap.size, 0, none⟩ = some (.int .u64 (hiZ a)) ∧ w'.cell? ⟨w.heap.size, 1, none⟩ = some (.int .u64 (loZ a))) (first | go_keep | assumption) (first | (go_at_call 57; refine (HW.out _).mono ?_; rintro e w1 ⟨rfl, b1⟩; have kk : w1.cell? ⟨w.heap.size, 0, none⟩ = some (.int .u64 (hiZ a)) ∧ w1.cell? ⟨w.heap.size, 1, none⟩ = some (.int .u64 (loZ a)) := ⟨(b1.cell (p := ⟨w.heap.size, 0, none⟩) hz).trans c0, (b1.cell (p := ⟨w.heap.size, 1, none⟩) hz).trans c1⟩))) | fail
  all_goals (try go_wp2_with fail)
  all_goals go_ret2
  all_goals exact ⟨rfl, bup bV.drew b1⟩

theorem narrow_any (a : Int) (h : In128 a) (w : World) :
    Calls Tryd.prog 91 #[wv a] w fun e w' => e = .returned (.tuple #[.int .i64 (if inNum a = true then a else 0), .bool (inNum a)]) ∧ Below w.heap.size w w' := by
  by_cases hi : -9223372036854775808 ≤ a ∧ a ≤ 9223372036854775807
  · exact narrow_in a hi w
  · exact narrow_out a h hi w

/-- -1, 0, 1. -/
def cmpZ (a b : Int) : Int := if a < b then -1 else if b < a then 1 else 0
theorem cmp64_any (a b : Int) (w : World) :
    Calls Tryd.prog 96 #[.int .i64 a, .int .i64 b] w fun e w' => e = .returned (.int .i64 (cmpZ a b)) ∧ w' = w := by
  go_enter Tryd.func96, Tryd.ntmps96
  go_wp2
  all_goals go_ret
  all_goals refine ⟨ret_int ?_, rfl⟩
  all_goals unfold cmpZ
  all_goals first | rw [if_pos (by omega)] | rw [if_neg (by omega), if_pos (by omega)] | rw [if_neg (by omega), if_neg (by omega)]
theorem cmpU_any (a b : Int) (w : World) :
    Calls Tryd.prog 97 #[.int .u64 a, .int .u64 b] w fun e w' => e = .returned (.int .i64 (cmpZ a b)) ∧ w' = w := by
  go_enter Tryd.func97, Tryd.ntmps97
  go_wp2
  all_goals go_ret
  all_goals refine ⟨ret_int ?_, rfl⟩
  all_goals unfold cmpZ
  all_goals first | rw [if_pos (by omega)] | rw [if_neg (by omega), if_pos (by omega)] | rw [if_neg (by omega), if_neg (by omega)]
end Go.Proofs.YtmofjkfghidlnaaDoor
