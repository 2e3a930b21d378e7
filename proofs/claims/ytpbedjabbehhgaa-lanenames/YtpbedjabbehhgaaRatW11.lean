/- The contract of package ratio's Div. -/
import Derived.Test.YtpbedjabbehhgaaRatW10
namespace Go.Proofs.Ytpbedjabbehhgaa
open Go.RowKit Go.Shelf
attribute [local go_sem] Oper.semAt_some

theorem low_wide (P Q : Int) (hQ : 2147483648 < Q) (hc : P.natAbs.gcd Q.natAbs = 1) : low (Rat.divInt P Q) = (⟨0, 0⟩, 12) := by
  rw [low_eq P Q _ (by omega) rfl, gcd_rest P Q (by omega), hc, if_neg]
  simp
  omega

/-- All that Div reckons, of two right ratios, the second not 0. -/
theorem div_math (a b : Rt) (ha : rightB a = true) (hb : rightB b = true) (h0 : ¬ b.N = 0) :
    ∃ t u n m x y : Int, t = ((sz a.N).toNat.gcd (sz b.N).toNat : Nat) ∧ u = (a.D.toNat.gcd b.D.toNat : Nat) ∧ 0 < t ∧ t ≤ 4611686018427387904 ∧ 0 < u ∧ u ≤ 2147483648 ∧
      a.D.tdiv u = x ∧ 0 < x ∧ x ≤ 2147483648 ∧ (sz b.N).tdiv t = y ∧ 0 < y ∧ y ≤ 4611686018427387904 ∧ a.N.tdiv t = n ∧ (-4611686018427387904 ≤ n ∧ n ≤ 4611686018427387904) ∧ b.D.tdiv u = m ∧ (0 < m ∧ m ≤ 2147483648) ∧
      (n * m).natAbs.gcd (x * y).natAbs = 1 ∧ (0 < b.N → valQ a / valQ b = Rat.divInt (n * m) (x * y)) ∧ (b.N < 0 → valQ a / valQ b = Rat.divInt (-(n * m)) (x * y)) := by
  obtain ⟨a1, a2, a3, a4, ag⟩ := (right_iff a).1 ha
  obtain ⟨b1, b2, b3, b4, bg⟩ := (right_iff b).1 hb
  obtain ⟨T, hT⟩ : ∃ T, T = a.N.natAbs.gcd b.N.natAbs := ⟨_, rfl⟩
  obtain ⟨U, hU⟩ : ∃ U, U = a.D.natAbs.gcd b.D.natAbs := ⟨_, rfl⟩
  have hT0 : 0 < T := by rw [hT]; exact Nat.gcd_pos_of_pos_right _ (by omega)
  have hU0 : 0 < U := by rw [hU]; exact Nat.gcd_pos_of_pos_right _ (by omega)
  have dTa : T ∣ a.N.natAbs := by rw [hT]; exact Nat.gcd_dvd_left _ _
  have dTb : T ∣ b.N.natAbs := by rw [hT]; exact Nat.gcd_dvd_right _ _
  have dUa : U ∣ a.D.natAbs := by rw [hU]; exact Nat.gcd_dvd_left _ _
  have dUb : U ∣ b.D.natAbs := by rw [hU]; exact Nat.gcd_dvd_right _ _
  have hTle : T ≤ b.N.natAbs := Nat.le_of_dvd (by omega) dTb
  have hUle : U ≤ a.D.natAbs := Nat.le_of_dvd (by omega) dUa
  -- the parts
  obtain ⟨n, hn⟩ : (T : Int) ∣ a.N := Int.ofNat_dvd_left.2 dTa
  obtain ⟨k, hk⟩ : (T : Int) ∣ b.N := Int.ofNat_dvd_left.2 dTb
  obtain ⟨x, hx⟩ : (U : Int) ∣ a.D := Int.ofNat_dvd_left.2 dUa
  obtain ⟨m, hm⟩ : (U : Int) ∣ b.D := Int.ofNat_dvd_left.2 dUb
  have hTi : (0 : Int) < T := by omega
  have hUi : (0 : Int) < U := by omega
  have en : a.N.tdiv T = n := by rw [hn, Int.mul_tdiv_cancel_left _ (by omega)]
  have ex : a.D.tdiv U = x := by rw [hx, Int.mul_tdiv_cancel_left _ (by omega)]
  have em : b.D.tdiv U = m := by rw [hm, Int.mul_tdiv_cancel_left _ (by omega)]
  have es : sz b.N = T * (k.natAbs : Int) := by unfold sz; rw [hk, Int.natAbs_mul, Int.natAbs_natCast]; simp
  have ey : (sz b.N).tdiv T = (k.natAbs : Int) := by rw [es, Int.mul_tdiv_cancel_left _ (by omega)]
  have hk0 : k ≠ 0 := fun e => h0 (by rw [hk, e, Int.mul_zero])
  have hx0 : 0 < x := Int.pos_of_mul_pos_right (by rw [← hx]; omega) (by omega)
  have hm0 : 0 < m := Int.pos_of_mul_pos_right (by rw [← hm]; omega) (by omega)
  have eN : a.N.natAbs = T * n.natAbs := by rw [hn, Int.natAbs_mul, Int.natAbs_natCast]
  have eK : b.N.natAbs = T * k.natAbs := by rw [hk, Int.natAbs_mul, Int.natAbs_natCast]
  have eX : a.D.natAbs = U * x.natAbs := by rw [hx, Int.natAbs_mul, Int.natAbs_natCast]
  have eM : b.D.natAbs = U * m.natAbs := by rw [hm, Int.natAbs_mul, Int.natAbs_natCast]
  have le : ∀ (A B C : Nat), 0 < A → B = A * C → C ≤ B := fun A B C h e => by rw [e]; exact Nat.le_mul_of_pos_left _ h
  have l1 := le _ _ _ hT0 eN
  have l2 := le _ _ _ hT0 eK
  have l3 := le _ _ _ hU0 eX
  have l4 := le _ _ _ hU0 eM
  -- no divisor in common
  have c1 : n.natAbs.gcd k.natAbs = 1 := by
    have : T * (n.natAbs.gcd k.natAbs) = T * 1 := by rw [← Nat.gcd_mul_left, ← eN, ← eK, ← hT, Nat.mul_one]
    exact Nat.eq_of_mul_eq_mul_left hT0 this
  have c2 : m.natAbs.gcd x.natAbs = 1 := by
    have : U * (m.natAbs.gcd x.natAbs) = U * 1 := by rw [← Nat.gcd_mul_left, ← eM, ← eX, Nat.gcd_comm, ← hU, Nat.mul_one]
    exact Nat.eq_of_mul_eq_mul_left hU0 this
  have c3 : n.natAbs.gcd x.natAbs = 1 := by
    apply Nat.eq_one_of_dvd_one
    rw [← ag]
    exact Nat.dvd_gcd (Nat.dvd_trans (Nat.gcd_dvd_left _ _) ⟨T, by rw [eN, Nat.mul_comm]⟩) (Nat.dvd_trans (Nat.gcd_dvd_right _ _) ⟨U, by rw [eX, Nat.mul_comm]⟩)
  have c4 : m.natAbs.gcd k.natAbs = 1 := by
    apply Nat.eq_one_of_dvd_one
    rw [← bg]
    exact Nat.dvd_gcd (Nat.dvd_trans (Nat.gcd_dvd_right _ _) ⟨T, by rw [eK, Nat.mul_comm]⟩) (Nat.dvd_trans (Nat.gcd_dvd_left _ _) ⟨U, by rw [eM, Nat.mul_comm]⟩)
  have ev : valQ a / valQ b = Rat.divInt (n * m) (x * k) := by
    rw [val_div]
    have e1 : a.N * b.D = (T * U) * (n * m) := by rw [hn, hm]; simp only [Int.mul_assoc, Int.mul_left_comm]
    have e2 : a.D * b.N = (T * U) * (x * k) := by rw [hx, hk]; simp only [Int.mul_assoc, Int.mul_left_comm]
    rw [e1, e2, Rat.divInt_mul_left]
    have := Int.mul_pos hTi hUi
    omega
  refine ⟨T, U, n, m, x, (k.natAbs : Int), ?_, ?_, hTi, by omega, hUi, by omega, ex, hx0, by omega, ey, by omega, by omega, en, by omega, em, ⟨hm0, by omega⟩, ?_, ?_, ?_⟩
  · rw [hT]; unfold sz; simp
  · rw [hU]; congr 1; congr 1 <;> omega
  · rw [Int.natAbs_mul, Int.natAbs_mul, Int.natAbs_natCast]
    exact Nat.Coprime.mul_left (Nat.Coprime.mul_right c3 c1) (Nat.Coprime.mul_right c2 c4)
  · intro hp
    have : 0 < k := Int.pos_of_mul_pos_right (by rw [← hk]; omega) (by omega)
    rw [ev, show ((k.natAbs : Nat) : Int) = k by omega]
  · intro hp
    have : k < 0 := by
      apply Int.neg_of_mul_neg_right (a := T) (by rw [← hk]; exact hp) (by omega)
    rw [ev, show ((k.natAbs : Nat) : Int) = -k by omega, Int.mul_neg, Rat.neg_divInt_neg]

end Go.Proofs.Ytpbedjabbehhgaa
