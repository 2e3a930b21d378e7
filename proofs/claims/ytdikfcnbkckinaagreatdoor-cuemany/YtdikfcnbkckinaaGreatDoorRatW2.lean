/- The contract of math/bits.Div64. -/
import Derived.Test.YtdikfcnbkckinaaGreatDoorRatW1
import Derived.Deep.Cut
import Derived.Deep.CutRange
import Derived.Deep.DeepCutAuto
import Derived.Deep.CutBlock
namespace Go.Proofs.YtdikfcnbkckinaaGreatDoor
open Go.RowKit Go.Shelf
attribute [local go_sem] Oper.semAt_some

theorem ret_two {k : IntKind} {a b c d : Int} (h : a = c) (h2 : b = d) : Ending.returned (.tuple #[.int k a, .int k b]) = .returned (.tuple #[.int k c, .int k d]) := by rw [h, h2]

/-! how far the greatest bit is shifted -/
theorem bitLen_bounds : ∀ (f x : Nat), x < 2 ^ f → x < 2 ^ Lib.bitLenAux f x ∧ (0 < x → 2 ^ Lib.bitLenAux f x ≤ 2 * x)
  | 0, x, h => by simp [Lib.bitLenAux] at h ⊢; omega
  | f + 1, x, h => by
    unfold Lib.bitLenAux
    by_cases h0 : x = 0
    · subst h0; simp
    · rw [if_neg h0]
      obtain ⟨h1, h2⟩ := bitLen_bounds f (x / 2) (by rw [Nat.pow_succ] at h; omega)
      rw [Nat.pow_add, Nat.pow_one]
      refine ⟨by omega, fun _ => ?_⟩
      by_cases hx : 0 < x / 2
      · have := h2 hx; omega
      · have e : x / 2 = 0 := by omega
        rw [e]
        have : Lib.bitLenAux f 0 = 0 := by cases f <;> simp [Lib.bitLenAux]
        rw [this]; omega

/-- All that the division's first steps lay down. -/
theorem knuth_setup (hi lo y : Nat) (hlo : lo < 18446744073709551616) (hy : y < 18446744073709551616) (hlt : hi < y) :
    ∃ s Y v1 v0 u32 u10 u1 u0 : Nat, (64 : Int) - (Lib.bitLen y : Int) = s ∧ s ≤ 63 ∧
      IntKind.u64.wrap ((y : Int) * 2 ^ s) = Y ∧ (Y : Int) / 4294967296 = v1 ∧ bits .and .u64 (Y : Int) 4294967295 = v0 ∧
      bits .or .u64 (IntKind.u64.wrap ((hi : Int) * 2 ^ s)) ((lo : Int) / 2 ^ (64 - s)) = u32 ∧ IntKind.u64.wrap ((lo : Int) * 2 ^ s) = u10 ∧ (u10 : Int) / 4294967296 = u1 ∧ bits .and .u64 (u10 : Int) 4294967295 = u0 ∧
      Y = v1 * 4294967296 + v0 ∧ v0 < 4294967296 ∧ 2147483648 ≤ v1 ∧ v1 < 4294967296 ∧ u32 < Y ∧ u1 < 4294967296 ∧ u0 < 4294967296 ∧
      Y = y * 2 ^ s ∧ (hi * 18446744073709551616 + lo) * 2 ^ s = (u32 * 4294967296 + u1) * 4294967296 + u0 := by
  have hl64 : Lib.bitLen y ≤ 64 := Lib.bitLen_le y 64 (by omega) (by omega)
  obtain ⟨hb1, hb2⟩ := bitLen_bounds 64 y (by omega)
  have hb2 := hb2 (by omega)
  change y < 2 ^ Lib.bitLen y at hb1
  change 2 ^ Lib.bitLen y ≤ 2 * y at hb2
  generalize Lib.bitLen y = L at *
  have hL1 : 1 ≤ L := by
    rcases Nat.eq_zero_or_pos L with h | h
    · subst h; simp at hb1; omega
    · exact h
  have e64 : 2 ^ L * 2 ^ (64 - L) = 18446744073709551616 := by rw [← Nat.pow_add, show L + (64 - L) = 64 by omega]
  have hY1 : y * 2 ^ (64 - L) < 18446744073709551616 := by
    rw [← e64]; exact (Nat.mul_lt_mul_right (Nat.two_pow_pos _)).2 hb1
  have hY2 : 18446744073709551616 ≤ 2 * (y * 2 ^ (64 - L)) := by
    rw [← e64, ← Nat.mul_assoc]; exact Nat.mul_le_mul_right _ hb2
  have hH : hi * 2 ^ (64 - L) + 2 ^ (64 - L) ≤ y * 2 ^ (64 - L) := by
    rw [← Nat.succ_mul]; exact Nat.mul_le_mul_right _ hlt
  have hs64 : 64 - (64 - L) = L := by omega
  have hdl : lo / 2 ^ L < 2 ^ (64 - L) := by
    apply (Nat.div_lt_iff_lt_mul (Nat.two_pow_pos _)).2
    rw [Nat.mul_comm, e64]; exact hlo
  have hml : lo * 2 ^ (64 - L) = lo / 2 ^ L * 18446744073709551616 + lo % 2 ^ L * 2 ^ (64 - L) := by
    have h := Nat.div_add_mod lo (2 ^ L)
    calc lo * 2 ^ (64 - L) = (2 ^ L * (lo / 2 ^ L) + lo % 2 ^ L) * 2 ^ (64 - L) := by rw [h]
      _ = lo / 2 ^ L * 18446744073709551616 + lo % 2 ^ L * 2 ^ (64 - L) := by rw [Nat.add_mul, Nat.mul_right_comm, e64, Nat.mul_comm]
  have hmm : lo % 2 ^ L * 2 ^ (64 - L) < 18446744073709551616 := by
    rw [← e64]; exact (Nat.mul_lt_mul_right (Nat.two_pow_pos _)).2 (Nat.mod_lt _ (Nat.two_pow_pos _))
  have c1 : ∀ z : Nat, (z : Int) * 2 ^ (64 - L) = ((z * 2 ^ (64 - L) : Nat) : Int) := fun z => by simp
  refine ⟨64 - L, y * 2 ^ (64 - L), y * 2 ^ (64 - L) / 4294967296, y * 2 ^ (64 - L) % 4294967296, hi * 2 ^ (64 - L) + lo / 2 ^ L, lo % 2 ^ L * 2 ^ (64 - L), lo % 2 ^ L * 2 ^ (64 - L) / 4294967296, lo % 2 ^ L * 2 ^ (64 - L) % 4294967296,
    by omega, by omega, ?_, by omega, ?_, ?_, ?_, by omega, ?_, by omega, by omega, by omega, by omega, by omega, by omega, by omega, rfl, ?_⟩
  · rw [c1, IntKind.wrap_u64]; omega
  · rw [show (4294967295 : Int) = ((4294967295 : Nat) : Int) by rfl, bits_and_u64_nat _ _ (by omega) (by omega), Nat.and_two_pow_sub_one_eq_mod _ 32]
  · rw [hs64, c1, IntKind.wrap_u64, show (lo : Int) / 2 ^ L = ((lo / 2 ^ L : Nat) : Int) by simp, show ((hi * 2 ^ (64 - L) : Nat) : Int) % 18446744073709551616 = ((hi * 2 ^ (64 - L) : Nat) : Int) by omega,
      bits_or_u64_nat _ _ (by omega) (by omega)]
    congr 1
    have := Nat.shiftLeft_add_eq_or_of_lt hdl hi
    rw [Nat.shiftLeft_eq] at this
    exact this.symm
  · rw [c1, hml, IntKind.wrap_u64]; omega
  · rw [show (4294967295 : Int) = ((4294967295 : Nat) : Int) by rfl, bits_and_u64_nat _ _ (by omega) (by omega), Nat.and_two_pow_sub_one_eq_mod _ 32]
  · rw [Nat.add_mul, hml, Nat.mul_right_comm]; omega

/-- one digit: the loop's relation -/
theorem digit_go (u q v1 v0 u1 r : Nat) (hv : 2147483648 ≤ v1) (hr : r + q * v1 = u) (h : 4294967296 ≤ q ∨ 4294967296 * r + u1 < q * v0) (hs : (u * 4294967296 + u1) / (v1 * 4294967296 + v0) < 4294967296) (hq : (u * 4294967296 + u1) / (v1 * 4294967296 + v0) ≤ q) :
    (u * 4294967296 + u1) / (v1 * 4294967296 + v0) ≤ q - 1 ∧ r + v1 + (q - 1) * v1 = u := by
  have hq1 : 1 ≤ q := by
    rcases h with h | h
    · omega
    · rcases Nat.eq_zero_or_pos q with e | e
      · subst e; simp at h
      · exact e
  have e2 : v1 + (q - 1) * v1 = q * v1 := by
    obtain ⟨k, rfl⟩ : ∃ k, q = k + 1 := ⟨q - 1, by omega⟩
    rw [Nat.add_sub_cancel, Nat.succ_mul]; omega
  refine ⟨?_, by omega⟩
  rcases h with h | h
  · omega
  · refine knuth_ge u q _ u1 (by omega) ((knuth_gt u q v1 v0 u1 (by omega)).1 ?_)
    rw [show u - q * v1 = r by omega]
    exact h
theorem digit_end (u q v1 v0 u1 r : Nat) (hv : 2147483648 ≤ v1) (hr : r + q * v1 = u) (h : ¬ 4294967296 * r + u1 < q * v0) (hq : (u * 4294967296 + u1) / (v1 * 4294967296 + v0) ≤ q) :
    (u * 4294967296 + u1) / (v1 * 4294967296 + v0) = q := by
  refine Nat.le_antisymm hq (knuth_le u q _ u1 (by omega) (fun k => h ?_))
  have := (knuth_gt u q v1 v0 u1 (by omega)).2 k
  rw [show u - q * v1 = r by omega] at this
  exact this

/-- where the loop of a digit begins -/
theorem digit_start (u v1 v0 u1 : Nat) (hv : 2147483648 ≤ v1) (hv1 : v1 < 4294967296) (hv0 : v0 < 4294967296) (hu : u < v1 * 4294967296 + v0) (hu1 : u1 < 4294967296) :
    ∃ q r : Nat, (u : Int) / (v1 : Int) = q ∧ IntKind.u64.wrap ((u : Int) - IntKind.u64.wrap ((q : Int) * (v1 : Int))) = r ∧ r + q * v1 = u ∧ r < 4294967296 ∧ (u * 4294967296 + u1) / (v1 * 4294967296 + v0) ≤ q ∧ q ≤ 4294967297 := by
  have h1 := Nat.div_le_self u v1
  have h2 := knuth_first u v1 v0 hv hv0 hu
  have h3 := knuth_start u v1 v0 u1 (by omega) hu1
  have h4 := Nat.mod_lt u (show v1 > 0 by omega)
  have h5 := Nat.div_add_mod' u v1
  generalize (u * 4294967296 + u1) / (v1 * 4294967296 + v0) = Q at *
  refine ⟨u / v1, u % v1, ?_, ?_, by omega, by omega, h3, h2⟩
  · rw [Int.natCast_ediv]
  · rw [← Int.natCast_mul]
    generalize u / v1 * v1 = m at *
    generalize u % v1 = r at *
    rw [IntKind.wrap_u64, IntKind.wrap_u64]
    omega
theorem q_v0 (q v0 : Nat) (hq : q < 4294967296) (hv0 : v0 < 4294967296) : IntKind.u64.wrap ((q : Int) * (v0 : Int)) = ((q * v0 : Nat) : Int) := by
  have := Nat.mul_le_mul (show q ≤ 4294967295 by omega) (show v0 ≤ 4294967295 by omega)
  rw [← Int.natCast_mul]
  generalize q * v0 = m at *
  rw [IntKind.wrap_u64]
  omega
theorem digit_break (u q v1 v0 u1 r : Nat) (hv : 2147483648 ≤ v1) (hv0 : v0 < 4294967296) (hr : r + q * v1 = u) (h : 4294967296 ≤ r) (hq2 : q ≤ 4294967296) (hq : (u * 4294967296 + u1) / (v1 * 4294967296 + v0) ≤ q) :
    (u * 4294967296 + u1) / (v1 * 4294967296 + v0) = q := by
  refine digit_end u q v1 v0 u1 r hv hr (fun k => ?_) hq
  have := Nat.mul_le_mul hq2 (show v0 ≤ 4294967295 by omega)
  omega

/-! the same, of letters -/
theorem goL {u q v1 v0 u1 r Y Q : Nat} (hY : Y = v1 * 4294967296 + v0) (hQ : Q = (u * 4294967296 + u1) / Y) (hv : 2147483648 ≤ v1) (hr : r + q * v1 = u) (h : 4294967296 ≤ q ∨ 4294967296 * r + u1 < q * v0) (hs : Q < 4294967296) (hq : Q ≤ q) :
    Q ≤ q - 1 ∧ r + v1 + (q - 1) * v1 = u := by
  subst hY; subst hQ; exact digit_go u q v1 v0 u1 r hv hr h hs hq
theorem endL {u q v1 v0 u1 r Y Q : Nat} (hY : Y = v1 * 4294967296 + v0) (hQ : Q = (u * 4294967296 + u1) / Y) (hv : 2147483648 ≤ v1) (hr : r + q * v1 = u) (h : ¬ 4294967296 * r + u1 < q * v0) (hq : Q ≤ q) : Q = q := by
  subst hY; subst hQ; exact digit_end u q v1 v0 u1 r hv hr h hq
theorem breakL {u q v1 v0 u1 r Y Q : Nat} (hY : Y = v1 * 4294967296 + v0) (hQ : Q = (u * 4294967296 + u1) / Y) (hv : 2147483648 ≤ v1) (hv0 : v0 < 4294967296) (hr : r + q * v1 = u) (h : 4294967296 ≤ r) (hq2 : q ≤ 4294967296) (hq : Q ≤ q) : Q = q := by
  subst hY; subst hQ; exact digit_break u q v1 v0 u1 r hv hv0 hr h hq2 hq
theorem startL {u v1 v0 u1 Y : Nat} (hY : Y = v1 * 4294967296 + v0) (hv : 2147483648 ≤ v1) (hv1 : v1 < 4294967296) (hv0 : v0 < 4294967296) (hu : u < Y) (hu1 : u1 < 4294967296) :
    ∃ Q q r : Nat, Q = (u * 4294967296 + u1) / Y ∧ Q < 4294967296 ∧ (u : Int) / (v1 : Int) = q ∧ IntKind.u64.wrap ((u : Int) - IntKind.u64.wrap ((q : Int) * (v1 : Int))) = r ∧ r + q * v1 = u ∧ r < 4294967296 ∧ Q ≤ q ∧ q ≤ 4294967297 := by
  subst hY
  obtain ⟨q, r, h1, h2, h3, h4, h5, h6⟩ := digit_start u v1 v0 u1 hv hv1 hv0 hu hu1
  exact ⟨_, q, r, rfl, knuth_small u _ u1 hu hu1, h1, h2, h3, h4, h5, h6⟩

theorem rem_wrap (u u1 Y Q : Nat) (hY : Y < 18446744073709551616) (hY0 : 0 < Y) (hQ : Q = (u * 4294967296 + u1) / Y) :
    IntKind.u64.wrap (IntKind.u64.wrap (IntKind.u64.wrap ((u : Int) * 4294967296) + (u1 : Int)) - IntKind.u64.wrap ((Q : Int) * (Y : Int))) = (((u * 4294967296 + u1) % Y : Nat) : Int) := by
  have h1 := Nat.div_add_mod' (u * 4294967296 + u1) Y
  have h2 := Nat.mod_lt (u * 4294967296 + u1) hY0
  rw [← hQ] at h1
  rw [← Int.natCast_mul]
  generalize Q * Y = P at *
  generalize (u * 4294967296 + u1) % Y = R at *
  rw [IntKind.wrap_u64, IntKind.wrap_u64, IntKind.wrap_u64, IntKind.wrap_u64]
  omega
theorem whole_div (hi lo y s Y u32 u1 u0 Q u21 Q2 r2 : Nat) (hY : Y = y * 2 ^ s) (hY0 : 0 < Y) (hU : (hi * 18446744073709551616 + lo) * 2 ^ s = (u32 * 4294967296 + u1) * 4294967296 + u0)
    (hQ : Q = (u32 * 4294967296 + u1) / Y) (h21 : u21 = (u32 * 4294967296 + u1) % Y) (hQ2 : Q2 = (u21 * 4294967296 + u0) / Y) (hr2 : r2 = (u21 * 4294967296 + u0) % Y) :
    Q * 4294967296 + Q2 = (hi * 18446744073709551616 + lo) / y ∧ r2 / 2 ^ s = (hi * 18446744073709551616 + lo) % y := by
  have hp : 0 < 2 ^ s := Nat.two_pow_pos s
  obtain ⟨h1, h2⟩ := long_div (u32 * 4294967296 + u1) u0 Y hY0
  rw [← hU] at h1 h2
  rw [← hQ, ← h21, ← hQ2] at h1
  rw [← h21, ← hr2] at h2
  rw [hY, Nat.mul_div_mul_right _ _ hp] at h1
  rw [hY, Nat.mul_mod_mul_right] at h2
  refine ⟨h1.symm, ?_⟩
  rw [← h2, Nat.mul_div_cancel _ hp]

end Go.Proofs.YtdikfcnbkckinaaGreatDoor
