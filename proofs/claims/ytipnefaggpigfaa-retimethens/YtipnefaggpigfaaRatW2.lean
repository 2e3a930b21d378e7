/- The contract of math/bits.Div64. -/
import Derived.Test.YtipnefaggpigfaaRatW1
import Derived.Deep.Cut
import Derived.Deep.CutRange
import Derived.Deep.DeepCutAuto
import Derived.Deep.CutBlock
namespace Go.Proofs.Ytipnefaggpigfaa
open Go.RowKit Go.Shelf
attribute [local go_sem] Oper.semAt_some

theorem lz_any (y : Nat) (hy : y < 18446744073709551616) (w : World) : Calls Try.prog 99 #[.int .u64 y] w fun e w' => e = .returned (.int .i64 (64 - (Lib.bitLen y : Int))) ∧ w' = w := by
  have := Any.bits_LeadingZeros64 lay134 (y : Int) w (by omega) (by omega)
  exact this

theorem ret_two {k : IntKind} {a b c d : Int} (h : a = c) (h2 : b = d) : Ending.returned (.tuple #[.int k a, .int k b]) = .returned (.tuple #[.int k c, .int k d]) := by rw [h, h2]

set_option maxRecDepth 100000 in
theorem div_zero (lo y : Nat) (hlo : lo < 18446744073709551616) (hy : y < 18446744073709551616) (h0 : 0 < y) (w : World) :
    Calls Try.prog 98 #[.int .u64 0, .int .u64 lo, .int .u64 y] w fun e w' => e = .returned (.tuple #[.int .u64 (lo / y : Nat), .int .u64 (lo % y : Nat)]) ∧ Below w.heap.size w w' := by
  have h1 : ((y : Int) == 0) = false := by simp; omega
  have h2 : ¬ (y : Int) ≤ 0 := by omega
  have h3 : ¬ y = 0 := by omega
  have hq : IntKind.u64.wrap ((lo : Int) / (y : Int)) = ((lo / y : Nat) : Int) := by
    rw [IntKind.wrap_u64, ← Int.natCast_ediv]
    have := Nat.div_le_self lo y
    generalize lo / y = q at this ⊢
    omega
  go_enter Try.func98, Try.ntmps98
  go_wp2
  go_region
  all_goals (try go_wp2)
  all_goals (
    go_ret2
    exact ⟨ret_two rfl (by omega), (Below.refl _ _).drew⟩)

/-! how far the greatest bit is shifted -/
theorem bitLen_bounds : ∀ (f x : Nat), x < 2 ^ f → x < 2 ^ Lib.bitLenAux f x ∧ (0 < x → 2 ^ Lib.bitLenAux f x ≤ 2 * x)
  | 0, x, h => by simp [Lib.bitLenAux] at h ⊢; omega
  | f + 1, x, h => by
    unfold Lib.bitLenAux
    by_cases h0 : x = 0
    · subst h0; simp
    · rw [if_neg h0]
      obtain ⟨h1, h2⟩ := bitLen_bounds f (x / 2) (by rw [Nat.pow_succ] at h; omega)
      rw [Nat.pow_add, Nat.pow_one]
      refine ⟨by omega, fun _ => ?_⟩
      by_cases hx : 0 < x / 2
      · have := h2 hx; omega
      · have e : x / 2 = 0 := by omega
        rw [e]
        have : Lib.bitLenAux f 0 = 0 := by cases f <;> simp [Lib.bitLenAux]
        rw [this]; omega

/-- All that the division's first steps lay down. -/
theorem knuth_setup (hi lo y : Nat) (hlo : lo < 18446744073709551616) (hy : y < 18446744073709551616) (hlt : hi < y) :
    ∃ s Y v1 v0 u32 u10 u1 u0 : Nat, (64 : Int) - (Lib.bitLen y : Int) = s ∧ s ≤ 63 ∧
      IntKind.u64.wrap ((y : Int) * 2 ^ s) = Y ∧ (Y : Int) / 4294967296 = v1 ∧ bits .and .u64 (Y : Int) 4294967295 = v0 ∧
      bits .or .u64 (IntKind.u64.wrap ((hi : Int) * 2 ^ s)) ((lo : Int) / 2 ^ (64 - s)) = u32 ∧ IntKind.u64.wrap ((lo : Int) * 2 ^ s) = u10 ∧ (u10 : Int) / 4294967296 = u1 ∧ bits .and .u64 (u10 : Int) 4294967295 = u0 ∧
      Y = v1 * 4294967296 + v0 ∧ v0 < 4294967296 ∧ 2147483648 ≤ v1 ∧ v1 < 4294967296 ∧ u32 < Y ∧ u1 < 4294967296 ∧ u0 < 4294967296 ∧
      Y = y * 2 ^ s ∧ (hi * 18446744073709551616 + lo) * 2 ^ s = (u32 * 4294967296 + u1) * 4294967296 + u0 := by
  have hl64 : Lib.bitLen y ≤ 64 := Lib.bitLen_le y 64 (by omega) (by omega)
  obtain ⟨hb1, hb2⟩ := bitLen_bounds 64 y (by omega)
  have hb2 := hb2 (by omega)
  change y < 2 ^ Lib.bitLen y at hb1
  change 2 ^ Lib.bitLen y ≤ 2 * y at hb2
  generalize Lib.bitLen y = L at *
  have hL1 : 1 ≤ L := by
    rcases Nat.eq_zero_or_pos L with h | h
    · subst h; simp at hb1; omega
    · exact h
  have e64 : 2 ^ L * 2 ^ (64 - L) = 18446744073709551616 := by rw [← Nat.pow_add, show L + (64 - L) = 64 by omega]
  have hY1 : y * 2 ^ (64 - L) < 18446744073709551616 := by
    rw [← e64]; exact (Nat.mul_lt_mul_right (Nat.two_pow_pos _)).2 hb1
  have hY2 : 18446744073709551616 ≤ 2 * (y * 2 ^ (64 - L)) := by
    rw [← e64, ← Nat.mul_assoc]; exact Nat.mul_le_mul_right _ hb2
  have hH : hi * 2 ^ (64 - L) + 2 ^ (64 - L) ≤ y * 2 ^ (64 - L) := by
    rw [← Nat.succ_mul]; exact Nat.mul_le_mul_right _ hlt
  have hs64 : 64 - (64 - L) = L := by omega
  have hdl : lo / 2 ^ L < 2 ^ (64 - L) := by
    apply (Nat.div_lt_iff_lt_mul (Nat.two_pow_pos _)).2
    rw [Nat.mul_comm, e64]; exact hlo
  have hml : lo * 2 ^ (64 - L) = lo / 2 ^ L * 18446744073709551616 + lo % 2 ^ L * 2 ^ (64 - L) := by
    have h := Nat.div_add_mod lo (2 ^ L)
    calc lo * 2 ^ (64 - L) = (2 ^ L * (lo / 2 ^ L) + lo % 2 ^ L) * 2 ^ (64 - L) := by rw [h]
      _ = lo / 2 ^ L * 18446744073709551616 + lo % 2 ^ L * 2 ^ (64 - L) := by rw [Nat.add_mul, Nat.mul_right_comm, e64, Nat.mul_comm]
  have hmm : lo % 2 ^ L * 2 ^ (64 - L) < 18446744073709551616 := by
    rw [← e64]; exact (Nat.mul_lt_mul_right (Nat.two_pow_pos _)).2 (Nat.mod_lt _ (Nat.two_pow_pos _))
  have c1 : ∀ z : Nat, (z : Int) * 2 ^ (64 - L) = ((z * 2 ^ (64 - L) : Nat) : Int) := fun z => by simp
  refine ⟨64 - L, y * 2 ^ (64 - L), y * 2 ^ (64 - L) / 4294967296, y * 2 ^ (64 - L) % 4294967296, hi * 2 ^ (64 - L) + lo / 2 ^ L, lo % 2 ^ L * 2 ^ (64 - L), lo % 2 ^ L * 2 ^ (64 - L) / 4294967296, lo % 2 ^ L * 2 ^ (64 - L) % 4294967296,
    by omega, by omega, ?_, by omega, ?_, ?_, ?_, by omega, ?_, by omega, by omega, by omega, by omega, by omega, by omega, by omega, rfl, ?_⟩
  · rw [c1, IntKind.wrap_u64]; omega
  · rw [show (4294967295 : Int) = ((4294967295 : Nat) : Int) by rfl, bits_and_u64_nat _ _ (by omega) (by omega), Nat.and_two_pow_sub_one_eq_mod _ 32]
  · rw [hs64, c1, IntKind.wrap_u64, show (lo : Int) / 2 ^ L = ((lo / 2 ^ L : Nat) : Int) by simp, show ((hi * 2 ^ (64 - L) : Nat) : Int) % 18446744073709551616 = ((hi * 2 ^ (64 - L) : Nat) : Int) by omega,
      bits_or_u64_nat _ _ (by omega) (by omega)]
    congr 1
    have := Nat.shiftLeft_add_eq_or_of_lt hdl hi
    rw [Nat.shiftLeft_eq] at this
    exact this.symm
  · rw [c1, hml, IntKind.wrap_u64]; omega
  · rw [show (4294967295 : Int) = ((4294967295 : Nat) : Int) by rfl, bits_and_u64_nat _ _ (by omega) (by omega), Nat.and_two_pow_sub_one_eq_mod _ 32]
  · rw [Nat.add_mul, hml, Nat.mul_right_comm]; omega

/-- one digit: the loop's relation -/
theorem digit_go (u q v1 v0 u1 r : Nat) (hv : 2147483648 ≤ v1) (hr : r + q * v1 = u) (h : 4294967296 ≤ q ∨ 4294967296 * r + u1 < q * v0) (hs : (u * 4294967296 + u1) / (v1 * 4294967296 + v0) < 4294967296) (hq : (u * 4294967296 + u1) / (v1 * 4294967296 + v0) ≤ q) :
    (u * 4294967296 + u1) / (v1 * 4294967296 + v0) ≤ q - 1 ∧ r + v1 + (q - 1) * v1 = u := by
  have hq1 : 1 ≤ q := by
    rcases h with h | h
    · omega
    · rcases Nat.eq_zero_or_pos q with e | e
      · subst e; simp at h
      · exact e
  have e2 : v1 + (q - 1) * v1 = q * v1 := by
    obtain ⟨k, rfl⟩ : ∃ k, q = k + 1 := ⟨q - 1, by omega⟩
    rw [Nat.add_sub_cancel, Nat.succ_mul]; omega
  refine ⟨?_, by omega⟩
  rcases h with h | h
  · omega
  · refine knuth_ge u q _ u1 (by omega) ((knuth_gt u q v1 v0 u1 (by omega)).1 ?_)
    rw [show u - q * v1 = r by omega]
    exact h
theorem digit_end (u q v1 v0 u1 r : Nat) (hv : 2147483648 ≤ v1) (hr : r + q * v1 = u) (h : ¬ 4294967296 * r + u1 < q * v0) (hq : (u * 4294967296 + u1) / (v1 * 4294967296 + v0) ≤ q) :
    (u * 4294967296 + u1) / (v1 * 4294967296 + v0) = q := by
  refine Nat.le_antisymm hq (knuth_le u q _ u1 (by omega) (fun k => h ?_))
  have := (knuth_gt u q v1 v0 u1 (by omega)).2 k
  rw [show u - q * v1 = r by omega] at this
  exact this

/-- where the loop of a digit begins -/
theorem digit_start (u v1 v0 u1 : Nat) (hv : 2147483648 ≤ v1) (hv1 : v1 < 4294967296) (hv0 : v0 < 4294967296) (hu : u < v1 * 4294967296 + v0) (hu1 : u1 < 4294967296) :
    ∃ q r : Nat, (u : Int) / (v1 : Int) = q ∧ IntKind.u64.wrap ((u : Int) - IntKind.u64.wrap ((q : Int) * (v1 : Int))) = r ∧ r + q * v1 = u ∧ r < 4294967296 ∧ (u * 4294967296 + u1) / (v1 * 4294967296 + v0) ≤ q ∧ q ≤ 4294967297 := by
  have h1 := Nat.div_le_self u v1
  have h2 := knuth_first u v1 v0 hv hv0 hu
  have h3 := knuth_start u v1 v0 u1 (by omega) hu1
  have h4 := Nat.mod_lt u (show v1 > 0 by omega)
  have h5 := Nat.div_add_mod' u v1
  generalize (u * 4294967296 + u1) / (v1 * 4294967296 + v0) = Q at *
  refine ⟨u / v1, u % v1, ?_, ?_, by omega, by omega, h3, h2⟩
  · rw [Int.natCast_ediv]
  · rw [← Int.natCast_mul]
    generalize u / v1 * v1 = m at *
    generalize u % v1 = r at *
    rw [IntKind.wrap_u64, IntKind.wrap_u64]
    omega
theorem q_v0 (q v0 : Nat) (hq : q < 4294967296) (hv0 : v0 < 4294967296) : IntKind.u64.wrap ((q : Int) * (v0 : Int)) = ((q * v0 : Nat) : Int) := by
  have := Nat.mul_le_mul (show q ≤ 4294967295 by omega) (show v0 ≤ 4294967295 by omega)
  rw [← Int.natCast_mul]
  generalize q * v0 = m at *
  rw [IntKind.wrap_u64]
  omega
theorem digit_break (u q v1 v0 u1 r : Nat) (hv : 2147483648 ≤ v1) (hv0 : v0 < 4294967296) (hr : r + q * v1 = u) (h : 4294967296 ≤ r) (hq2 : q ≤ 4294967296) (hq : (u * 4294967296 + u1) / (v1 * 4294967296 + v0) ≤ q) :
    (u * 4294967296 + u1) / (v1 * 4294967296 + v0) = q := by
  refine digit_end u q v1 v0 u1 r hv hr (fun k => ?_) hq
  have := Nat.mul_le_mul hq2 (show v0 ≤ 4294967295 by omega)
  omega

/-! the same, of letters -/
theorem goL {u q v1 v0 u1 r Y Q : Nat} (hY : Y = v1 * 4294967296 + v0) (hQ : Q = (u * 4294967296 + u1) / Y) (hv : 2147483648 ≤ v1) (hr : r + q * v1 = u) (h : 4294967296 ≤ q ∨ 4294967296 * r + u1 < q * v0) (hs : Q < 4294967296) (hq : Q ≤ q) :
    Q ≤ q - 1 ∧ r + v1 + (q - 1) * v1 = u := by
  subst hY; subst hQ; exact digit_go u q v1 v0 u1 r hv hr h hs hq
theorem endL {u q v1 v0 u1 r Y Q : Nat} (hY : Y = v1 * 4294967296 + v0) (hQ : Q = (u * 4294967296 + u1) / Y) (hv : 2147483648 ≤ v1) (hr : r + q * v1 = u) (h : ¬ 4294967296 * r + u1 < q * v0) (hq : Q ≤ q) : Q = q := by
  subst hY; subst hQ; exact digit_end u q v1 v0 u1 r hv hr h hq
theorem breakL {u q v1 v0 u1 r Y Q : Nat} (hY : Y = v1 * 4294967296 + v0) (hQ : Q = (u * 4294967296 + u1) / Y) (hv : 2147483648 ≤ v1) (hv0 : v0 < 4294967296) (hr : r + q * v1 = u) (h : 4294967296 ≤ r) (hq2 : q ≤ 4294967296) (hq : Q ≤ q) : Q = q := by
  subst hY; subst hQ; exact digit_break u q v1 v0 u1 r hv hv0 hr h hq2 hq
theorem startL {u v1 v0 u1 Y : Nat} (hY : Y = v1 * 4294967296 + v0) (hv : 2147483648 ≤ v1) (hv1 : v1 < 4294967296) (hv0 : v0 < 4294967296) (hu : u < Y) (hu1 : u1 < 4294967296) :
    ∃ Q q r : Nat, Q = (u * 4294967296 + u1) / Y ∧ Q < 4294967296 ∧ (u : Int) / (v1 : Int) = q ∧ IntKind.u64.wrap ((u : Int) - IntKind.u64.wrap ((q : Int) * (v1 : Int))) = r ∧ r + q * v1 = u ∧ r < 4294967296 ∧ Q ≤ q ∧ q ≤ 4294967297 := by
  subst hY
  obtain ⟨q, r, h1, h2, h3, h4, h5, h6⟩ := digit_start u v1 v0 u1 hv hv1 hv0 hu hu1
  exact ⟨_, q, r, rfl, knuth_small u _ u1 hu hu1, h1, h2, h3, h4, h5, h6⟩

theorem rem_wrap (u u1 Y Q : Nat) (hY : Y < 18446744073709551616) (hY0 : 0 < Y) (hQ : Q = (u * 4294967296 + u1) / Y) :
    IntKind.u64.wrap (IntKind.u64.wrap (IntKind.u64.wrap ((u : Int) * 4294967296) + (u1 : Int)) - IntKind.u64.wrap ((Q : Int) * (Y : Int))) = (((u * 4294967296 + u1) % Y : Nat) : Int) := by
  have h1 := Nat.div_add_mod' (u * 4294967296 + u1) Y
  have h2 := Nat.mod_lt (u * 4294967296 + u1) hY0
  rw [← hQ] at h1
  rw [← Int.natCast_mul]
  generalize Q * Y = P at *
  generalize (u * 4294967296 + u1) % Y = R at *
  rw [IntKind.wrap_u64, IntKind.wrap_u64, IntKind.wrap_u64, IntKind.wrap_u64]
  omega
theorem whole_div (hi lo y s Y u32 u1 u0 Q u21 Q2 r2 : Nat) (hY : Y = y * 2 ^ s) (hY0 : 0 < Y) (hU : (hi * 18446744073709551616 + lo) * 2 ^ s = (u32 * 4294967296 + u1) * 4294967296 + u0)
    (hQ : Q = (u32 * 4294967296 + u1) / Y) (h21 : u21 = (u32 * 4294967296 + u1) % Y) (hQ2 : Q2 = (u21 * 4294967296 + u0) / Y) (hr2 : r2 = (u21 * 4294967296 + u0) % Y) :
    Q * 4294967296 + Q2 = (hi * 18446744073709551616 + lo) / y ∧ r2 / 2 ^ s = (hi * 18446744073709551616 + lo) % y := by
  have hp : 0 < 2 ^ s := Nat.two_pow_pos s
  obtain ⟨h1, h2⟩ := long_div (u32 * 4294967296 + u1) u0 Y hY0
  rw [← hU] at h1 h2
  rw [← hQ, ← h21, ← hQ2] at h1
  rw [← h21, ← hr2] at h2
  rw [hY, Nat.mul_div_mul_right _ _ hp] at h1
  rw [hY, Nat.mul_mod_mul_right] at h2
  refine ⟨h1.symm, ?_⟩
  rw [← h2, Nat.mul_div_cancel _ hp]

set_option maxRecDepth 20000 in
set_option maxHeartbeats 1000000 in
theorem div_some (hi lo y : Nat) (hlo : lo < 18446744073709551616) (hy : y < 18446744073709551616) (h0 : 0 < hi) (hlt : hi < y) (w : World) :
    Calls Try.prog 98 #[.int .u64 hi, .int .u64 lo, .int .u64 y] w fun e w' => e = .returned (.tuple #[.int .u64 ((hi * 18446744073709551616 + lo) / y : Nat), .int .u64 ((hi * 18446744073709551616 + lo) % y : Nat)]) ∧ w' = w := by
  have h1 : ((y : Int) == 0) = false := by simp; omega
  have h2 : ¬ (y : Int) ≤ hi := by omega
  have h3 : ((hi : Int) == 0) = false := by simp; omega
  obtain ⟨s, Y, v1, v0, u32, u10, u1, u0, hs, hs63, eY, ev1, ev0, eu32, eu10, eu1, eu0, hY, hv0, hv1, hv1b, hu32, hu1, hu0, hYs, hU⟩ := knuth_setup hi lo y hlo hy hlt
  have hn1 : ¬ (v1 : Int) = 0 := by omega
  have hYb : Y < 18446744073709551616 := by omega
  obtain ⟨Q, q0, r0, hQ, hsm, eq0, er0, hr0, hr0b, hQ0, hq0b⟩ := startL (u := u32) (u1 := u1) hY hv1 hv1b hv0 hu32 hu1
  have HY : Hid (Y = v1 * 4294967296 + v0) := hY
  have HYs : Hid (Y = y * 2 ^ s) := hYs
  have HU : Hid ((hi * 18446744073709551616 + lo) * 2 ^ s = (u32 * 4294967296 + u1) * 4294967296 + u0) := hU
  have HS : Hid (∃ q r : Nat, (u32 : Int) / (v1 : Int) = q ∧ IntKind.u64.wrap ((u32 : Int) - IntKind.u64.wrap ((u32 : Int) / (v1 : Int) * (v1 : Int))) = r ∧ Q ≤ q ∧ q ≤ 4294967297 ∧ r + q * v1 = u32 ∧ r < 4294967296) := ⟨q0, r0, eq0, by rw [eq0]; exact er0, hQ0, hq0b, hr0, hr0b⟩
  have HQ : Hid (Q = (u32 * 4294967296 + u1) / Y) := hQ
  have Hsm : Hid (Q < 4294967296) := hsm
  have HB : Hid (2147483648 ≤ v1 ∧ v0 < 4294967296 ∧ v1 < 4294967296 ∧ u32 < Y ∧ u1 < 4294967296 ∧ u0 < 4294967296 ∧ Y < 18446744073709551616) := ⟨hv1, hv0, hv1b, hu32, hu1, hu0, hYb⟩
  obtain ⟨YI, eYI⟩ : ∃ V : Int, (Y : Int) = V := ⟨_, rfl⟩
  obtain ⟨V1, eV1⟩ : ∃ V : Int, (v1 : Int) = V := ⟨_, rfl⟩
  obtain ⟨V0, eV0⟩ : ∃ V : Int, (v0 : Int) = V := ⟨_, rfl⟩
  obtain ⟨U32, eU32⟩ : ∃ V : Int, (u32 : Int) = V := ⟨_, rfl⟩
  obtain ⟨U10, eU10⟩ : ∃ V : Int, (u10 : Int) = V := ⟨_, rfl⟩
  obtain ⟨U1, eU1⟩ : ∃ V : Int, (u1 : Int) = V := ⟨_, rfl⟩
  obtain ⟨U0, eU0⟩ : ∃ V : Int, (u0 : Int) = V := ⟨_, rfl⟩
  obtain ⟨QI, eQI⟩ : ∃ V : Int, (Q : Int) = V := ⟨_, rfl⟩
  have bV1 : 2147483648 ≤ V1 ∧ V1 < 4294967296 := by omega
  have bV0 : 0 ≤ V0 ∧ V0 < 4294967296 := by omega
  have bU32 : 0 ≤ U32 ∧ U32 < YI := by omega
  have bYI : 0 ≤ YI ∧ YI < 18446744073709551616 := by omega
  have bU1 : 0 ≤ U1 ∧ U1 < 4294967296 := by omega
  have bU0 : 0 ≤ U0 ∧ U0 < 4294967296 := by omega
  have bQ : 0 ≤ QI ∧ QI < 4294967296 := by omega
  have hn2 : ¬ V1 = 0 := by omega
  rw [eYI] at eY ev1 ev0
  rw [eV1] at ev1 HS
  rw [eV0] at ev0
  rw [eU32] at eu32 HS
  rw [eU10] at eu10 eu1 eu0
  rw [eU1] at eu1
  rw [eU0] at eu0
  have HV1 : Hid ((v1 : Int) = V1) := eV1
  have HQI : Hid ((Q : Int) = QI) := eQI
  have HE : Hid ((Y : Int) = YI ∧ (v1 : Int) = V1 ∧ (v0 : Int) = V0 ∧ (u32 : Int) = U32 ∧ (u1 : Int) = U1 ∧ (u0 : Int) = U0 ∧ (Q : Int) = QI) := ⟨eYI, eV1, eV0, eU32, eU1, eU0, eQI⟩
  clear hY hYs hU hr0 hQ hsm hr0b hQ0 hq0b hn1 hYb hv0 hv1 hv1b hu32 hu1 hu0 eYI eV1 eV0 eU32 eU10 eU1 eU0 eQI eq0 er0
  go_enter Try.func98, Try.ntmps98
  go_upto_block 0 with (go_at_call 99; refine (lz_any y hy _).mono ?_; rintro e w' ⟨rfl, hw⟩; obtain rfl := hw.symm; rw [hs])
  clear eY ev1 ev0 eu32 eu10 eu1 eu0
  go_cut [15, 16] (fun q r wx => q = .int .u64 QI ∧ (∃ z, r = .int .u64 z) ∧ w = wx)
  case first =>
    go_wp2_with fail
    go_loopw [15, 16] (fun va vb wx => ∃ x z : Int, va = .int .u64 x ∧ vb = .int .u64 z ∧ Hid (∃ q r : Nat, x = q ∧ z = r ∧ Q ≤ q ∧ q ≤ 4294967297 ∧ r + q * v1 = u32 ∧ r < 4294967296) ∧ w = wx) (fun va _ _ => (intOf va).natAbs)
    case atStart => exact ⟨_, _, rfl, rfl, HS, by trivial⟩
    case round =>
      obtain ⟨x, z, rfl, rfl, HRq, rfl⟩ := hrel
      have hx0 : 0 ≤ x := by obtain ⟨q, r, e1, e2, _⟩ := HRq.out; omega
      have hz0 : 0 ≤ z := by obtain ⟨q, r, e1, e2, _⟩ := HRq.out; omega
      have hx1 : x ≤ 4294967297 := by obtain ⟨q, r, e1, e2, _, h, _⟩ := HRq.out; omega
      have hz1 : z < 4294967296 := by obtain ⟨q, r, e1, e2, _, _, _, h⟩ := HRq.out; omega
      have HD : Hid ((4294967296 ≤ x ∨ ∃ q : Nat, x = q ∧ 4294967296 * z + U1 < ((q * v0 : Nat) : Int)) → ∃ q r : Nat, x - 1 = q ∧ z + V1 = r ∧ Q ≤ q ∧ q ≤ 4294967296 ∧ r + q * v1 = u32) := by
        intro hor
        obtain ⟨q, r, rfl, rfl, h1, h2, h3, h4⟩ := HRq.out
        have hor2 : 4294967296 ≤ q ∨ 4294967296 * r + u1 < q * v0 := by
          rcases hor with h | ⟨q', e, h⟩
          · left; omega
          · right
            obtain rfl : q = q' := by omega
            have := HE.out
            omega
        have hp : 1 ≤ q := by
          rcases hor2 with h | h
          · omega
          · rcases Nat.eq_zero_or_pos q with e | e
            · subst e; simp at h
            · exact e
        obtain ⟨k1, k2⟩ := goL HY.out HQ.out HB.out.1 h3 hor2 Hsm.out h1
        exact ⟨q - 1, r + v1, by omega, by rw [← HV1.out]; omega, k1, by omega, k2⟩
      by_cases hx : 4294967296 ≤ x
      · go_wp2
        · go_meet
          refine ⟨?_, ⟨_, rfl⟩, rfl⟩
          obtain ⟨q, r, e1, e2, k1, k2, k3⟩ := HD.out (.inl hx)
          rw [e1, ← breakL HY.out HQ.out HB.out.1 HB.out.2.1 k3 (by omega) k2 k1, HQI.out]
        · go_roundw
          case rel =>
            obtain ⟨q, r, e1, e2, k1, k2, k3⟩ := HD.out (.inl hx)
            exact ⟨_, _, rfl, rfl, ⟨q, r, e1, e2, k1, by omega, k3, by omega⟩, by trivial⟩
          case measure => simp [intOf]; omega
      · have HM : Hid (∃ q : Nat, x = q ∧ IntKind.u64.wrap (x * V0) = ((q * v0 : Nat) : Int)) := by
          obtain ⟨q, r, rfl, rfl, _⟩ := HRq.out
          refine ⟨q, rfl, ?_⟩
          rw [← HE.out.2.2.1]
          exact q_v0 q v0 (by omega) HB.out.2.1
        obtain ⟨M, hM⟩ : ∃ M, IntKind.u64.wrap (x * V0) = M := ⟨_, rfl⟩
        rw [hM] at HM
        by_cases hgt : 4294967296 * z + U1 < M
        · have HP := HD.out (.inr (by obtain ⟨q, e, h⟩ := HM.out; exact ⟨q, e, by omega⟩))
          have HP : Hid (∃ q r : Nat, x - 1 = q ∧ z + V1 = r ∧ Q ≤ q ∧ q ≤ 4294967296 ∧ r + q * v1 = u32) := HP
          have hx2 : 1 ≤ x := by obtain ⟨q, r, e1, _⟩ := HP.out; omega
          go_wp2
          · go_meet
            refine ⟨?_, ⟨_, rfl⟩, rfl⟩
            obtain ⟨q, r, e1, e2, k1, k2, k3⟩ := HP.out
            rw [e1, ← breakL HY.out HQ.out HB.out.1 HB.out.2.1 k3 (by omega) k2 k1, HQI.out]
          · go_roundw
            case rel =>
              obtain ⟨q, r, e1, e2, k1, k2, k3⟩ := HP.out
              exact ⟨_, _, rfl, rfl, ⟨q, r, e1, e2, k1, by omega, k3, by omega⟩, by trivial⟩
            case measure => simp [intOf]; omega
        · go_wp2
          go_meet
          refine ⟨?_, ⟨_, rfl⟩, rfl⟩
          obtain ⟨q, r, rfl, rfl, h1, h2, h3, h4⟩ := HRq.out
          have hE := HE.out
          obtain ⟨q', e, hm⟩ := HM.out
          obtain rfl : q = q' := by omega
          rw [← endL HY.out HQ.out HB.out.1 h3 (by omega) h1, HQI.out]
  case rest =>
    obtain ⟨rfl, ⟨z, rfl⟩, rfl⟩ := hcut
    clear HS
    have hY0 : Hid (0 < Y) := (by have := HB.out; omega : 0 < Y)
    obtain ⟨u21, h21⟩ : ∃ v, v = (u32 * 4294967296 + u1) % Y := ⟨_, rfl⟩
    have hl21 : u21 < Y := by rw [h21]; exact Nat.mod_lt _ hY0.out
    have e21 := rem_wrap u32 u1 Y Q HB.out.2.2.2.2.2.2 hY0.out HQ.out
    rw [← h21] at e21
    obtain ⟨Q2, q0, r0, hQ2, hsm2, eq0, er0, hr0, hr0b, hQ0, hq0b⟩ := startL (u := u21) (u1 := u0) HY.out HB.out.1 HB.out.2.2.1 HB.out.2.1 hl21 HB.out.2.2.2.2.2.1
    have HS2 : Hid (∃ q r : Nat, (u21 : Int) / (v1 : Int) = q ∧ IntKind.u64.wrap ((u21 : Int) - IntKind.u64.wrap ((u21 : Int) / (v1 : Int) * (v1 : Int))) = r ∧ Q2 ≤ q ∧ q ≤ 4294967297 ∧ r + q * v1 = u21 ∧ r < 4294967296) := ⟨q0, r0, eq0, by rw [eq0]; exact er0, hQ0, hq0b, hr0, hr0b⟩
    have eR := rem_wrap u21 u0 Y Q2 HB.out.2.2.2.2.2.2 hY0.out hQ2
    obtain ⟨r2, hr2⟩ : ∃ v, v = (u21 * 4294967296 + u0) % Y := ⟨_, rfl⟩
    rw [← hr2] at eR
    have HW := whole_div hi lo y s Y u32 u1 u0 Q u21 Q2 r2 HYs.out hY0.out HU.out HQ.out h21 hQ2 hr2
    have HW : Hid (Q * 4294967296 + Q2 = (hi * 18446744073709551616 + lo) / y ∧ r2 / 2 ^ s = (hi * 18446744073709551616 + lo) % y) := HW
    have HQ2 : Hid (Q2 = (u21 * 4294967296 + u0) / Y) := hQ2
    have Hsm2 : Hid (Q2 < 4294967296) := hsm2
    obtain ⟨U21, eU21⟩ : ∃ V : Int, (u21 : Int) = V := ⟨_, rfl⟩
    obtain ⟨Q2I, eQ2I⟩ : ∃ V : Int, (Q2 : Int) = V := ⟨_, rfl⟩
    obtain ⟨R2, eR2⟩ : ∃ V : Int, (r2 : Int) = V := ⟨_, rfl⟩
    obtain ⟨eYI, eV1, eV0, eU32, eU1, eU0, eQI⟩ := HE.out
    rw [eU32, eU1, eQI, eYI, eU21] at e21
    rw [eU21, eU0, eQ2I, eYI, eR2] at eR
    rw [eU21, eV1] at HS2
    have bU21 : 0 ≤ U21 ∧ U21 < YI := by omega
    have bQ2 : 0 ≤ Q2I ∧ Q2I < 4294967296 := by have := Hsm2.out; omega
    have hl2 : r2 < Y := by rw [hr2]; exact Nat.mod_lt _ hY0.out
    have bR2 : 0 ≤ R2 ∧ R2 < YI := by rw [← eR2, ← eYI]; omega
    have HQ2I : Hid ((Q2 : Int) = Q2I) := eQ2I
    have HR2 : Hid ((r2 : Int) = R2) := eR2
    clear h21 hl21 hQ2 hsm2 eq0 er0 hr0 hr0b hQ0 hq0b hr2 eU21 eQ2I eR2 eYI eV1 eV0 eU32 eU1 eU0 eQI hl2
    go_upto_block 2 with fail
    clear e21
    go_cut [18, 16] (fun q r wx => q = .int .u64 Q2I ∧ (∃ z, r = .int .u64 z) ∧ w = wx)
    case first =>
      go_wp2_with fail
      go_loopw [18, 16] (fun va vb wx => ∃ x z : Int, va = .int .u64 x ∧ vb = .int .u64 z ∧ Hid (∃ q r : Nat, x = q ∧ z = r ∧ Q2 ≤ q ∧ q ≤ 4294967297 ∧ r + q * v1 = u21 ∧ r < 4294967296) ∧ w = wx) (fun va _ _ => (intOf va).natAbs)
      case atStart => exact ⟨_, _, rfl, rfl, HS2, by trivial⟩
      case round =>
        obtain ⟨x, z, rfl, rfl, HRq, rfl⟩ := hrel
        have hx0 : 0 ≤ x := by obtain ⟨q, r, e1, e2, _⟩ := HRq.out; omega
        have hz0 : 0 ≤ z := by obtain ⟨q, r, e1, e2, _⟩ := HRq.out; omega
        have hx1 : x ≤ 4294967297 := by obtain ⟨q, r, e1, e2, _, h, _⟩ := HRq.out; omega
        have hz1 : z < 4294967296 := by obtain ⟨q, r, e1, e2, _, _, _, h⟩ := HRq.out; omega
        have HD : Hid ((4294967296 ≤ x ∨ ∃ q : Nat, x = q ∧ 4294967296 * z + U0 < ((q * v0 : Nat) : Int)) → ∃ q r : Nat, x - 1 = q ∧ z + V1 = r ∧ Q2 ≤ q ∧ q ≤ 4294967296 ∧ r + q * v1 = u21) := by
          intro hor
          obtain ⟨q, r, rfl, rfl, h1, h2, h3, h4⟩ := HRq.out
          have hor2 : 4294967296 ≤ q ∨ 4294967296 * r + u0 < q * v0 := by
            rcases hor with h | ⟨q', e, h⟩
            · left; omega
            · right
              obtain rfl : q = q' := by omega
              have := HE.out
              omega
          have hp : 1 ≤ q := by
            rcases hor2 with h | h
            · omega
            · rcases Nat.eq_zero_or_pos q with e | e
              · subst e; simp at h
              · exact e
          obtain ⟨k1, k2⟩ := goL HY.out HQ2.out HB.out.1 h3 hor2 Hsm2.out h1
          exact ⟨q - 1, r + v1, by omega, by rw [← HV1.out]; omega, k1, by omega, k2⟩
        by_cases hx : 4294967296 ≤ x
        · go_wp2
          · go_meet
            refine ⟨?_, ⟨_, rfl⟩, rfl⟩
            obtain ⟨q, r, e1, e2, k1, k2, k3⟩ := HD.out (.inl hx)
            rw [e1, ← breakL HY.out HQ2.out HB.out.1 HB.out.2.1 k3 (by omega) k2 k1, HQ2I.out]
          · go_roundw
            case rel =>
              obtain ⟨q, r, e1, e2, k1, k2, k3⟩ := HD.out (.inl hx)
              exact ⟨_, _, rfl, rfl, ⟨q, r, e1, e2, k1, by omega, k3, by omega⟩, by trivial⟩
            case measure => simp [intOf]; omega
        · have HM : Hid (∃ q : Nat, x = q ∧ IntKind.u64.wrap (x * V0) = ((q * v0 : Nat) : Int)) := by
            obtain ⟨q, r, rfl, rfl, _⟩ := HRq.out
            refine ⟨q, rfl, ?_⟩
            rw [← HE.out.2.2.1]
            exact q_v0 q v0 (by omega) HB.out.2.1
          obtain ⟨M, hM⟩ : ∃ M, IntKind.u64.wrap (x * V0) = M := ⟨_, rfl⟩
          rw [hM] at HM
          by_cases hgt : 4294967296 * z + U0 < M
          · have HP := HD.out (.inr (by obtain ⟨q, e, h⟩ := HM.out; exact ⟨q, e, by omega⟩))
            have HP : Hid (∃ q r : Nat, x - 1 = q ∧ z + V1 = r ∧ Q2 ≤ q ∧ q ≤ 4294967296 ∧ r + q * v1 = u21) := HP
            have hx2 : 1 ≤ x := by obtain ⟨q, r, e1, _⟩ := HP.out; omega
            go_wp2
            · go_meet
              refine ⟨?_, ⟨_, rfl⟩, rfl⟩
              obtain ⟨q, r, e1, e2, k1, k2, k3⟩ := HP.out
              rw [e1, ← breakL HY.out HQ2.out HB.out.1 HB.out.2.1 k3 (by omega) k2 k1, HQ2I.out]
            · go_roundw
              case rel =>
                obtain ⟨q, r, e1, e2, k1, k2, k3⟩ := HP.out
                exact ⟨_, _, rfl, rfl, ⟨q, r, e1, e2, k1, by omega, k3, by omega⟩, by trivial⟩
              case measure => simp [intOf]; omega
          · go_wp2
            go_meet
            refine ⟨?_, ⟨_, rfl⟩, rfl⟩
            obtain ⟨q, r, rfl, rfl, h1, h2, h3, h4⟩ := HRq.out
            have hE := HE.out
            obtain ⟨q', e, hm⟩ := HM.out
            obtain rfl : q = q' := by omega
            rw [← endL HY.out HQ2.out HB.out.1 h3 (by omega) h1, HQ2I.out]
    case rest =>
      obtain ⟨rfl, ⟨z2, rfl⟩, rfl⟩ := hcut
      go_wp2
      go_ret2
      obtain ⟨e1, e2⟩ := HW.out
      refine ⟨ret_two ?_ ?_, rfl⟩
      · rw [← e1, ← HQI.out, ← HQ2I.out]; simp
      · rw [← e2, ← HR2.out]; simp

theorem div_any (hi lo y : Nat) (hlo : lo < 18446744073709551616) (hy : y < 18446744073709551616) (hlt : hi < y) (w : World) :
    Calls Try.prog 98 #[.int .u64 hi, .int .u64 lo, .int .u64 y] w fun e w' => e = .returned (.tuple #[.int .u64 ((hi * 18446744073709551616 + lo) / y : Nat), .int .u64 ((hi * 18446744073709551616 + lo) % y : Nat)]) ∧ Below w.heap.size w w' := by
  rcases Nat.eq_zero_or_pos hi with rfl | h0
  · have := div_zero lo y hlo hy hlt w
    rw [Nat.zero_mul, Nat.zero_add]
    exact this
  · exact (div_some hi lo y hlo hy h0 hlt w).mono fun e w' ⟨h1, h2⟩ => ⟨h1, h2 ▸ Below.refl _ _⟩
end Go.Proofs.Ytipnefaggpigfaa
