/- Contracts of package ratio's products, quotients and rests of 128 bits. -/
import Derived.Test.YtdikfcnbkckinaaGreatDoorRatW2
namespace Go.Proofs.YtdikfcnbkckinaaGreatDoor
open Go.RowKit Go.Shelf
attribute [local go_sem] Oper.semAt_some

/-- A number without its sign. -/
def sz (k : Int) : Int := (k.natAbs : Int)
theorem sz_range (k : Int) (h : -9223372036854775808 ≤ k ∧ k ≤ 9223372036854775807) : 0 ≤ sz k ∧ sz k ≤ 9223372036854775808 := by unfold sz; omega
theorem size_i (k : Int) (h : -9223372036854775808 ≤ k ∧ k ≤ 9223372036854775807) (w : World) :
    Calls Tryz.prog 56 #[.int .i64 k] w fun e w' => e = .returned (.int .u64 (sz k)) ∧ w' = w := size_any k h.1 h.2 w
theorem mul_i (x y : Int) (hx : 0 ≤ x ∧ x < 18446744073709551616) (hy : 0 ≤ y ∧ y < 18446744073709551616) (w : World) : Calls Tryz.prog 58 #[.int .u64 x, .int .u64 y] w fun e w' => e = .returned (.tuple #[.int .u64 (hiZ (x * y)), .int .u64 (loZ (x * y))]) ∧ w' = w := by
  obtain ⟨a, rfl⟩ := Int.eq_ofNat_of_zero_le hx.1
  obtain ⟨b, rfl⟩ := Int.eq_ofNat_of_zero_le hy.1
  have h := Any.bits_Mul64 lay264 a b (by omega) (by omega) w
  have hp : a * b ≤ 18446744073709551615 * 18446744073709551615 := Nat.mul_le_mul (by omega) (by omega)
  rw [← Int.natCast_mul, show hiZ ((a * b : Nat) : Int) = ((a * b / 18446744073709551616 : Nat) : Int) by unfold hiZ; generalize a * b = p at *; omega, show loZ ((a * b : Nat) : Int) = ((a * b % 18446744073709551616 : Nat) : Int) by unfold loZ; omega]
  exact h
theorem divisor_i (x y : Int) (hx : 0 ≤ x ∧ x < 18446744073709551616) (hy : 0 ≤ y ∧ y < 18446744073709551616) (w : World) :
    Calls Tryz.prog 57 #[.int .u64 x, .int .u64 y] w fun e w' => e = .returned (.int .u64 (x.toNat.gcd y.toNat : Nat)) ∧ Below w.heap.size w w' := by
  obtain ⟨a, rfl⟩ := Int.eq_ofNat_of_zero_le hx.1
  obtain ⟨b, rfl⟩ := Int.eq_ofNat_of_zero_le hy.1
  exact divisor_any a b (by omega) (by omega) w

theorem sz_mul_same (a b : Int) (h : (decide (a < 0) != decide (b < 0)) = false) : sz a * sz b = a * b := by
  unfold sz
  by_cases ha : a < 0 <;> by_cases hb : b < 0 <;> simp [ha, hb] at h
  · rw [show (a.natAbs : Int) = -a by omega, show (b.natAbs : Int) = -b by omega, Int.neg_mul_neg]
  · rw [show (a.natAbs : Int) = a by omega, show (b.natAbs : Int) = b by omega]
theorem sz_mul_other (a b : Int) (h : (decide (a < 0) != decide (b < 0)) = true) : -(sz a * sz b) = a * b := by
  unfold sz
  by_cases ha : a < 0 <;> by_cases hb : b < 0 <;> simp [ha, hb] at h
  · rw [show (a.natAbs : Int) = -a by omega, show (b.natAbs : Int) = b by omega, Int.neg_mul, Int.neg_neg]
  · rw [show (a.natAbs : Int) = a by omega, show (b.natAbs : Int) = -b by omega, Int.mul_neg, Int.neg_neg]

set_option maxHeartbeats 400000 in
theorem product_any (a b : Int) (ha : -9223372036854775808 ≤ a ∧ a ≤ 9223372036854775807) (hb : -9223372036854775808 ≤ b ∧ b ≤ 9223372036854775807) (w : World) :
    Calls Tryz.prog 35 #[.int .i64 a, .int .i64 b] w fun e w' => e = .returned (wv (a * b)) ∧ Below w.heap.size w w' := by
  have ra := sz_range a ha
  have rb := sz_range b hb
  go_enter Tryz.func35, Tryz.ntmps35
  go_wp2_with fail
  go_at_call 56
  refine (size_i a ha _).mono ?_
  rintro e w1 ⟨rfl, hw⟩
  obtain rfl := hw.symm
  go_wp2_with fail
  go_at_call 56
  refine (size_i b hb _).mono ?_
  rintro e w1 ⟨rfl, hw⟩
  obtain rfl := hw.symm
  go_wp2_with fail
  go_at_call 58
  refine (mul_i (sz a) (sz b) (by omega) (by omega) _).mono ?_
  rintro e w1 ⟨rfl, hw⟩
  obtain rfl := hw.symm
  go_wp2_with fail
  · rename_i h _ _ _ _ 
    have hm : -(sz a * sz b) = a * b := sz_mul_other a b (by simpa [bne] using h)
    go_at_call 59
    refine (negative_any (sz a * sz b) _).mono ?_
    rintro e w2 ⟨rfl, b2⟩
    rw [hm]
    obtain ⟨hc, hf⟩ := bcell b2
    simp only [wv]
    go_wp2_with fail
    exact bodyPost_ret (v := wv (a * b)) (by simp [results, Tryz.results35, go_sem, hc, wv]) rfl ⟨rfl, ((bup (bel1 _ _) b2).setCell (by simp) _).setCell (by simp) _⟩
  · rename_i h
    have hm : sz a * sz b = a * b := sz_mul_same a b (by simpa [bne] using h)
    rw [hm]
    exact bodyPost_ret (v := wv (a * b)) (by simp [results, Tryz.results35, go_sem, wv]) rfl ⟨rfl, bel1 _ _⟩

/-- Between the least and the greatest number of 128 bits. -/
def In128 (a : Int) : Prop := -170141183460469231731687303715884105728 ≤ a ∧ a < 170141183460469231731687303715884105728

theorem In128.floor {a d : Int} (h : In128 a) (hd : 0 < d) : In128 (a / d) := floor_bounds a d hd h.1 h.2

theorem hideR {P : Prop} (h : P) : Hid P := h
end Go.Proofs.YtdikfcnbkckinaaGreatDoor
