/- Contracts of package ratio's products, quotients and rests of 128 bits. -/
import Derived.Test.YtipnefaggpigfaaRatW2
namespace Go.Proofs.Ytipnefaggpigfaa
open Go.RowKit Go.Shelf
attribute [local go_sem] Oper.semAt_some

/-- A number without its sign. -/
def sz (k : Int) : Int := (k.natAbs : Int)
theorem sz_range (k : Int) (h : -9223372036854775808 ≤ k ∧ k ≤ 9223372036854775807) : 0 ≤ sz k ∧ sz k ≤ 9223372036854775808 := by unfold sz; omega
theorem size_i (k : Int) (h : -9223372036854775808 ≤ k ∧ k ≤ 9223372036854775807) (w : World) :
    Calls Try.prog 70 #[.int .i64 k] w fun e w' => e = .returned (.int .u64 (sz k)) ∧ w' = w := size_any k h.1 h.2 w
theorem mul_i (x y : Int) (hx : 0 ≤ x ∧ x < 18446744073709551616) (hy : 0 ≤ y ∧ y < 18446744073709551616) (w : World) : Calls Try.prog 75 #[.int .u64 x, .int .u64 y] w fun e w' => e = .returned (.tuple #[.int .u64 (hiZ (x * y)), .int .u64 (loZ (x * y))]) ∧ w' = w := by
  obtain ⟨a, rfl⟩ := Int.eq_ofNat_of_zero_le hx.1
  obtain ⟨b, rfl⟩ := Int.eq_ofNat_of_zero_le hy.1
  have h := Any.bits_Mul64 lay264 a b (by omega) (by omega) w
  have hp : a * b ≤ 18446744073709551615 * 18446744073709551615 := Nat.mul_le_mul (by omega) (by omega)
  rw [← Int.natCast_mul, show hiZ ((a * b : Nat) : Int) = ((a * b / 18446744073709551616 : Nat) : Int) by unfold hiZ; generalize a * b = p at *; omega, show loZ ((a * b : Nat) : Int) = ((a * b % 18446744073709551616 : Nat) : Int) by unfold loZ; omega]
  exact h
theorem div_i (hi lo y : Int) (hh : 0 ≤ hi ∧ hi < y) (hl : 0 ≤ lo ∧ lo < 18446744073709551616) (hy : y < 18446744073709551616) (w : World) :
    Calls Try.prog 98 #[.int .u64 hi, .int .u64 lo, .int .u64 y] w fun e w' => e = .returned (.tuple #[.int .u64 ((hi * 18446744073709551616 + lo) / y), .int .u64 ((hi * 18446744073709551616 + lo) % y)]) ∧ Below w.heap.size w w' := by
  obtain ⟨a, rfl⟩ := Int.eq_ofNat_of_zero_le hh.1
  obtain ⟨b, rfl⟩ := Int.eq_ofNat_of_zero_le hl.1
  obtain ⟨c, rfl⟩ := Int.eq_ofNat_of_zero_le (show 0 ≤ y by omega)
  have h := div_any a b c (by omega) (by omega) (by omega) w
  have e : (a : Int) * 18446744073709551616 + (b : Int) = ((a * 18446744073709551616 + b : Nat) : Int) := by omega
  rw [e, ← Int.natCast_ediv, ← Int.natCast_emod]
  exact h
theorem divisor_i (x y : Int) (hx : 0 ≤ x ∧ x < 18446744073709551616) (hy : 0 ≤ y ∧ y < 18446744073709551616) (w : World) :
    Calls Try.prog 71 #[.int .u64 x, .int .u64 y] w fun e w' => e = .returned (.int .u64 (x.toNat.gcd y.toNat : Nat)) ∧ Below w.heap.size w w' := by
  obtain ⟨a, rfl⟩ := Int.eq_ofNat_of_zero_le hx.1
  obtain ⟨b, rfl⟩ := Int.eq_ofNat_of_zero_le hy.1
  exact divisor_any a b (by omega) (by omega) w

theorem sz_mul_same (a b : Int) (h : (decide (a < 0) != decide (b < 0)) = false) : sz a * sz b = a * b := by
  unfold sz
  by_cases ha : a < 0 <;> by_cases hb : b < 0 <;> simp [ha, hb] at h
  · rw [show (a.natAbs : Int) = -a by omega, show (b.natAbs : Int) = -b by omega, Int.neg_mul_neg]
  · rw [show (a.natAbs : Int) = a by omega, show (b.natAbs : Int) = b by omega]
theorem sz_mul_other (a b : Int) (h : (decide (a < 0) != decide (b < 0)) = true) : -(sz a * sz b) = a * b := by
  unfold sz
  by_cases ha : a < 0 <;> by_cases hb : b < 0 <;> simp [ha, hb] at h
  · rw [show (a.natAbs : Int) = -a by omega, show (b.natAbs : Int) = b by omega, Int.neg_mul, Int.neg_neg]
  · rw [show (a.natAbs : Int) = a by omega, show (b.natAbs : Int) = -b by omega, Int.mul_neg, Int.neg_neg]

set_option maxHeartbeats 400000 in
theorem product_any (a b : Int) (ha : -9223372036854775808 ≤ a ∧ a ≤ 9223372036854775807) (hb : -9223372036854775808 ≤ b ∧ b ≤ 9223372036854775807) (w : World) :
    Calls Try.prog 66 #[.int .i64 a, .int .i64 b] w fun e w' => e = .returned (wv (a * b)) ∧ Below w.heap.size w w' := by
  have ra := sz_range a ha
  have rb := sz_range b hb
  go_enter Try.func66, Try.ntmps66
  go_wp2_with fail
  go_at_call 70
  refine (size_i a ha _).mono ?_
  rintro e w1 ⟨rfl, hw⟩
  obtain rfl := hw.symm
  go_wp2_with fail
  go_at_call 70
  refine (size_i b hb _).mono ?_
  rintro e w1 ⟨rfl, hw⟩
  obtain rfl := hw.symm
  go_wp2_with fail
  go_at_call 75
  refine (mul_i (sz a) (sz b) (by omega) (by omega) _).mono ?_
  rintro e w1 ⟨rfl, hw⟩
  obtain rfl := hw.symm
  go_wp2_with fail
  · rename_i h _ _ _ _ 
    have hm : -(sz a * sz b) = a * b := sz_mul_other a b (by simpa [bne] using h)
    go_at_call 76
    refine (negative_any (sz a * sz b) _).mono ?_
    rintro e w2 ⟨rfl, b2⟩
    rw [hm]
    obtain ⟨hc, hf⟩ := bcell b2
    simp only [wv]
    go_wp2_with fail
    exact bodyPost_ret (v := wv (a * b)) (by simp [results, Try.results66, go_sem, hc, wv]) rfl ⟨rfl, ((bup (bel1 _ _) b2).setCell (by simp) _).setCell (by simp) _⟩
  · rename_i h
    have hm : sz a * sz b = a * b := sz_mul_same a b (by simpa [bne] using h)
    rw [hm]
    exact bodyPost_ret (v := wv (a * b)) (by simp [results, Try.results66, go_sem, wv]) rfl ⟨rfl, bel1 _ _⟩

theorem floor_pos (a d : Int) (h0 : 0 ≤ a) (h1 : a < 170141183460469231731687303715884105728) (hd : 0 < d) (hd2 : d < 18446744073709551616) (w : World) :
    Calls Try.prog 91 #[wv a, .int .u64 d] w fun e w' => e = .returned (wv (a / d)) ∧ Below w.heap.size w w' := by
  have hh : 0 ≤ hiZ a ∧ hiZ a < 9223372036854775808 := by unfold hiZ; omega
  have hl := loZ_range a
  have hn : ¬ d = 0 := by omega
  have m0 := Int.emod_nonneg (hiZ a) hn
  have m1 := Int.emod_lt_of_pos (hiZ a) hd
  obtain ⟨e1, e2⟩ := floor_halves a d h0 h1 hd hd2
  have tm : (hiZ a).tmod d = hiZ a % d := Int.tmod_eq_emod_of_nonneg hh.1
  have H2 : Hid ((hiZ a % d * 18446744073709551616 + loZ a) / d = loZ (a / d)) := e2
  clear e2
  unfold wv
  go_enter Try.func91, Try.ntmps91
  go_wp2_with fail
  go_region_with (go_at_call 98; refine (div_i (hiZ a % d) (loZ a) d ⟨m0, m1⟩ hl hd2 _).mono ?_; rintro e w1 ⟨rfl, b1⟩; rw [H2.out])
  all_goals (obtain ⟨hc, hf⟩ := bcell b1)
  all_goals go_wp2_with fail
  all_goals exact bodyPost_ret (v := .agg #[.int .u64 (hiZ (a / d)), .int .u64 (loZ (a / d))]) (by simp [results, Try.results91, go_sem, hc]) rfl ⟨rfl, ((bup (bel2 _ _ _).drew b1).setCell (by simp) _).setCell (by simp) _⟩

theorem floor_neg (a d : Int) (h0 : -170141183460469231731687303715884105728 ≤ a) (h1 : a < 0) (hd : 0 < d) (hd2 : d < 18446744073709551616) (w : World) :
    Calls Try.prog 91 #[wv a, .int .u64 d] w fun e w' => e = .returned (wv (a / d)) ∧ Below w.heap.size w w' := by
  have hh : wrap64 (hiZ a) < 0 := by unfold wrap64 hiZ; omega
  have hl := loZ_range a
  have H2 : Hid (-1 - (-1 - a) / d = a / d) := floor_flip a d hd
  have hb : -1 - a < 170141183460469231731687303715884105728 := by omega
  unfold wv
  go_enter Try.func91, Try.ntmps91
  go_wp2_with fail
  go_at_call 93
  refine (flip_any a _).mono ?_
  rintro e w1 ⟨rfl, b1⟩
  go_wp2_with fail
  go_at_call 91
  refine (floor_pos (-1 - a) d (by omega) hb hd hd2 _).mono ?_
  rintro e w2 ⟨rfl, b2⟩
  go_wp2_with fail
  go_at_call 93
  refine (flip_any ((-1 - a) / d) _).mono ?_
  rintro e w3 ⟨rfl, b3⟩
  rw [H2.out]
  have BB := bup (bup b1 b2) b3
  obtain ⟨hc, hf⟩ := bcell BB
  clear b1 b2 b3
  simp only [wv]
  go_wp2_with fail
  exact bodyPost_ret (v := .agg #[.int .u64 (hiZ (a / d)), .int .u64 (loZ (a / d))]) (by simp [results, Try.results91, go_sem, hc]) rfl ⟨rfl, ((bup (bel2 _ _ _) BB).setCell (by simp) _).setCell (by simp) _⟩

/-- Between the least and the greatest number of 128 bits. -/
def In128 (a : Int) : Prop := -170141183460469231731687303715884105728 ≤ a ∧ a < 170141183460469231731687303715884105728

theorem floor_any (a d : Int) (h : In128 a) (hd : 0 < d) (hd2 : d < 18446744073709551616) (w : World) :
    Calls Try.prog 91 #[wv a, .int .u64 d] w fun e w' => e = .returned (wv (a / d)) ∧ Below w.heap.size w w' := by
  by_cases h0 : 0 ≤ a
  · exact floor_pos a d h0 h.2 hd hd2 w
  · exact floor_neg a d h.1 (by omega) hd hd2 w
theorem In128.floor {a d : Int} (h : In128 a) (hd : 0 < d) : In128 (a / d) := floor_bounds a d hd h.1 h.2

theorem hideR {P : Prop} (h : P) : Hid P := h
end Go.Proofs.Ytipnefaggpigfaa
