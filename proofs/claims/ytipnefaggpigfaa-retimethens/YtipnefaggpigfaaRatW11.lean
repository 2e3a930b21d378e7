/- The contract of package ratio's Div. -/
import Derived.Test.YtipnefaggpigfaaRatW10
namespace Go.Proofs.Ytipnefaggpigfaa
open Go.RowKit Go.Shelf
attribute [local go_sem] Oper.semAt_some

theorem low_wide (P Q : Int) (hQ : 2147483648 < Q) (hc : P.natAbs.gcd Q.natAbs = 1) : low (Rat.divInt P Q) = (⟨0, 0⟩, 12) := by
  rw [low_eq P Q _ (by omega) rfl, gcd_rest P Q (by omega), hc, if_neg]
  simp
  omega

/-- All that Div reckons, of two right ratios, the second not 0. -/
theorem div_math (a b : Rt) (ha : rightB a = true) (hb : rightB b = true) (h0 : ¬ b.N = 0) :
    ∃ t u n m x y : Int, t = ((sz a.N).toNat.gcd (sz b.N).toNat : Nat) ∧ u = (a.D.toNat.gcd b.D.toNat : Nat) ∧ 0 < t ∧ t ≤ 4611686018427387904 ∧ 0 < u ∧ u ≤ 2147483648 ∧
      a.D.tdiv u = x ∧ 0 < x ∧ x ≤ 2147483648 ∧ (sz b.N).tdiv t = y ∧ 0 < y ∧ y ≤ 4611686018427387904 ∧ a.N.tdiv t = n ∧ (-4611686018427387904 ≤ n ∧ n ≤ 4611686018427387904) ∧ b.D.tdiv u = m ∧ (0 < m ∧ m ≤ 2147483648) ∧
      (n * m).natAbs.gcd (x * y).natAbs = 1 ∧ (0 < b.N → valQ a / valQ b = Rat.divInt (n * m) (x * y)) ∧ (b.N < 0 → valQ a / valQ b = Rat.divInt (-(n * m)) (x * y)) := by
  obtain ⟨a1, a2, a3, a4, ag⟩ := (right_iff a).1 ha
  obtain ⟨b1, b2, b3, b4, bg⟩ := (right_iff b).1 hb
  obtain ⟨T, hT⟩ : ∃ T, T = a.N.natAbs.gcd b.N.natAbs := ⟨_, rfl⟩
  obtain ⟨U, hU⟩ : ∃ U, U = a.D.natAbs.gcd b.D.natAbs := ⟨_, rfl⟩
  have hT0 : 0 < T := by rw [hT]; exact Nat.gcd_pos_of_pos_right _ (by omega)
  have hU0 : 0 < U := by rw [hU]; exact Nat.gcd_pos_of_pos_right _ (by omega)
  have dTa : T ∣ a.N.natAbs := by rw [hT]; exact Nat.gcd_dvd_left _ _
  have dTb : T ∣ b.N.natAbs := by rw [hT]; exact Nat.gcd_dvd_right _ _
  have dUa : U ∣ a.D.natAbs := by rw [hU]; exact Nat.gcd_dvd_left _ _
  have dUb : U ∣ b.D.natAbs := by rw [hU]; exact Nat.gcd_dvd_right _ _
  have hTle : T ≤ b.N.natAbs := Nat.le_of_dvd (by omega) dTb
  have hUle : U ≤ a.D.natAbs := Nat.le_of_dvd (by omega) dUa
  -- the parts
  obtain ⟨n, hn⟩ : (T : Int) ∣ a.N := Int.ofNat_dvd_left.2 dTa
  obtain ⟨k, hk⟩ : (T : Int) ∣ b.N := Int.ofNat_dvd_left.2 dTb
  obtain ⟨x, hx⟩ : (U : Int) ∣ a.D := Int.ofNat_dvd_left.2 dUa
  obtain ⟨m, hm⟩ : (U : Int) ∣ b.D := Int.ofNat_dvd_left.2 dUb
  have hTi : (0 : Int) < T := by omega
  have hUi : (0 : Int) < U := by omega
  have en : a.N.tdiv T = n := by rw [hn, Int.mul_tdiv_cancel_left _ (by omega)]
  have ex : a.D.tdiv U = x := by rw [hx, Int.mul_tdiv_cancel_left _ (by omega)]
  have em : b.D.tdiv U = m := by rw [hm, Int.mul_tdiv_cancel_left _ (by omega)]
  have es : sz b.N = T * (k.natAbs : Int) := by unfold sz; rw [hk, Int.natAbs_mul, Int.natAbs_natCast]; simp
  have ey : (sz b.N).tdiv T = (k.natAbs : Int) := by rw [es, Int.mul_tdiv_cancel_left _ (by omega)]
  have hk0 : k ≠ 0 := fun e => h0 (by rw [hk, e, Int.mul_zero])
  have hx0 : 0 < x := Int.pos_of_mul_pos_right (by rw [← hx]; omega) (by omega)
  have hm0 : 0 < m := Int.pos_of_mul_pos_right (by rw [← hm]; omega) (by omega)
  have eN : a.N.natAbs = T * n.natAbs := by rw [hn, Int.natAbs_mul, Int.natAbs_natCast]
  have eK : b.N.natAbs = T * k.natAbs := by rw [hk, Int.natAbs_mul, Int.natAbs_natCast]
  have eX : a.D.natAbs = U * x.natAbs := by rw [hx, Int.natAbs_mul, Int.natAbs_natCast]
  have eM : b.D.natAbs = U * m.natAbs := by rw [hm, Int.natAbs_mul, Int.natAbs_natCast]
  have le : ∀ (A B C : Nat), 0 < A → B = A * C → C ≤ B := fun A B C h e => by rw [e]; exact Nat.le_mul_of_pos_left _ h
  have l1 := le _ _ _ hT0 eN
  have l2 := le _ _ _ hT0 eK
  have l3 := le _ _ _ hU0 eX
  have l4 := le _ _ _ hU0 eM
  -- no divisor in common
  have c1 : n.natAbs.gcd k.natAbs = 1 := by
    have : T * (n.natAbs.gcd k.natAbs) = T * 1 := by rw [← Nat.gcd_mul_left, ← eN, ← eK, ← hT, Nat.mul_one]
    exact Nat.eq_of_mul_eq_mul_left hT0 this
  have c2 : m.natAbs.gcd x.natAbs = 1 := by
    have : U * (m.natAbs.gcd x.natAbs) = U * 1 := by rw [← Nat.gcd_mul_left, ← eM, ← eX, Nat.gcd_comm, ← hU, Nat.mul_one]
    exact Nat.eq_of_mul_eq_mul_left hU0 this
  have c3 : n.natAbs.gcd x.natAbs = 1 := by
    apply Nat.eq_one_of_dvd_one
    rw [← ag]
    exact Nat.dvd_gcd (Nat.dvd_trans (Nat.gcd_dvd_left _ _) ⟨T, by rw [eN, Nat.mul_comm]⟩) (Nat.dvd_trans (Nat.gcd_dvd_right _ _) ⟨U, by rw [eX, Nat.mul_comm]⟩)
  have c4 : m.natAbs.gcd k.natAbs = 1 := by
    apply Nat.eq_one_of_dvd_one
    rw [← bg]
    exact Nat.dvd_gcd (Nat.dvd_trans (Nat.gcd_dvd_right _ _) ⟨T, by rw [eK, Nat.mul_comm]⟩) (Nat.dvd_trans (Nat.gcd_dvd_left _ _) ⟨U, by rw [eM, Nat.mul_comm]⟩)
  have ev : valQ a / valQ b = Rat.divInt (n * m) (x * k) := by
    rw [val_div]
    have e1 : a.N * b.D = (T * U) * (n * m) := by rw [hn, hm]; simp only [Int.mul_assoc, Int.mul_left_comm]
    have e2 : a.D * b.N = (T * U) * (x * k) := by rw [hx, hk]; simp only [Int.mul_assoc, Int.mul_left_comm]
    rw [e1, e2, Rat.divInt_mul_left]
    have := Int.mul_pos hTi hUi
    omega
  refine ⟨T, U, n, m, x, (k.natAbs : Int), ?_, ?_, hTi, by omega, hUi, by omega, ex, hx0, by omega, ey, by omega, by omega, en, by omega, em, ⟨hm0, by omega⟩, ?_, ?_, ?_⟩
  · rw [hT]; unfold sz; simp
  · rw [hU]; congr 1; congr 1 <;> omega
  · rw [Int.natAbs_mul, Int.natAbs_mul, Int.natAbs_natCast]
    exact Nat.Coprime.mul_left (Nat.Coprime.mul_right c3 c1) (Nat.Coprime.mul_right c2 c4)
  · intro hp
    have : 0 < k := Int.pos_of_mul_pos_right (by rw [← hk]; omega) (by omega)
    rw [ev, show ((k.natAbs : Nat) : Int) = k by omega]
  · intro hp
    have : k < 0 := by
      apply Int.neg_of_mul_neg_right (a := T) (by rw [← hk]; exact hp) (by omega)
    rw [ev, show ((k.natAbs : Nat) : Int) = -k by omega, Int.mul_neg, Rat.neg_divInt_neg]

set_option maxRecDepth 100000 in
set_option maxHeartbeats 300000 in
theorem div_not (an ad bn bd : Int) (ok : Bool)
    (HA : ∀ w, Calls Try.prog 43 #[.agg #[.int .i64 an, .int .i64 ad]] w fun e w' => e = .returned (.bool ok) ∧ Below w.heap.size w w')
    (HB : ok = true → ∀ w, Calls Try.prog 43 #[.agg #[.int .i64 bn, .int .i64 bd]] w fun e w' => e = .returned (.bool false) ∧ Below w.heap.size w w') (w : World) :
    Calls Try.prog 49 #[.agg #[.int .i64 an, .int .i64 ad], .agg #[.int .i64 bn, .int .i64 bd]] w fun e w' => e = .returned (.tuple #[.agg #[.int .i64 0, .int .i64 0], .int .i64 12]) ∧ Below w.heap.size w w' := by
  have HA := hideR HA
  cases ok
  all_goals (
    go_enter Try.func49, Try.ntmps49
    go_wp2_with fail
    go_at_call 43
    refine (HA.out _).mono ?_
    rintro e w1 ⟨rfl, b1⟩
    obtain ⟨hc, hf⟩ := bcell b1
    have z1 := b1.size
    simp at z1)
  · go_wp2_with fail
    exact bodyPost_ret (v := .tuple #[.agg #[.int .i64 0, .int .i64 0], .int .i64 12]) (by simp [results, Try.results49, go_sem, hc]) rfl ⟨rfl, ((bup (bel3 w _ _ _) b1).setCell (by simp; omega) _).setCell (by simp; omega) _⟩
  · have HB := hideR (HB (by trivial))
    go_wp2_with fail
    go_at_call 43
    refine (HB.out _).mono ?_
    rintro e w2 ⟨rfl, b2⟩
    have B2 := bup b1 b2
    clear hc hf b1 b2 z1
    obtain ⟨hc, hf⟩ := bcell B2
    have z1 := B2.size
    simp at z1
    go_wp2_with fail
    exact bodyPost_ret (v := .tuple #[.agg #[.int .i64 0, .int .i64 0], .int .i64 12]) (by simp [results, Try.results49, go_sem, hc]) rfl ⟨rfl, ((bup (bel3 w _ _ _) B2).setCell (by simp; omega) _).setCell (by simp; omega) _⟩


set_option maxRecDepth 100000 in
set_option maxHeartbeats 400000 in
theorem div_zeroR (an ad bd : Int)
    (HA : ∀ w, Calls Try.prog 43 #[.agg #[.int .i64 an, .int .i64 ad]] w fun e w' => e = .returned (.bool true) ∧ Below w.heap.size w w')
    (HB : ∀ w, Calls Try.prog 43 #[.agg #[.int .i64 0, .int .i64 bd]] w fun e w' => e = .returned (.bool true) ∧ Below w.heap.size w w') (w : World) :
    Calls Try.prog 49 #[.agg #[.int .i64 an, .int .i64 ad], .agg #[.int .i64 0, .int .i64 bd]] w fun e w' => e = .returned (.tuple #[.agg #[.int .i64 0, .int .i64 0], .int .i64 11]) ∧ Below w.heap.size w w' := by
  have HA := hideR HA
  have HB := hideR HB
  go_enter Try.func49, Try.ntmps49
  go_wp2_with fail
  go_at_call 43
  refine Calls.mono (HA.out _) ?_
  rintro e w1 ⟨rfl, b1⟩
  have S1 := (Three.new w an ad 0 bd 0 0 42).keep b1
  have BB1 := bup (bel3 w _ _ _) b1
  clear b1
  obtain ⟨⟨_, a0, a1, _, _⟩, ⟨_, p0, p1, _, _⟩, ⟨_, c0, c1, f0, f1⟩⟩ := id S1
  go_wp2_with fail
  go_at_call 43
  refine Calls.mono (HB.out _) ?_
  rintro e V ⟨rfl, b2⟩
  have SV := S1.keep b2
  have BV := bup BB1 b2
  clear a0 a1 p0 p1 c0 c1 f0 f1 S1 BB1 b2
  obtain ⟨⟨_, a0, a1, _, _⟩, ⟨_, p0, p1, _, _⟩, ⟨_, c0, c1, f0, f1⟩⟩ := id SV
  go_wp2_with fail
  exact bodyPost_ret (v := .tuple #[.agg #[.int .i64 0, .int .i64 0], .int .i64 11]) (by simp [results, Try.results49, go_sem, c0, c1]) rfl ⟨rfl, (BV.setCell (by simp; omega) _).setCell (by simp; omega) _⟩

theorem quo_any (a b : Rt) (ha : RtIn a) (hb : RtIn b) (w : World) :
    Calls Try.prog 49 #[rtv a, rtv b] w fun e w' => e = .returned (.tuple #[rtv (divA a b).1, .int .i64 (divA a b).2]) ∧ Below w.heap.size w w' := by
  have HA := right_any a ha
  have HB := right_any b hb
  cases h1 : rightB a
  · rw [show divA a b = (⟨0, 0⟩, 12) by unfold divA; rw [if_neg (by simp [h1])]; rfl]
    rw [h1] at HA
    exact div_not a.N a.D b.N b.D false HA (fun h => by cases h) w
  · rw [h1] at HA
    cases h2 : rightB b
    · rw [show divA a b = (⟨0, 0⟩, 12) by unfold divA; rw [if_neg (by simp [h2])]; rfl]
      rw [h2] at HB
      exact div_not a.N a.D b.N b.D true HA (fun _ => HB) w
    · rw [h2] at HB
      by_cases h0 : b.N = 0
      · rw [show divA a b = (⟨0, 0⟩, 11) by unfold divA; rw [if_pos (by simp [h1, h2]), if_pos h0]; rfl]
        simp only [rtv] at *
        rw [h0] at HB ⊢
        exact div_zeroR a.N a.D b.D HA HB w
      · obtain ⟨t, u, n, m, x, y, et, eu, t0, t1, u0, u1, ex, x0, x1, ey, y0, y1, en, n1, em, m1, hc, vp, vn⟩ := div_math a b h1 h2 h0
        have ra := (right_iff a).1 h1
        have rb := (right_iff b).1 h2
        have sa := sz_range a.N ha.1
        have sb := sz_range b.N hb.1
        have hxy0 : 0 < x * y := Int.mul_pos x0 y0
        have hxy1 : x * y ≤ 9903520314283042199192993792 := by
          have := (mul_bounds (x := x) (y := y) (X := 2147483648) (Y := 4611686018427387904) ⟨by omega, by omega⟩ ⟨by omega, by omega⟩).2
          omega
        have hnm := mul_bounds (x := n) (y := m) (X := 4611686018427387904) (Y := 2147483648) n1 ⟨by omega, by omega⟩
        have D1 := divisor_iq (sz a.N) (sz b.N) ⟨sa.1, by omega⟩ ⟨sb.1, by omega⟩
        rw [← et] at D1
        have D2 := divisor_iq a.D b.D ⟨by omega, by omega⟩ ⟨by omega, by omega⟩
        rw [← eu] at D2
        rw [divA_right h1 h2 h0]
        refine div_walk a.N a.D b.N b.D (sz a.N) (sz b.N) t u x y (hiZ (x * y)) (loZ (x * y)) n m (n * m) _ h0 (by omega) ra.2.1 (by omega) rb.2.1 t0 t1 u0 u1 ex (by omega) x1 ey (by omega) y1 en n1 em ⟨by omega, by omega⟩ HA HB (size_i a.N ha.1) (size_i b.N hb.1) D1 D2 (mul_i x y ⟨by omega, by omega⟩ ⟨by omega, by omega⟩) (product_any n m ⟨by omega, by omega⟩ ⟨by omega, by omega⟩) (negative_any (n * m)) ?_ w
        have hh : hiZ (x * y) = x * y / 18446744073709551616 := by unfold hiZ; omega
        by_cases hbig : 18446744073709551616 ≤ x * y
        · refine .inl ⟨by omega, ?_⟩
          rcases (show b.N < 0 ∨ 0 < b.N by omega) with hs | hs
          · rw [vn hs]; exact low_wide _ _ (by omega) (by rw [Int.natAbs_neg]; exact hc)
          · rw [vp hs]; exact low_wide _ _ (by omega) hc
        · have hl : loZ (x * y) = x * y := by unfold loZ; omega
          rw [hl]
          rcases (show b.N < 0 ∨ 0 < b.N by omega) with hs | hs
          · refine .inr (.inr ⟨by omega, hs, ?_⟩)
            rw [vn hs]
            exact lowest_any _ _ (by unfold In128; omega) hxy0 (by omega)
          · refine .inr (.inl ⟨by omega, by omega, ?_⟩)
            rw [vp hs]
            exact lowest_any _ _ (by unfold In128; omega) hxy0 (by omega)
end Go.Proofs.Ytipnefaggpigfaa
