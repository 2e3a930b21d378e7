/- The walk of surtitlelaw5.CodeClocks. -/
import Derived.Test.YtaipdckakgohjaaDoorCdN
import Derived.Test.YtaipdckakgohjaaDoorCRefE
namespace Go.Proofs.YtaipdckakgohjaaDoor
open Go.RowKit Go.Shelf
attribute [local go_sem] Oper.semAt_some

set_option maxRecDepth 100000 in
set_option maxHeartbeats 1000000 in
theorem clocks_walk (fm N D ce : Int) (s : ByteArray) (w : World)
    (HK : ∀ w0, Below w.heap.size w w0 → Calls Tryd.prog 15 #[] w0 fun e w' => e = .returned (.bool true) ∧ Below w0.heap.size w0 w')
    (H1 : ∀ w0, Below w.heap.size w w0 → Calls Tryd.prog 30 #[.int .i64 fm, .agg #[.int .i64 N, .int .i64 D]] w0 fun e w' => e = .returned (.tuple #[.string s, .int .i64 ce]) ∧ Below w0.heap.size w0 w')
    (H2 : ∀ w, Calls Tryd.prog 31 #[.int .i64 fm, .agg #[.int .i64 N, .int .i64 D]] w fun e w' => e = .returned (.tuple #[.string s, .int .i64 ce]) ∧ Below w.heap.size w w') :
    Calls Tryd.prog 8 #[.int .i64 fm, .agg #[.int .i64 N, .int .i64 D]] w fun e w' => e = .returned (.bool true) ∧ Below w.heap.size w w' := by
  have HK := hideR HK
  have H1 := hideR H1
  have H2 := hideR H2
  go_enter Tryd.func8, Tryd.ntmps8
  go_wp2_with fail
  go_at_call 15
  refine (HK.out _ (bel1 w _)).mono ?_
  rintro e w1 ⟨rfl, b1⟩
  have X1 := ((Two.new w (.int .i64 N) (.int .i64 D) 28).keep b1)
  have B1 := bup (bel1 w _) b1
  clear b1
  obtain ⟨_, x0, x1, x2, x3⟩ := id X1
  go_wp2_with fail
  go_at_call 30
  refine (H1.out _ B1).mono ?_
  rintro e w2 ⟨rfl, b2⟩
  have X2 := (X1.keep b2)
  have B2 := bup B1 b2
  clear X1 B1 x0 x1 x2 x3
  clear b2
  obtain ⟨_, x0, x1, x2, x3⟩ := id X2
  go_wp2_with fail
  go_at_call 31
  refine (H2.out _).mono ?_
  rintro e w3 ⟨rfl, b3⟩
  have X3 := (X2.keep b3)
  have B3 := bup B2 b3
  clear X2 B2 x0 x1 x2 x3
  clear b3
  obtain ⟨_, x0, x1, x2, x3⟩ := id X3
  go_wp2_with fail
  go_ret
  exact ⟨by simp, B3⟩
/-- A time on a grid of g parts a second. -/
theorem mul_grid (t : Rt) (g : Int) (ht : timeA t = 0) (hg : 1 ≤ g ∧ g ≤ 1000) :
    (mulA t ⟨g, 1⟩).2 = 0 ∧ ((mulA t ⟨g, 1⟩).1.D = 1 ↔ g % t.D = 0) ∧ (g % t.D = 0 → (mulA t ⟨g, 1⟩).1.N = t.N * (g / t.D)) := by
  obtain ⟨tr, t1, t2, t3, t4⟩ := time_ok ht
  have tg := ((right_iff t).1 tr).2.2.2.2
  have rg : rightB ⟨g, 1⟩ = true := (right_iff _).2 ⟨by simp, by simp, by simp only; omega, by simp only; omega, by simp⟩
  rw [mulA_right tr rg, val_mul]
  simp only [Int.mul_one]
  obtain ⟨P, hP⟩ : ∃ P, t.N * g = P := ⟨_, rfl⟩
  have P0 : 0 ≤ P := by rw [← hP]; exact Int.mul_nonneg t3 (by omega)
  have P1 : P ≤ 377487360000 * 1000 := by rw [← hP]; exact Int.mul_le_mul (by omega) hg.2 (by omega) (by omega)
  rw [hP]
  obtain ⟨e, he⟩ : ∃ e : Nat, P.natAbs.gcd t.D.natAbs = e := ⟨_, rfl⟩
  have e0 : 0 < e := by rw [← he]; exact Nat.gcd_pos_of_pos_right _ (by omega)
  have q1 := q_num P t.D (by omega)
  have q2 := q_den P t.D (by omega)
  rw [he] at q1 q2
  have a2 : (e : Int) * (t.D / e) = t.D := Int.mul_ediv_cancel' (by rw [← he]; exact Int.ofNat_dvd_left.2 (Nat.gcd_dvd_right _ _))
  have b1 : 0 ≤ P / e := Int.ediv_nonneg P0 (by omega)
  have b2 : P / e ≤ P := Int.ediv_le_self _ P0
  have b3 : t.D / e ≤ t.D := Int.ediv_le_self _ (by omega)
  have fits : fitsQ (Rat.divInt P t.D) = true := by
    unfold fitsQ
    rw [q1, q2, decide_eq_true_iff]
    omega
  rw [low_fits _ fits]
  refine ⟨rfl, ?_, ?_⟩
  · simp only
    rw [q2]
    constructor
    · intro h
      rw [h, Int.mul_one] at a2
      have d1 : t.D.natAbs ∣ P.natAbs := by
        rw [show t.D.natAbs = e by omega, ← he]
        exact Nat.gcd_dvd_left _ _
      rw [← hP, Int.natAbs_mul] at d1
      have d2 : t.D.natAbs ∣ g.natAbs := Nat.Coprime.dvd_of_dvd_mul_left (Nat.Coprime.symm tg) d1
      exact Int.emod_eq_zero_of_dvd (Int.natAbs_dvd_natAbs.1 d2)
    · intro h
      have d1 : t.D ∣ P := by rw [← hP]; exact Int.dvd_mul_of_dvd_right (Int.dvd_of_emod_eq_zero h)
      have d2 : e = t.D.natAbs := by
        rw [← he]
        exact Nat.gcd_eq_right (Int.natAbs_dvd_natAbs.2 d1)
      rw [show (e : Int) = t.D by omega]
      exact Int.ediv_self (by omega)
  · intro h
    simp only
    rw [q1]
    have d1 : t.D ∣ P := by rw [← hP]; exact Int.dvd_mul_of_dvd_right (Int.dvd_of_emod_eq_zero h)
    have d2 : e = t.D.natAbs := by
      rw [← he]
      exact Nat.gcd_eq_right (Int.natAbs_dvd_natAbs.2 d1)
    rw [show (e : Int) = t.D by omega, ← hP]
    exact Int.mul_ediv_assoc _ (Int.dvd_of_emod_eq_zero h)
theorem pad_len (x k : Nat) (hx : x ≤ 9223372036854775807) (hk : k ≤ 3) : (padL x k).length ≤ 100 := by
  have := Lib.itoa_length_le (x : Int) (by omega) (by omega)
  rw [itoa_nat] at this
  unfold padL
  simp
  omega
theorem clocks_any (fm : Int) (_ : I64 fm) (t : Rt) (ht : RtIn t) (w : World) (hp : PowAt w) :
    Calls Tryd.prog 8 #[.int .i64 fm, rtv t] w fun e w' => e = .returned (.bool true) ∧ Below w.heap.size w w' := by
  have HK := fun (w0 : World) (b0 : Below w.heap.size w w0) => known5_any w0 (hp.keep b0)
  have HO := dialOf_any fm
  have HG := rgridB fm
  have HT := time_any t ht
  have HR := timed_any t
  by_cases h1 : fm = 1
  · rw [if_pos h1] at HO
    subst h1
    rw [show gridG 1 = 1000 from rfl] at HG
    by_cases ht0 : timeA t = 0
    · rw [ht0] at HT HR
      obtain ⟨tr, t1, t2, t3, t4⟩ := time_ok ht0
      obtain ⟨m1, m2, m3⟩ := mul_grid t 1000 ht0 (by omega)
      have HM := mul_any t ⟨1000, 1⟩ ht ⟨⟨by simp, by simp⟩, ⟨by simp, by simp⟩⟩
      rw [m1] at HM
      by_cases hd : (1000 : Int) % t.D = 0
      · have hD1 := m2.2 hd
        have hN1 := m3 hd
        have k0 : 0 ≤ (1000 : Int) / t.D := Int.ediv_nonneg (by omega) (by omega)
        have k1 : (1000 : Int) / t.D ≤ 1000 := Int.ediv_le_self _ (by omega)
        have p0 : 0 ≤ t.N * ((1000 : Int) / t.D) := Int.mul_nonneg t3 k0
        have p1 : t.N * ((1000 : Int) / t.D) ≤ 377487360000 * 1000 := Int.mul_le_mul (by omega) (by omega) k0 (by omega)
        have p2 : t.N * ((1000 : Int) / t.D) ≤ 360000 * 1000 := by
          have x1 : t.N * ((1000 : Int) / t.D) ≤ 360000 * t.D * ((1000 : Int) / t.D) := Int.mul_le_mul_of_nonneg_right t4 k0
          have x2 : t.D * ((1000 : Int) / t.D) = 1000 := by have := Int.mul_ediv_add_emod (1000 : Int) t.D; omega
          rw [Int.mul_assoc, x2] at x1
          exact x1
        obtain ⟨n, hn⟩ := Int.eq_ofNat_of_zero_le p0
        obtain ⟨k, hk⟩ := Int.eq_ofNat_of_zero_le k0
        obtain ⟨Nn, hNn⟩ := Int.eq_ofNat_of_zero_le t3
        obtain ⟨Dn, hDn⟩ := Int.eq_ofNat_of_zero_le (show 0 ≤ t.D by omega)
        have e : (mulA t ⟨1000, 1⟩).1 = ⟨n, 1⟩ := by
          rw [show (mulA t ⟨1000, 1⟩).1 = ⟨(mulA t ⟨1000, 1⟩).1.N, (mulA t ⟨1000, 1⟩).1.D⟩ from rfl, hN1, hD1, hn]
        rw [e] at HM
        have H1 := fun (w0 : World) (b0 : Below w.heap.size w w0) => clock_walk 1 t.N t.D _ _ _ _ n _ _ w0 HO HT HM (fun w1 b1 => write_any 2 44 1000 3 n _ (by omega) (by omega) (by omega) (by omega) w1 (hp.keep (bup b0 b1)))
        rw [show t = ⟨Nn, Dn⟩ by rw [← hNn, ← hDn]] at HR H1 ⊢
        exact clocks_walk 1 Nn Dn _ _ w HK H1 (fun w => rclock_1 Nn Dn n k (n / 1000) (n / 1000 / 60) (n / 1000 / 3600) (n / 1000 / 60 % 60) (n / 1000 % 60) (n % 1000) (padL (n / 1000 / 3600) 2) (padL (n / 1000 / 60 % 60) 2) (padL (n / 1000 % 60) 2) (padL (n % 1000) 3) (pad_len _ _ (by omega) (by omega)) (pad_len _ _ (by omega) (by omega)) (pad_len _ _ (by omega) (by omega)) (pad_len _ _ (by omega) (by omega)) (by omega) (by rw [← hDn]; exact hd) (by rw [← hDn]; exact hk) (by rw [← hNn, ← hk]; exact hn) (by omega) (by omega) (by omega) (by omega) (by omega) (by omega) (by omega) w HG HR (rdigits_any _ 2 (by omega) (by omega) (by omega)) (rdigits_any _ 2 (by omega) (by omega) (by omega)) (rdigits_any _ 2 (by omega) (by omega) (by omega)) (rdigits_any _ 3 (by omega) (by omega) (by omega)))
      · exact clocks_walk 1 t.N t.D _ _ w HK (fun w0 _ => clock_part 1 t.N t.D _ _ _ _ _ _ _ (by simpa using fun x => hd (m2.1 x)) w0 HO HT HM) (fun w => rclock_arg 1 t.N t.D 1000 _ rfl (by omega) ⟨t1, t2⟩ rfl (by simpa using hd) w HG HR)
    · exact clocks_walk 1 t.N t.D _ _ w HK (fun w0 _ => clock_out 1 t.N t.D _ _ _ _ _ _ (by simpa using ht0) w0 HO HT) (fun w => rclock_out 1 t.N t.D 1000 _ rfl (by simpa using ht0) w HG HR)
  · rw [if_neg h1] at HO
    by_cases h2 : fm = 2
    · rw [if_pos h2] at HO
      subst h2
      rw [show gridG 2 = 1000 from rfl] at HG
      by_cases ht0 : timeA t = 0
      · rw [ht0] at HT HR
        obtain ⟨tr, t1, t2, t3, t4⟩ := time_ok ht0
        obtain ⟨m1, m2, m3⟩ := mul_grid t 1000 ht0 (by omega)
        have HM := mul_any t ⟨1000, 1⟩ ht ⟨⟨by simp, by simp⟩, ⟨by simp, by simp⟩⟩
        rw [m1] at HM
        by_cases hd : (1000 : Int) % t.D = 0
        · have hD1 := m2.2 hd
          have hN1 := m3 hd
          have k0 : 0 ≤ (1000 : Int) / t.D := Int.ediv_nonneg (by omega) (by omega)
          have k1 : (1000 : Int) / t.D ≤ 1000 := Int.ediv_le_self _ (by omega)
          have p0 : 0 ≤ t.N * ((1000 : Int) / t.D) := Int.mul_nonneg t3 k0
          have p1 : t.N * ((1000 : Int) / t.D) ≤ 377487360000 * 1000 := Int.mul_le_mul (by omega) (by omega) k0 (by omega)
          have p2 : t.N * ((1000 : Int) / t.D) ≤ 360000 * 1000 := by
            have x1 : t.N * ((1000 : Int) / t.D) ≤ 360000 * t.D * ((1000 : Int) / t.D) := Int.mul_le_mul_of_nonneg_right t4 k0
            have x2 : t.D * ((1000 : Int) / t.D) = 1000 := by have := Int.mul_ediv_add_emod (1000 : Int) t.D; omega
            rw [Int.mul_assoc, x2] at x1
            exact x1
          obtain ⟨n, hn⟩ := Int.eq_ofNat_of_zero_le p0
          obtain ⟨k, hk⟩ := Int.eq_ofNat_of_zero_le k0
          obtain ⟨Nn, hNn⟩ := Int.eq_ofNat_of_zero_le t3
          obtain ⟨Dn, hDn⟩ := Int.eq_ofNat_of_zero_le (show 0 ≤ t.D by omega)
          have e : (mulA t ⟨1000, 1⟩).1 = ⟨n, 1⟩ := by
            rw [show (mulA t ⟨1000, 1⟩).1 = ⟨(mulA t ⟨1000, 1⟩).1.N, (mulA t ⟨1000, 1⟩).1.D⟩ from rfl, hN1, hD1, hn]
          rw [e] at HM
          have H1 := fun (w0 : World) (b0 : Below w.heap.size w w0) => clock_walk 2 t.N t.D _ _ _ _ n _ _ w0 HO HT HM (fun w1 b1 => write_any 2 46 1000 3 n _ (by omega) (by omega) (by omega) (by omega) w1 (hp.keep (bup b0 b1)))
          rw [show t = ⟨Nn, Dn⟩ by rw [← hNn, ← hDn]] at HR H1 ⊢
          exact clocks_walk 2 Nn Dn _ _ w HK H1 (fun w => rclock_2 Nn Dn n k (n / 1000) (n / 1000 / 60) (n / 1000 / 3600) (n / 1000 / 60 % 60) (n / 1000 % 60) (n % 1000) (padL (n / 1000 / 3600) 2) (padL (n / 1000 / 60 % 60) 2) (padL (n / 1000 % 60) 2) (padL (n % 1000) 3) (pad_len _ _ (by omega) (by omega)) (pad_len _ _ (by omega) (by omega)) (pad_len _ _ (by omega) (by omega)) (pad_len _ _ (by omega) (by omega)) (by omega) (by rw [← hDn]; exact hd) (by rw [← hDn]; exact hk) (by rw [← hNn, ← hk]; exact hn) (by omega) (by omega) (by omega) (by omega) (by omega) (by omega) (by omega) w HG HR (rdigits_any _ 2 (by omega) (by omega) (by omega)) (rdigits_any _ 2 (by omega) (by omega) (by omega)) (rdigits_any _ 2 (by omega) (by omega) (by omega)) (rdigits_any _ 3 (by omega) (by omega) (by omega)))
        · exact clocks_walk 2 t.N t.D _ _ w HK (fun w0 _ => clock_part 2 t.N t.D _ _ _ _ _ _ _ (by simpa using fun x => hd (m2.1 x)) w0 HO HT HM) (fun w => rclock_arg 2 t.N t.D 1000 _ rfl (by omega) ⟨t1, t2⟩ rfl (by simpa using hd) w HG HR)
      · exact clocks_walk 2 t.N t.D _ _ w HK (fun w0 _ => clock_out 2 t.N t.D _ _ _ _ _ _ (by simpa using ht0) w0 HO HT) (fun w => rclock_out 2 t.N t.D 1000 _ rfl (by simpa using ht0) w HG HR)
    · rw [if_neg h2] at HO
      by_cases h4 : fm = 4
      · rw [if_pos h4] at HO
        subst h4
        rw [show gridG 4 = 100 from rfl] at HG
        by_cases ht0 : timeA t = 0
        · rw [ht0] at HT HR
          obtain ⟨tr, t1, t2, t3, t4⟩ := time_ok ht0
          obtain ⟨m1, m2, m3⟩ := mul_grid t 100 ht0 (by omega)
          have HM := mul_any t ⟨100, 1⟩ ht ⟨⟨by simp, by simp⟩, ⟨by simp, by simp⟩⟩
          rw [m1] at HM
          by_cases hd : (100 : Int) % t.D = 0
          · have hD1 := m2.2 hd
            have hN1 := m3 hd
            have k0 : 0 ≤ (100 : Int) / t.D := Int.ediv_nonneg (by omega) (by omega)
            have k1 : (100 : Int) / t.D ≤ 100 := Int.ediv_le_self _ (by omega)
            have p0 : 0 ≤ t.N * ((100 : Int) / t.D) := Int.mul_nonneg t3 k0
            have p1 : t.N * ((100 : Int) / t.D) ≤ 377487360000 * 1000 := Int.mul_le_mul (by omega) (by omega) k0 (by omega)
            have p2 : t.N * ((100 : Int) / t.D) ≤ 360000 * 100 := by
              have x1 : t.N * ((100 : Int) / t.D) ≤ 360000 * t.D * ((100 : Int) / t.D) := Int.mul_le_mul_of_nonneg_right t4 k0
              have x2 : t.D * ((100 : Int) / t.D) = 100 := by have := Int.mul_ediv_add_emod (100 : Int) t.D; omega
              rw [Int.mul_assoc, x2] at x1
              exact x1
            obtain ⟨n, hn⟩ := Int.eq_ofNat_of_zero_le p0
            obtain ⟨k, hk⟩ := Int.eq_ofNat_of_zero_le k0
            obtain ⟨Nn, hNn⟩ := Int.eq_ofNat_of_zero_le t3
            obtain ⟨Dn, hDn⟩ := Int.eq_ofNat_of_zero_le (show 0 ≤ t.D by omega)
            have e : (mulA t ⟨100, 1⟩).1 = ⟨n, 1⟩ := by
              rw [show (mulA t ⟨100, 1⟩).1 = ⟨(mulA t ⟨100, 1⟩).1.N, (mulA t ⟨100, 1⟩).1.D⟩ from rfl, hN1, hD1, hn]
            rw [e] at HM
            have H1 := fun (w0 : World) (b0 : Below w.heap.size w w0) => clock_walk 4 t.N t.D _ _ _ _ n _ _ w0 HO HT HM (fun w1 b1 => write_any 1 46 100 2 n _ (by omega) (by omega) (by omega) (by omega) w1 (hp.keep (bup b0 b1)))
            rw [show t = ⟨Nn, Dn⟩ by rw [← hNn, ← hDn]] at HR H1 ⊢
            exact clocks_walk 4 Nn Dn _ _ w HK H1 (fun w => rclock_4 Nn Dn n k (n / 100) (n / 100 / 60) (n / 100 / 3600) (n / 100 / 60 % 60) (n / 100 % 60) (n % 100) (padL (n / 100 / 3600) 2) (padL (n / 100 / 60 % 60) 2) (padL (n / 100 % 60) 2) (padL (n % 100) 2) (padL (n / 100 / 3600) 1) (pad_len _ _ (by omega) (by omega)) (pad_len _ _ (by omega) (by omega)) (pad_len _ _ (by omega) (by omega)) (pad_len _ _ (by omega) (by omega)) (by omega) (by rw [← hDn]; exact hd) (by rw [← hDn]; exact hk) (by rw [← hNn, ← hk]; exact hn) (by omega) (by omega) (by omega) (by omega) (by omega) (by omega) (by omega) w HG HR (rdigits_any _ 2 (by omega) (by omega) (by omega)) (rdigits_any _ 2 (by omega) (by omega) (by omega)) (rdigits_any _ 2 (by omega) (by omega) (by omega)) (rdigits_any _ 2 (by omega) (by omega) (by omega)) (rdigits_any _ 1 (by omega) (by omega) (by omega)))
          · exact clocks_walk 4 t.N t.D _ _ w HK (fun w0 _ => clock_part 4 t.N t.D _ _ _ _ _ _ _ (by simpa using fun x => hd (m2.1 x)) w0 HO HT HM) (fun w => rclock_arg 4 t.N t.D 100 _ rfl (by omega) ⟨t1, t2⟩ rfl (by simpa using hd) w HG HR)
        · exact clocks_walk 4 t.N t.D _ _ w HK (fun w0 _ => clock_out 4 t.N t.D _ _ _ _ _ _ (by simpa using ht0) w0 HO HT) (fun w => rclock_out 4 t.N t.D 100 _ rfl (by simpa using ht0) w HG HR)
      · rw [if_neg h4] at HO
        rw [show gridG fm = 0 by unfold gridG; rw [if_neg (by omega), if_neg h4]] at HG
        exact clocks_walk fm t.N t.D _ _ w HK (fun w0 _ => clock_kind fm t.N t.D _ _ _ _ _ w0 HO) (fun w => rclock_kind fm t.N t.D w HG)
end Go.Proofs.YtaipdckakgohjaaDoor
