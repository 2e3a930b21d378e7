/- Contracts of package ratio: Div. -/
import Derived.Test.YtipnefaggpigfaaRatT
namespace Go.Proofs.Ytipnefaggpigfaa
open Go.RowKit Go.Shelf
attribute [local go_sem] Oper.semAt_some

theorem set_apart {V : World} {A B i j : Nat} {x : Value} (h : A ≠ B) : (V.setCell ⟨A, i, none⟩ x).cell? ⟨B, j, none⟩ = V.cell? ⟨B, j, none⟩ :=
  World.cell?_setCell_other _ _ _ _ (fun e => h (congrArg Addr.block e))
theorem keep4o {A B R : Nat} {V : World} {a0 a1 b0 b1 x y : Value} (nA : R ≠ A) (nB : R ≠ B)
    (h : V.cell? ⟨A, 0, none⟩ = some a0 ∧ V.cell? ⟨A, 1, none⟩ = some a1 ∧ V.cell? ⟨B, 0, none⟩ = some b0 ∧ V.cell? ⟨B, 1, none⟩ = some b1) :
    ((V.setCell ⟨R, 0, none⟩ x).setCell ⟨R, 1, none⟩ y).cell? ⟨A, 0, none⟩ = some a0 ∧ ((V.setCell ⟨R, 0, none⟩ x).setCell ⟨R, 1, none⟩ y).cell? ⟨A, 1, none⟩ = some a1 ∧ ((V.setCell ⟨R, 0, none⟩ x).setCell ⟨R, 1, none⟩ y).cell? ⟨B, 0, none⟩ = some b0 ∧ ((V.setCell ⟨R, 0, none⟩ x).setCell ⟨R, 1, none⟩ y).cell? ⟨B, 1, none⟩ = some b1 := by
  simp only [set_apart nA, set_apart nB]
  exact h

set_option maxRecDepth 100000 in
set_option maxHeartbeats 1000000 in
theorem div_walk (an ad bn bd sa sb t u x y hi lo n m p : Int) (r : Rt × Int) (hb : ¬ bn = 0) (had : 0 < ad) (had2 : ad ≤ 2147483648) (hbd : 0 < bd) (hbd2 : bd ≤ 2147483648)
    (ht : 0 < t) (ht2 : t ≤ 4611686018427387904) (hu : 0 < u) (hu2 : u ≤ 2147483648)
    (hx : ad.tdiv u = x) (hx0 : 0 ≤ x) (hx1 : x ≤ 2147483648) (hy : sb.tdiv t = y) (hy0 : 0 ≤ y) (hy1 : y ≤ 4611686018427387904) (hn : an.tdiv t = n) (hn1 : -4611686018427387904 ≤ n ∧ n ≤ 4611686018427387904) (hm : bd.tdiv u = m) (hm1 : -4611686018427387904 ≤ m ∧ m ≤ 4611686018427387904)
    (HA : ∀ w, Calls Try.prog 43 #[.agg #[.int .i64 an, .int .i64 ad]] w fun e w' => e = .returned (.bool true) ∧ Below w.heap.size w w')
    (HB : ∀ w, Calls Try.prog 43 #[.agg #[.int .i64 bn, .int .i64 bd]] w fun e w' => e = .returned (.bool true) ∧ Below w.heap.size w w')
    (HS1 : ∀ w, Calls Try.prog 70 #[.int .i64 an] w fun e w' => e = .returned (.int .u64 sa) ∧ w' = w)
    (HS2 : ∀ w, Calls Try.prog 70 #[.int .i64 bn] w fun e w' => e = .returned (.int .u64 sb) ∧ w' = w)
    (HD1 : ∀ w, Calls Try.prog 71 #[.int .u64 sa, .int .u64 sb] w fun e w' => e = .returned (.int .u64 t) ∧ ∃ m, w' = w.drewN m)
    (HD2 : ∀ w, Calls Try.prog 71 #[.int .u64 ad, .int .u64 bd] w fun e w' => e = .returned (.int .u64 u) ∧ ∃ m, w' = w.drewN m)
    (HM : ∀ w, Calls Try.prog 75 #[.int .u64 x, .int .u64 y] w fun e w' => e = .returned (.tuple #[.int .u64 hi, .int .u64 lo]) ∧ w' = w)
    (HP : ∀ w, Calls Try.prog 66 #[.int .i64 n, .int .i64 m] w fun e w' => e = .returned (.agg #[.int .u64 (hiZ p), .int .u64 (loZ p)]) ∧ Below w.heap.size w w')
    (HG : ∀ w, Calls Try.prog 76 #[.agg #[.int .u64 (hiZ p), .int .u64 (loZ p)]] w fun e w' => e = .returned (.agg #[.int .u64 (hiZ (-p)), .int .u64 (loZ (-p))]) ∧ Below w.heap.size w w')
    (hres : (¬ hi = 0 ∧ r = (⟨0, 0⟩, 12)) ∨ (hi = 0 ∧ 0 ≤ bn ∧ ∀ w, Calls Try.prog 74 #[.agg #[.int .u64 (hiZ p), .int .u64 (loZ p)], .int .u64 lo] w fun e w' => e = .returned (.tuple #[rtv r.1, .int .i64 r.2]) ∧ Below w.heap.size w w') ∨
      (hi = 0 ∧ bn < 0 ∧ ∀ w, Calls Try.prog 74 #[.agg #[.int .u64 (hiZ (-p)), .int .u64 (loZ (-p))], .int .u64 lo] w fun e w' => e = .returned (.tuple #[rtv r.1, .int .i64 r.2]) ∧ Below w.heap.size w w')) (w : World) :
    Calls Try.prog 49 #[.agg #[.int .i64 an, .int .i64 ad], .agg #[.int .i64 bn, .int .i64 bd]] w fun e w' => e = .returned (.tuple #[.agg #[.int .i64 r.1.N, .int .i64 r.1.D], .int .i64 r.2]) ∧ Below w.heap.size w w' := by
  simp only [rtv] at *
  have HA := hideR HA
  have HB := hideR HB
  have HS1 := hideR HS1
  have HS2 := hideR HS2
  have HD1 := hideR HD1
  have HD2 := hideR HD2
  have HM := hideR HM
  have HP := hideR HP
  have HG := hideR HG
  have hb2 : (bn == 0) = false := by simpa using hb
  have hu3 : ¬ u = 0 := by omega
  have ht3 : ¬ t = 0 := by omega
  generalize hiZ p = ph at *
  generalize loZ p = pl at *
  generalize hiZ (-p) = qh at *
  generalize loZ (-p) = ql at *
  rcases hres with ⟨hhi, rfl⟩ | ⟨rfl, hbs, HL⟩ | ⟨rfl, hbs, HL⟩
  · have hhi2 : (hi == 0) = false := by simpa using hhi
    go_enter Try.func49, Try.ntmps49
    go_wp2_with fail
    go_at_call 43
    refine (HA.out _).mono ?_
    rintro e w1 ⟨rfl, b1⟩
    have S1 := (Three.new w an ad bn bd 0 0 42).keep b1
    have BB1 := bup (bel3 w _ _ _) b1
    clear b1
    obtain ⟨⟨_, a0, a1, _, _⟩, ⟨_, p0, p1, _, _⟩, ⟨_, c0, c1, f0, f1⟩⟩ := id S1
    go_wp2_with fail
    go_at_call 43
    refine (HB.out _).mono ?_
    rintro e V ⟨rfl, b2⟩
    have SV := S1.keep b2
    have BV := bup BB1 b2
    clear a0 a1 p0 p1 c0 c1 f0 f1 S1 BB1 b2
    obtain ⟨⟨_, a0, a1, _, _⟩, ⟨_, p0, p1, _, _⟩, ⟨_, c0, c1, f0, f1⟩⟩ := id SV
    go_wp2_with fail
    go_quiet (first | (go_at_call_of 70 an; exact Calls.quiet_of_same (HS1.out _)) | (go_at_call_of 70 bn; exact Calls.quiet_of_same (HS2.out _)) | (go_at_call_of 71 sa; exact Calls.quiet_of (HD1.out _)) | (go_at_call_of 71 ad; exact Calls.quiet_of (HD2.out _)))
    go_wp2_with fail
    have W1 : Hid (IntKind.u64.wrap ad = ad) := by rw [Hid, IntKind.wrap_u64]; omega
    have W2 : Hid (IntKind.u64.wrap x = x) := by rw [Hid, IntKind.wrap_u64]; omega
    have W3 : Hid (IntKind.u64.wrap y = y) := by rw [Hid, IntKind.wrap_u64]; omega
    have SU : Three w.heap.size an ad bn bd 0 0 (V.drewN nq) := SV
    have BU : Below w.heap.size w (V.drewN nq) := below_drewN BV nq
    generalize V.drewN nq = U at *
    clear a0 a1 p0 p1 c0 c1 f0 f1 SV BV HS1 HD1 HD2 HA HB
    obtain ⟨⟨zA, a0, a1, _, _⟩, ⟨zB, p0, p1, _, _⟩, ⟨zC, c0, c1, f0, f1⟩⟩ := id SU
    have SC : U.cell? ⟨w.heap.size, 0, none⟩ = some (.int .i64 an) ∧ U.cell? ⟨w.heap.size, 1, none⟩ = some (.int .i64 ad) ∧ U.cell? ⟨w.heap.size + 1, 0, none⟩ = some (.int .i64 bn) ∧ U.cell? ⟨w.heap.size + 1, 1, none⟩ = some (.int .i64 bd) := ⟨a0, a1, p0, p1⟩
    go_region_held3 (fun w' => w'.cell? ⟨w.heap.size, 0, none⟩ = some (.int .i64 an) ∧ w'.cell? ⟨w.heap.size, 1, none⟩ = some (.int .i64 ad) ∧ w'.cell? ⟨w.heap.size + 1, 0, none⟩ = some (.int .i64 bn) ∧ w'.cell? ⟨w.heap.size + 1, 1, none⟩ = some (.int .i64 bd)) (first | assumption | go_keep) (first | (go_at_call_of 70 bn; refine Calls.mono (HS2.out _) ?_; rintro e w3 ⟨rfl, hw⟩; obtain rfl := hw.symm) | (go_at_call 75; (try simp only [W1.out, hx, W2.out, W3.out]); refine Calls.mono (HM.out _) ?_; rintro e w3 ⟨rfl, hw⟩; obtain rfl := hw.symm))
    all_goals (try go_wp2_with fail)
    all_goals exact bodyPost_ret (v := .tuple #[.agg #[.int .i64 0, .int .i64 0], .int .i64 12]) (by simp [results, Try.results49, go_sem, c0, c1]) rfl ⟨rfl, (BU.drew.setCell (by simp; omega) _).setCell (by simp; omega) _⟩
  · have HL := hideR HL
    have hbs2 : ¬ bn < 0 := by omega
    go_enter Try.func49, Try.ntmps49
    go_wp2_with fail
    go_at_call 43
    refine (HA.out _).mono ?_
    rintro e w1 ⟨rfl, b1⟩
    have S1 := (Three.new w an ad bn bd 0 0 42).keep b1
    have BB1 := bup (bel3 w _ _ _) b1
    clear b1
    obtain ⟨⟨_, a0, a1, _, _⟩, ⟨_, p0, p1, _, _⟩, ⟨_, c0, c1, f0, f1⟩⟩ := id S1
    go_wp2_with fail
    go_at_call 43
    refine (HB.out _).mono ?_
    rintro e V ⟨rfl, b2⟩
    have SV := S1.keep b2
    have BV := bup BB1 b2
    clear a0 a1 p0 p1 c0 c1 f0 f1 S1 BB1 b2
    obtain ⟨⟨_, a0, a1, _, _⟩, ⟨_, p0, p1, _, _⟩, ⟨_, c0, c1, f0, f1⟩⟩ := id SV
    go_wp2_with fail
    go_quiet (first | (go_at_call_of 70 an; exact Calls.quiet_of_same (HS1.out _)) | (go_at_call_of 70 bn; exact Calls.quiet_of_same (HS2.out _)) | (go_at_call_of 71 sa; exact Calls.quiet_of (HD1.out _)) | (go_at_call_of 71 ad; exact Calls.quiet_of (HD2.out _)))
    go_wp2_with fail
    have W1 : Hid (IntKind.u64.wrap ad = ad) := by rw [Hid, IntKind.wrap_u64]; omega
    have W2 : Hid (IntKind.u64.wrap x = x) := by rw [Hid, IntKind.wrap_u64]; omega
    have W3 : Hid (IntKind.u64.wrap y = y) := by rw [Hid, IntKind.wrap_u64]; omega
    have SU : Three w.heap.size an ad bn bd 0 0 (V.drewN nq) := SV
    have BU : Below w.heap.size w (V.drewN nq) := below_drewN BV nq
    generalize V.drewN nq = U at *
    clear a0 a1 p0 p1 c0 c1 f0 f1 SV BV HS1 HD1 HD2 HA HB
    obtain ⟨⟨zA, a0, a1, _, _⟩, ⟨zB, p0, p1, _, _⟩, ⟨zC, c0, c1, f0, f1⟩⟩ := id SU
    have SC : U.cell? ⟨w.heap.size, 0, none⟩ = some (.int .i64 an) ∧ U.cell? ⟨w.heap.size, 1, none⟩ = some (.int .i64 ad) ∧ U.cell? ⟨w.heap.size + 1, 0, none⟩ = some (.int .i64 bn) ∧ U.cell? ⟨w.heap.size + 1, 1, none⟩ = some (.int .i64 bd) := ⟨a0, a1, p0, p1⟩
    go_region_held3 (fun w' => w'.cell? ⟨w.heap.size, 0, none⟩ = some (.int .i64 an) ∧ w'.cell? ⟨w.heap.size, 1, none⟩ = some (.int .i64 ad) ∧ w'.cell? ⟨w.heap.size + 1, 0, none⟩ = some (.int .i64 bn) ∧ w'.cell? ⟨w.heap.size + 1, 1, none⟩ = some (.int .i64 bd)) (first | assumption | go_keep) (first | (go_at_call_of 70 bn; refine Calls.mono (HS2.out _) ?_; rintro e w3 ⟨rfl, hw⟩; obtain rfl := hw.symm) | (go_at_call 75; (try simp only [W1.out, hx, W2.out, W3.out]); refine Calls.mono (HM.out _) ?_; rintro e w3 ⟨rfl, hw⟩; obtain rfl := hw.symm))
    all_goals (try go_wp2_with fail)
    all_goals (
      have W4 : IntKind.i64.wrap t = t := by rw [IntKind.wrap_i64]; omega
      have W5 : IntKind.i64.wrap u = u := by rw [IntKind.wrap_i64]; omega
      have W6 : Hid (IntKind.i64.wrap n = n) := by rw [Hid, IntKind.wrap_i64]; omega
      have W7 : Hid (IntKind.i64.wrap m = m) := by rw [Hid, IntKind.wrap_i64]; omega
      go_region_held3 (fun w' => w'.cell? ⟨w.heap.size, 0, none⟩ = some (.int .i64 an) ∧ w'.cell? ⟨w.heap.size, 1, none⟩ = some (.int .i64 ad) ∧ w'.cell? ⟨w.heap.size + 1, 0, none⟩ = some (.int .i64 bn) ∧ w'.cell? ⟨w.heap.size + 1, 1, none⟩ = some (.int .i64 bd)) (first | assumption | exact keep4 (bel1 _ _) zA zB SC | exact keep4 (bel1 _ _) (Nat.lt_of_lt_of_le zA B4.size) (Nat.lt_of_lt_of_le zB B4.size) S4 | exact keep4o (by omega) (by omega) (by assumption) | go_keep) (first | (go_at_call 66; (try simp only [W6.out, W7.out]); refine Calls.mono (HP.out _) ?_; rintro e w4 ⟨rfl, b4⟩; first | (have B4 : Below U.heap.size U w4 := bup (Below.refl _ _).drew.drew b4; have S4 := keep4 B4 zA zB SC; have z4 := B4.size; have SU4 := SU.keep B4) | (have B4 : Below U.heap.size U w4 := bup ((Below.refl _ _).drew.drew.alloc (Nat.le_refl _) _) b4; have S4 := keep4 B4 zA zB SC; have z4 := B4.size; have SU4 := SU.keep B4; have N4 : Two w4 U.heap.size (.int .u64 0) (.int .u64 0) := (Two.new U.drew.drew (.int .u64 0) (.int .u64 0) 97).keep b4; obtain ⟨_, n0, n1, g0, g1⟩ := id N4)))
      all_goals (try go_wp2_with fail))
    · have RX : Two (w4.alloc (.cells #[.int .u64 ph, .int .u64 pl] 97)) (w.heap.size + 1 + 1) (.int .i64 0) (.int .i64 0) := SU4.2.2.alloc _
      have NX : Two (w4.alloc (.cells #[.int .u64 ph, .int .u64 pl] 97)) w4.heap.size (.int .u64 ph) (.int .u64 pl) := Two.new w4 _ _ _
      have BX : Below w.heap.size w (w4.alloc (.cells #[.int .u64 ph, .int .u64 pl] 97)) := bup (bup BU B4) (bel1 _ _)
      have nn : w.heap.size + 1 + 1 < w4.heap.size := by omega
      generalize (w4.alloc (.cells #[.int .u64 ph, .int .u64 pl] 97)) = X at *
      have R6 := RX
      have B6 := BX
      clear a0 a1 p0 p1 c0 c1 f0 f1 S4 SU4
      go_at_call 74
      refine Calls.mono (HL.out _) ?_
      rintro e w7 ⟨rfl, b7⟩
      obtain ⟨_, k0, k1, k2, k3⟩ := R6.keep b7
      have B7 := bup B6 b7
      go_wp2_with fail
      exact bodyPost_ret (v := .tuple #[.agg #[.int .i64 r.1.N, .int .i64 r.1.D], .int .i64 r.2]) (by simp [results, Try.results49, go_sem, k0, k1]) rfl ⟨rfl, (B7.setCell (by simp; omega) _).setCell (by simp; omega) _⟩
    · have RX : Two ((w4.setCell ⟨U.heap.size, 0, none⟩ (.int .u64 ph)).setCell ⟨U.heap.size, 1, none⟩ (.int .u64 pl)) (w.heap.size + 1 + 1) (.int .i64 0) (.int .i64 0) := SU4.2.2.other (by omega)
      have NX : Two ((w4.setCell ⟨U.heap.size, 0, none⟩ (.int .u64 ph)).setCell ⟨U.heap.size, 1, none⟩ (.int .u64 pl)) U.heap.size (.int .u64 ph) (.int .u64 pl) := N4.set
      have BX : Below w.heap.size w ((w4.setCell ⟨U.heap.size, 0, none⟩ (.int .u64 ph)).setCell ⟨U.heap.size, 1, none⟩ (.int .u64 pl)) := ((bup BU B4).setCell (by simp; omega) _).setCell (by simp; omega) _
      have nn : w.heap.size + 1 + 1 < U.heap.size := by omega
      generalize ((w4.setCell ⟨U.heap.size, 0, none⟩ (.int .u64 ph)).setCell ⟨U.heap.size, 1, none⟩ (.int .u64 pl)) = X at *
      have R6 := RX
      have B6 := BX
      clear a0 a1 p0 p1 c0 c1 f0 f1 S4 SU4
      go_at_call 74
      refine Calls.mono (HL.out _) ?_
      rintro e w7 ⟨rfl, b7⟩
      obtain ⟨_, k0, k1, k2, k3⟩ := R6.keep b7
      have B7 := bup B6 b7
      go_wp2_with fail
      exact bodyPost_ret (v := .tuple #[.agg #[.int .i64 r.1.N, .int .i64 r.1.D], .int .i64 r.2]) (by simp [results, Try.results49, go_sem, k0, k1]) rfl ⟨rfl, (B7.setCell (by simp; omega) _).setCell (by simp; omega) _⟩
  · have HL := hideR HL
    go_enter Try.func49, Try.ntmps49
    go_wp2_with fail
    go_at_call 43
    refine (HA.out _).mono ?_
    rintro e w1 ⟨rfl, b1⟩
    have S1 := (Three.new w an ad bn bd 0 0 42).keep b1
    have BB1 := bup (bel3 w _ _ _) b1
    clear b1
    obtain ⟨⟨_, a0, a1, _, _⟩, ⟨_, p0, p1, _, _⟩, ⟨_, c0, c1, f0, f1⟩⟩ := id S1
    go_wp2_with fail
    go_at_call 43
    refine (HB.out _).mono ?_
    rintro e V ⟨rfl, b2⟩
    have SV := S1.keep b2
    have BV := bup BB1 b2
    clear a0 a1 p0 p1 c0 c1 f0 f1 S1 BB1 b2
    obtain ⟨⟨_, a0, a1, _, _⟩, ⟨_, p0, p1, _, _⟩, ⟨_, c0, c1, f0, f1⟩⟩ := id SV
    go_wp2_with fail
    go_quiet (first | (go_at_call_of 70 an; exact Calls.quiet_of_same (HS1.out _)) | (go_at_call_of 70 bn; exact Calls.quiet_of_same (HS2.out _)) | (go_at_call_of 71 sa; exact Calls.quiet_of (HD1.out _)) | (go_at_call_of 71 ad; exact Calls.quiet_of (HD2.out _)))
    go_wp2_with fail
    have W1 : Hid (IntKind.u64.wrap ad = ad) := by rw [Hid, IntKind.wrap_u64]; omega
    have W2 : Hid (IntKind.u64.wrap x = x) := by rw [Hid, IntKind.wrap_u64]; omega
    have W3 : Hid (IntKind.u64.wrap y = y) := by rw [Hid, IntKind.wrap_u64]; omega
    have SU : Three w.heap.size an ad bn bd 0 0 (V.drewN nq) := SV
    have BU : Below w.heap.size w (V.drewN nq) := below_drewN BV nq
    generalize V.drewN nq = U at *
    clear a0 a1 p0 p1 c0 c1 f0 f1 SV BV HS1 HD1 HD2 HA HB
    obtain ⟨⟨zA, a0, a1, _, _⟩, ⟨zB, p0, p1, _, _⟩, ⟨zC, c0, c1, f0, f1⟩⟩ := id SU
    have SC : U.cell? ⟨w.heap.size, 0, none⟩ = some (.int .i64 an) ∧ U.cell? ⟨w.heap.size, 1, none⟩ = some (.int .i64 ad) ∧ U.cell? ⟨w.heap.size + 1, 0, none⟩ = some (.int .i64 bn) ∧ U.cell? ⟨w.heap.size + 1, 1, none⟩ = some (.int .i64 bd) := ⟨a0, a1, p0, p1⟩
    go_region_held3 (fun w' => w'.cell? ⟨w.heap.size, 0, none⟩ = some (.int .i64 an) ∧ w'.cell? ⟨w.heap.size, 1, none⟩ = some (.int .i64 ad) ∧ w'.cell? ⟨w.heap.size + 1, 0, none⟩ = some (.int .i64 bn) ∧ w'.cell? ⟨w.heap.size + 1, 1, none⟩ = some (.int .i64 bd)) (first | assumption | go_keep) (first | (go_at_call_of 70 bn; refine Calls.mono (HS2.out _) ?_; rintro e w3 ⟨rfl, hw⟩; obtain rfl := hw.symm) | (go_at_call 75; (try simp only [W1.out, hx, W2.out, W3.out]); refine Calls.mono (HM.out _) ?_; rintro e w3 ⟨rfl, hw⟩; obtain rfl := hw.symm))
    all_goals (try go_wp2_with fail)
    all_goals (
      have W4 : IntKind.i64.wrap t = t := by rw [IntKind.wrap_i64]; omega
      have W5 : IntKind.i64.wrap u = u := by rw [IntKind.wrap_i64]; omega
      have W6 : Hid (IntKind.i64.wrap n = n) := by rw [Hid, IntKind.wrap_i64]; omega
      have W7 : Hid (IntKind.i64.wrap m = m) := by rw [Hid, IntKind.wrap_i64]; omega
      go_region_held3 (fun w' => w'.cell? ⟨w.heap.size, 0, none⟩ = some (.int .i64 an) ∧ w'.cell? ⟨w.heap.size, 1, none⟩ = some (.int .i64 ad) ∧ w'.cell? ⟨w.heap.size + 1, 0, none⟩ = some (.int .i64 bn) ∧ w'.cell? ⟨w.heap.size + 1, 1, none⟩ = some (.int .i64 bd)) (first | assumption | exact keep4 (bel1 _ _) zA zB SC | exact keep4 (bel1 _ _) (Nat.lt_of_lt_of_le zA B4.size) (Nat.lt_of_lt_of_le zB B4.size) S4 | exact keep4o (by omega) (by omega) (by assumption) | go_keep) (first | (go_at_call 66; (try simp only [W6.out, W7.out]); refine Calls.mono (HP.out _) ?_; rintro e w4 ⟨rfl, b4⟩; first | (have B4 : Below U.heap.size U w4 := bup (Below.refl _ _).drew.drew b4; have S4 := keep4 B4 zA zB SC; have z4 := B4.size; have SU4 := SU.keep B4) | (have B4 : Below U.heap.size U w4 := bup ((Below.refl _ _).drew.drew.alloc (Nat.le_refl _) _) b4; have S4 := keep4 B4 zA zB SC; have z4 := B4.size; have SU4 := SU.keep B4; have N4 : Two w4 U.heap.size (.int .u64 0) (.int .u64 0) := (Two.new U.drew.drew (.int .u64 0) (.int .u64 0) 97).keep b4; obtain ⟨_, n0, n1, g0, g1⟩ := id N4)))
      all_goals (try go_wp2_with fail))
    · have RX : Two (w4.alloc (.cells #[.int .u64 ph, .int .u64 pl] 97)) (w.heap.size + 1 + 1) (.int .i64 0) (.int .i64 0) := SU4.2.2.alloc _
      have NX : Two (w4.alloc (.cells #[.int .u64 ph, .int .u64 pl] 97)) w4.heap.size (.int .u64 ph) (.int .u64 pl) := Two.new w4 _ _ _
      have BX : Below w.heap.size w (w4.alloc (.cells #[.int .u64 ph, .int .u64 pl] 97)) := bup (bup BU B4) (bel1 _ _)
      have nn : w.heap.size + 1 + 1 < w4.heap.size := by omega
      generalize (w4.alloc (.cells #[.int .u64 ph, .int .u64 pl] 97)) = X at *
      go_at_call 76
      refine Calls.mono (HG.out _) ?_
      rintro e w5 ⟨rfl, b5⟩
      have N5 := NX.keep b5
      have R5 := RX.keep b5
      have B5 := bup BX b5
      clear a0 a1 p0 p1 c0 c1 f0 f1 S4 SU4
      obtain ⟨_, n0, n1, g0, g1⟩ := id N5
      go_wp2_with fail
      have R6 := R5.other (S := w4.heap.size) (x2 := .int .u64 qh) (y2 := .int .u64 ql) (by omega)
      have B6 : Below w.heap.size w ((w5.setCell ⟨w4.heap.size, 0, none⟩ (.int .u64 qh)).setCell ⟨w4.heap.size, 1, none⟩ (.int .u64 ql)) := (B5.setCell (by simp; omega) _).setCell (by simp; omega) _
      generalize (w5.setCell ⟨w4.heap.size, 0, none⟩ (.int .u64 qh)).setCell ⟨w4.heap.size, 1, none⟩ (.int .u64 ql) = Y at *
      go_at_call 74
      refine Calls.mono (HL.out _) ?_
      rintro e w7 ⟨rfl, b7⟩
      obtain ⟨_, k0, k1, k2, k3⟩ := R6.keep b7
      have B7 := bup B6 b7
      go_wp2_with fail
      exact bodyPost_ret (v := .tuple #[.agg #[.int .i64 r.1.N, .int .i64 r.1.D], .int .i64 r.2]) (by simp [results, Try.results49, go_sem, k0, k1]) rfl ⟨rfl, (B7.setCell (by simp; omega) _).setCell (by simp; omega) _⟩
    · have RX : Two ((w4.setCell ⟨U.heap.size, 0, none⟩ (.int .u64 ph)).setCell ⟨U.heap.size, 1, none⟩ (.int .u64 pl)) (w.heap.size + 1 + 1) (.int .i64 0) (.int .i64 0) := SU4.2.2.other (by omega)
      have NX : Two ((w4.setCell ⟨U.heap.size, 0, none⟩ (.int .u64 ph)).setCell ⟨U.heap.size, 1, none⟩ (.int .u64 pl)) U.heap.size (.int .u64 ph) (.int .u64 pl) := N4.set
      have BX : Below w.heap.size w ((w4.setCell ⟨U.heap.size, 0, none⟩ (.int .u64 ph)).setCell ⟨U.heap.size, 1, none⟩ (.int .u64 pl)) := ((bup BU B4).setCell (by simp; omega) _).setCell (by simp; omega) _
      have nn : w.heap.size + 1 + 1 < U.heap.size := by omega
      generalize ((w4.setCell ⟨U.heap.size, 0, none⟩ (.int .u64 ph)).setCell ⟨U.heap.size, 1, none⟩ (.int .u64 pl)) = X at *
      go_at_call 76
      refine Calls.mono (HG.out _) ?_
      rintro e w5 ⟨rfl, b5⟩
      have N5 := NX.keep b5
      have R5 := RX.keep b5
      have B5 := bup BX b5
      clear a0 a1 p0 p1 c0 c1 f0 f1 S4 SU4
      obtain ⟨_, n0, n1, g0, g1⟩ := id N5
      go_wp2_with fail
      have R6 := R5.other (S := U.heap.size) (x2 := .int .u64 qh) (y2 := .int .u64 ql) (by omega)
      have B6 : Below w.heap.size w ((w5.setCell ⟨U.heap.size, 0, none⟩ (.int .u64 qh)).setCell ⟨U.heap.size, 1, none⟩ (.int .u64 ql)) := (B5.setCell (by simp; omega) _).setCell (by simp; omega) _
      generalize (w5.setCell ⟨U.heap.size, 0, none⟩ (.int .u64 qh)).setCell ⟨U.heap.size, 1, none⟩ (.int .u64 ql) = Y at *
      go_at_call 74
      refine Calls.mono (HL.out _) ?_
      rintro e w7 ⟨rfl, b7⟩
      obtain ⟨_, k0, k1, k2, k3⟩ := R6.keep b7
      have B7 := bup B6 b7
      go_wp2_with fail
      exact bodyPost_ret (v := .tuple #[.agg #[.int .i64 r.1.N, .int .i64 r.1.D], .int .i64 r.2]) (by simp [results, Try.results49, go_sem, k0, k1]) rfl ⟨rfl, (B7.setCell (by simp; omega) _).setCell (by simp; omega) _⟩
end Go.Proofs.Ytipnefaggpigfaa
