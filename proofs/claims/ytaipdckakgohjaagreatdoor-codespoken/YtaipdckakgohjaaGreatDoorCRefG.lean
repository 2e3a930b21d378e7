/- surtitleref5: Time, Label. -/
import Derived.Test.YtaipdckakgohjaaGreatDoorCRefF
import Derived.Test.YtaipdckakgohjaaGreatDoorCRefD
import Derived.Test.YtaipdckakgohjaaGreatDoorGA
namespace Go.Proofs.YtaipdckakgohjaaGreatDoor
open Go.RowKit Go.Shelf
attribute [local go_sem] Oper.semAt_some bs_toList

theorem last_iff (n d fr : Int) (hd : 1 ≤ d) : fr ≤ 360000 * n / d ↔ fr * d ≤ 360000 * n := Int.le_ediv_iff_mul_le (by omega)
/-- How many frames stand ahead of a minute, within ten. -/
def gone (f l j : Int) : Int := if j = 0 then 0 else 60 * f * j - l * (j - 1)
theorem gone_step (f l j : Int) (hj : 0 ≤ j) : gone f l (j + 1) = gone f l j + 60 * f - (if j = 0 then 0 else l) := by
  unfold gone
  rw [if_neg (by omega)]
  by_cases h : j = 0
  · subst h
    rw [if_pos rfl, if_pos rfl]
    simp
  · rw [if_neg h, if_neg h, Int.mul_add, Int.mul_one, show l * (j + 1 - 1) = l * (j - 1) + l by rw [show j + 1 - 1 = (j - 1) + 1 by omega, Int.mul_add, Int.mul_one]]
    omega
set_option maxRecDepth 100000 in
set_option maxHeartbeats 2000000 in
theorem rlb_bad (n d fr c : Int) (dr : Bool) (hc : (c == 0) = false) (w : World)
    (HC : ∀ w, Calls Tryz.prog 20 #[.agg #[.int .i64 n, .int .i64 d, .bool dr]] w fun e w' => e = .returned (.int .i64 c) ∧ Below w.heap.size w w') :
    Calls Tryz.prog 11 #[.agg #[.int .i64 n, .int .i64 d, .bool dr], .int .i64 fr] w fun e w' => e = .returned (.tuple #[.string ⟨#[]⟩, .int .i64 14]) ∧ Below w.heap.size w w' := by
  have HC := hideR HC
  go_enter Tryz.func11, Tryz.ntmps11
  go_wp2_with fail
  go_at_call 20
  refine (HC.out _).mono ?_
  rintro e w1 ⟨rfl, b1⟩
  have A1 := ((RateAt.new w n d dr).keep b1)
  have B1 := bup (bel1 w _) b1
  clear b1
  obtain ⟨_, a0, a1, a2⟩ := id A1
  go_wp2_with fail
  exact bodyPost_ret (v := .tuple #[.string ⟨#[]⟩, .int .i64 14]) (by simp [results, Tryz.results11, go_sem]) rfl ⟨rfl, by first | exact B1 | exact (B1.setCell (by simp) _).setCell (by simp) _⟩
set_option maxRecDepth 100000 in
set_option maxHeartbeats 2000000 in
theorem rlb_neg (n d fr : Int) (dr : Bool) (hf : fr < 0) (w : World)
    (HC : ∀ w, Calls Tryz.prog 20 #[.agg #[.int .i64 n, .int .i64 d, .bool dr]] w fun e w' => e = .returned (.int .i64 0) ∧ Below w.heap.size w w') :
    Calls Tryz.prog 11 #[.agg #[.int .i64 n, .int .i64 d, .bool dr], .int .i64 fr] w fun e w' => e = .returned (.tuple #[.string ⟨#[]⟩, .int .i64 31]) ∧ Below w.heap.size w w' := by
  have HC := hideR HC
  go_enter Tryz.func11, Tryz.ntmps11
  go_wp2_with fail
  go_at_call 20
  refine (HC.out _).mono ?_
  rintro e w1 ⟨rfl, b1⟩
  have A1 := ((RateAt.new w n d dr).keep b1)
  have B1 := bup (bel1 w _) b1
  clear b1
  obtain ⟨_, a0, a1, a2⟩ := id A1
  go_wp2_with fail
  exact bodyPost_ret (v := .tuple #[.string ⟨#[]⟩, .int .i64 31]) (by simp [results, Tryz.results11, go_sem]) rfl ⟨rfl, by first | exact B1 | exact (B1.setCell (by simp) _).setCell (by simp) _⟩
set_option maxRecDepth 100000 in
set_option maxHeartbeats 2000000 in
theorem rlb_far (n d fr la : Int) (dr : Bool) (hf : 0 ≤ fr) (hl : la < fr) (w : World)
    (HC : ∀ w, Calls Tryz.prog 20 #[.agg #[.int .i64 n, .int .i64 d, .bool dr]] w fun e w' => e = .returned (.int .i64 0) ∧ Below w.heap.size w w')
    (HL : ∀ w, Calls Tryz.prog 37 #[.agg #[.int .i64 n, .int .i64 d, .bool dr]] w fun e w' => e = .returned (.int .i64 la) ∧ Below w.heap.size w w') :
    Calls Tryz.prog 11 #[.agg #[.int .i64 n, .int .i64 d, .bool dr], .int .i64 fr] w fun e w' => e = .returned (.tuple #[.string ⟨#[]⟩, .int .i64 31]) ∧ Below w.heap.size w w' := by
  have HC := hideR HC
  have HL := hideR HL
  go_enter Tryz.func11, Tryz.ntmps11
  go_wp2_with fail
  go_at_call 20
  refine (HC.out _).mono ?_
  rintro e w1 ⟨rfl, b1⟩
  have A1 := ((RateAt.new w n d dr).keep b1)
  have B1 := bup (bel1 w _) b1
  clear b1
  obtain ⟨_, a0, a1, a2⟩ := id A1
  go_wp2_with fail
  go_at_call 37
  refine (HL.out _).mono ?_
  rintro e w2 ⟨rfl, b2⟩
  have A2 := (A1.keep b2)
  have B2 := bup B1 b2
  clear A1 B1 a0 a1 a2
  clear b2
  obtain ⟨_, a0, a1, a2⟩ := id A2
  go_wp2_with fail
  exact bodyPost_ret (v := .tuple #[.string ⟨#[]⟩, .int .i64 31]) (by simp [results, Tryz.results11, go_sem]) rfl ⟨rfl, by first | exact B2 | exact (B2.setCell (by simp) _).setCell (by simp) _⟩
theorem pad_len5 (x k : Nat) (hx : x ≤ 9223372036854775807) (hk : k ≤ 3) : (padL x k).length ≤ 100 := by
  have := Lib.itoa_length_le (x : Int) (by omega) (by omega)
  rw [itoa_nat] at this
  unfold padL
  simp
  omega
set_option maxRecDepth 100000 in
set_option maxHeartbeats 2000000 in
theorem rlb_okf (n d la l T : Int) (fr f q r0 wd : Nat) (r : List UInt8) (hl : (fr : Int) ≤ la) (hfr : fr ≤ 1000000000) (hF : Full (f : Int) l) (hT : 600 * (f : Int) - 9 * l = T) (hT0 : 0 < T) (hq : (fr : Int) / T = (q : Int)) (hr : (fr : Int) % T = (r0 : Int)) (hr0 : (r0 : Int) < T) (hq1 : q ≤ 1000000000) (hwd : Hid (1 ≤ wd ∧ wd ≤ 3)) (w : World)
    (HC : ∀ w, Calls Tryz.prog 20 #[.agg #[.int .i64 n, .int .i64 d, .bool false]] w fun e w' => e = .returned (.int .i64 0) ∧ Below w.heap.size w w')
    (HL : ∀ w, Calls Tryz.prog 37 #[.agg #[.int .i64 n, .int .i64 d, .bool false]] w fun e w' => e = .returned (.int .i64 la) ∧ Below w.heap.size w w')
    (HF : ∀ w, Calls Tryz.prog 38 #[.agg #[.int .i64 n, .int .i64 d, .bool false]] w fun e w' => e = .returned (.int .i64 (f : Nat)) ∧ Below w.heap.size w w')
    (HE : ∀ w, Calls Tryz.prog 39 #[.agg #[.int .i64 n, .int .i64 d, .bool false]] w fun e w' => e = .returned (.int .i64 l) ∧ Below w.heap.size w w')
    (HU : ∀ (m : Int), 0 ≤ m ∧ m ≤ 20 → ∀ w, Calls Tryz.prog 40 #[.agg #[.int .i64 n, .int .i64 d, .bool false], .int .i64 m] w fun e w' => e = .returned (.int .i64 (if m % 10 = 0 then 0 else l)) ∧ Below w.heap.size w w')
    (HV : ∀ w, Calls Tryz.prog 42 #[.int .i64 (f : Nat)] w fun e w' => e = .returned (.int .i64 (wd : Nat)) ∧ Below w.heap.size w w')
    (HX : Hid (∀ (j x M F : Nat) (u : Int), j ≤ 9 → (x : Int) + gone f l j = r0 → ((j = 0 ∧ u = 0) ∨ (1 ≤ j ∧ u = l)) → (x : Int) < 60 * (f : Int) - u → (x : Int) + u = F → (j : Int) + 10 * (q : Int) = M → padL (M / 60) 2 ++ [58] ++ padL (M % 60) 2 ++ [58] ++ padL (F / f) 2 ++ [58] ++ padL (F % f) wd = r)) :
    Calls Tryz.prog 11 #[.agg #[.int .i64 n, .int .i64 d, .bool false], .int .i64 (fr : Nat)] w fun e w' => e = .returned (.tuple #[.string (bs r), .int .i64 0]) ∧ Below w.heap.size w w' := by
  have HC := hideR HC
  have HL := hideR HL
  have HF := hideR HF
  have HE := hideR HE
  have HU := hideR HU
  have HV := hideR HV
  obtain ⟨f1, f2, l1, l2⟩ := hF
  have wq : wrap64 (q : Int) = (q : Int) := by unfold wrap64; omega
  have f600 : (600 : Int) * (f : Int) ≤ 144000 := by omega
  go_enter Tryz.func11, Tryz.ntmps11
  go_wp2_with fail
  go_at_call 20
  refine (HC.out _).mono ?_
  rintro e w1 ⟨rfl, b1⟩
  have A1 := ((RateAt.new w n d false).keep b1)
  have B1 := bup (bel1 w _) b1
  clear b1
  obtain ⟨_, a0, a1, a2⟩ := id A1
  go_wp2_with fail
  go_at_call 37
  refine (HL.out _).mono ?_
  rintro e w2 ⟨rfl, b2⟩
  have A2 := (A1.keep b2)
  have B2 := bup B1 b2
  clear A1 B1 a0 a1 a2
  clear b2
  obtain ⟨_, a0, a1, a2⟩ := id A2
  go_wp2_with fail
  go_at_call 38
  refine (HF.out _).mono ?_
  rintro e w3 ⟨rfl, b3⟩
  have A3 := (A2.keep b3)
  have B3 := bup B2 b3
  clear A2 B2 a0 a1 a2
  clear b3
  obtain ⟨_, a0, a1, a2⟩ := id A3
  go_wp2_with fail
  go_at_call 39
  refine (HE.out _).mono ?_
  rintro e w4 ⟨rfl, b4⟩
  have A4 := (A3.keep b4)
  have B4 := bup B3 b4
  clear A3 B3 a0 a1 a2
  clear b4
  obtain ⟨_, a0, a1, a2⟩ := id A4
  go_wp2_with fail
  go_at_call 39
  refine (HE.out _).mono ?_
  rintro e w5 ⟨rfl, b5⟩
  have A5 := (A4.keep b5)
  have B5 := bup B4 b5
  clear A4 B4 a0 a1 a2
  clear b5
  obtain ⟨_, a0, a1, a2⟩ := id A5
  go_wp2_with fail
  simp only [hr]
  go_loopw [1, 7] (fun vf vm wr => ∃ (x j : Nat), vf = .int .i64 x ∧ vm = .int .i64 j ∧ j ≤ 9 ∧ x ≤ 1000000000 ∧ Hid ((x : Int) + gone f l j = r0) ∧ RateAt wr w.heap.size n d false ∧ Below w.heap.size w wr) (fun _ vm _ => 10 - (intOf vm).toNat)
  case atStart => exact ⟨r0, 0, rfl, rfl, by omega, by omega, hideR (by unfold gone; simp), A5, B5⟩
  case round =>
    clear A5 B5 a0 a1 a2
    obtain ⟨x, j, rfl, rfl, hj, hx, HS, A6, B6⟩ := hrel
    obtain ⟨u, hu⟩ : ∃ u, (if (j : Int) % 10 = 0 then 0 else l) = u := ⟨_, rfl⟩
    have HUj := HU.out j (by omega)
    rw [hu] at HUj
    have HUj := hideR HUj
    have uc : (j = 0 ∧ u = 0) ∨ (1 ≤ j ∧ u = l) := by
      rw [← hu]
      by_cases c : (j : Int) % 10 = 0
      · rw [if_pos c]
        exact .inl ⟨by omega, rfl⟩
      · rw [if_neg c]
        exact .inr ⟨by omega, rfl⟩
    have u0 : 0 ≤ u ∧ u ≤ 4 := by omega
    have UC := hideR uc
    clear hu uc
    obtain ⟨_, a0, a1, a2⟩ := id A6
    by_cases c : 60 * (f : Int) - u ≤ (x : Int)
    · have hj8 : j ≤ 8 := by
        refine Nat.le_of_lt_succ (Nat.lt_of_le_of_ne hj fun e => ?_)
        subst e
        have h1 := HS.out
        have h2 := UC.out
        unfold gone at h1
        rw [if_neg (by omega)] at h1
        omega
      obtain ⟨y, hy⟩ := Int.eq_ofNat_of_zero_le (show 0 ≤ (x : Int) - 60 * (f : Int) + u by omega)
      have HS2 : Hid ((y : Int) + gone f l ((j + 1 : Nat) : Int) = r0) := hideR (by
        have h1 := HS.out
        have h2 := gone_step f l j (by omega)
        rw [show ((j + 1 : Nat) : Int) = (j : Int) + 1 by omega, h2]
        rcases UC.out with ⟨e1, e2⟩ | ⟨e1, e2⟩
        · rw [if_pos (by omega)]; omega
        · rw [if_neg (by omega)]; omega)
      clear HS UC
      go_wp2_with fail
      go_at_call 40
      refine (HUj.out _).mono ?_
      rintro e w7 ⟨rfl, b7⟩
      have A7 := A6.keep b7
      have B7 := bup B6 b7
      clear A6 B6 b7 a0 a1 a2
      obtain ⟨_, a0, a1, a2⟩ := id A7
      go_wp2_with fail
      go_at_call 40
      refine (HUj.out _).mono ?_
      rintro e w8 ⟨rfl, b8⟩
      have A8 := A7.keep b8
      have B8 := bup B7 b8
      clear A7 B7 b8 a0 a1 a2
      go_wp2_with fail
      go_roundw
      case rel =>
        exact ⟨y, j + 1, rfl, by go_num, by omega, by omega, HS2, A8, B8⟩
      case measure =>
        simp [intOf]
        omega
    · obtain ⟨F, hFF⟩ := Int.eq_ofNat_of_zero_le (show 0 ≤ (x : Int) + u by omega)
      obtain ⟨M, hM⟩ : ∃ M : Nat, j + 10 * q = M := ⟨_, rfl⟩
      have hMi : (j : Int) + 10 * (q : Int) = (M : Int) := by omega
      have hr2 := HX.out j x M F u hj HS.out UC.out (by omega) hFF hMi
      have Fb : F ≤ 1000000 := by omega
      have Mb : M ≤ 100000000000 := by omega
      obtain ⟨h, hh⟩ : ∃ h, M / 60 = h := ⟨_, rfl⟩
      obtain ⟨mi, hmi⟩ : ∃ h, M % 60 = h := ⟨_, rfl⟩
      obtain ⟨c1, hc1⟩ : ∃ h, F / f = h := ⟨_, rfl⟩
      obtain ⟨s1, hs1⟩ : ∃ h, F % f = h := ⟨_, rfl⟩
      rw [hh, hmi, hc1, hs1] at hr2
      have D1 := hideR (rdigits_any h 2 (by omega) (by omega) (by omega))
      have D2 := hideR (rdigits_any mi 2 (by omega) (by omega) (by omega))
      have D3 := hideR (rdigits_any c1 2 (by have := Nat.div_le_self F f; omega) (by omega) (by omega))
      have D4 := hideR (rdigits_any s1 wd (by have := Nat.mod_le F f; omega) (by have := hwd.out; omega) (by have := hwd.out; omega))
      have c1b : c1 ≤ F := by rw [← hc1]; exact Nat.div_le_self _ _
      have s1b : s1 ≤ F := by rw [← hs1]; exact Nat.mod_le _ _
      have l1 := pad_len5 h 2 (by omega) (by omega)
      have l2 := pad_len5 mi 2 (by omega) (by omega)
      have l3 := pad_len5 c1 2 (by omega) (by omega)
      have l4 := pad_len5 s1 wd (by omega) (by have := hwd.out; omega)
      have f0 : ¬ f = 0 := by omega
      have zh : (M : Int).tdiv 60 = (h : Int) := by rw [Int.tdiv_eq_ediv_of_nonneg (by omega)]; omega
      have zm : (M : Int).tmod 60 = (mi : Int) := by rw [Int.tmod_eq_emod_of_nonneg (by omega)]; omega
      have zc : (F : Int).tdiv (f : Int) = (c1 : Int) := by rw [Int.tdiv_eq_ediv_of_nonneg (by omega), ← hc1]; simp
      have zs : (F : Int).tmod (f : Int) = (s1 : Int) := by rw [Int.tmod_eq_emod_of_nonneg (by omega), ← hs1]; simp
      have wh : IntKind.i64.wrap (h : Int) = (h : Int) := by rw [IntKind.wrap_i64]; omega
      have wc : IntKind.i64.wrap (c1 : Int) = (c1 : Int) := by rw [IntKind.wrap_i64]; omega
      generalize padL h 2 = a at *
      generalize padL mi 2 = b at *
      generalize padL c1 2 = t at *
      generalize padL s1 wd = k at *
      have ad0 : ∀ w, (Op.stringOp .add (bs a) ⟨#[58]⟩).run Tryz.prog w = .ok (.string (bs (a ++ [58]))) w := fun w => by
        have := run_string_add_sum (P := Tryz.prog) w (bs a) (bs [58]) (by rw [bs_size, bs_size]; simp; omega)
        rw [bs_append] at this
        exact this
      have ad1 : ∀ w, (Op.stringOp .add (bs (a ++ [58])) (bs b)).run Tryz.prog w = .ok (.string (bs ((a ++ [58]) ++ b))) w := fun w => by
        have := run_string_add_sum (P := Tryz.prog) w (bs (a ++ [58])) (bs b) (by rw [bs_size, bs_size]; simp; omega)
        rw [bs_append] at this
        exact this
      have ad2 : ∀ w, (Op.stringOp .add (bs (a ++ [58] ++ b)) ⟨#[58]⟩).run Tryz.prog w = .ok (.string (bs ((a ++ [58] ++ b) ++ [58]))) w := fun w => by
        have := run_string_add_sum (P := Tryz.prog) w (bs (a ++ [58] ++ b)) (bs [58]) (by rw [bs_size, bs_size]; simp; omega)
        rw [bs_append] at this
        exact this
      have ad3 : ∀ w, (Op.stringOp .add (bs (a ++ [58] ++ b ++ [58])) (bs t)).run Tryz.prog w = .ok (.string (bs ((a ++ [58] ++ b ++ [58]) ++ t))) w := fun w => by
        have := run_string_add_sum (P := Tryz.prog) w (bs (a ++ [58] ++ b ++ [58])) (bs t) (by rw [bs_size, bs_size]; simp; omega)
        rw [bs_append] at this
        exact this
      have ad4 : ∀ w, (Op.stringOp .add (bs (a ++ [58] ++ b ++ [58] ++ t)) ⟨#[58]⟩).run Tryz.prog w = .ok (.string (bs ((a ++ [58] ++ b ++ [58] ++ t) ++ [58]))) w := fun w => by
        have := run_string_add_sum (P := Tryz.prog) w (bs (a ++ [58] ++ b ++ [58] ++ t)) (bs [58]) (by rw [bs_size, bs_size]; simp; omega)
        rw [bs_append] at this
        exact this
      have ad5 : ∀ w, (Op.stringOp .add (bs (a ++ [58] ++ b ++ [58] ++ t ++ [58])) (bs k)).run Tryz.prog w = .ok (.string (bs ((a ++ [58] ++ b ++ [58] ++ t ++ [58]) ++ k))) w := fun w => by
        have := run_string_add_sum (P := Tryz.prog) w (bs (a ++ [58] ++ b ++ [58] ++ t ++ [58])) (bs k) (by rw [bs_size, bs_size]; simp; omega)
        rw [bs_append] at this
        exact this
      rw [hr2] at ad5
      generalize bs (a ++ [58]) = y0 at *
      generalize bs ((a ++ [58]) ++ b) = y1 at *
      generalize bs ((a ++ [58] ++ b) ++ [58]) = y2 at *
      generalize bs ((a ++ [58] ++ b ++ [58]) ++ t) = y3 at *
      generalize bs ((a ++ [58] ++ b ++ [58] ++ t) ++ [58]) = y4 at *
      clear hr2 HS UC hh hmi hc1 hs1
      go_wp2_with fail
      go_at_call 40
      refine (HUj.out _).mono ?_
      rintro e w7 ⟨rfl, b7⟩
      have A7 := A6.keep b7
      have B7 := bup B6 b7
      clear A6 B6 b7 a0 a1 a2
      obtain ⟨_, a0, a1, a2⟩ := id A7
      go_wp2_with fail
      go_at_call 40
      refine (HUj.out _).mono ?_
      rintro e w8 ⟨rfl, b8⟩
      have A8 := A7.keep b8
      have B8 := bup B7 b8
      clear A7 B7 b8 a0 a1 a2
      obtain ⟨_, a0, a1, a2⟩ := id A8
      go_wp2_with fail
      go_region_held3 (fun _ => True) (exact trivial)
        (first
        | (go_at_call_of 41 h; refine (D1.out _).mono ?_; rintro e w9 ⟨rfl, b9⟩; have B9 := bup B8.drew b9)
        | (go_at_call_of 41 mi; refine (D2.out _).mono ?_; rintro e w10 ⟨rfl, b10⟩; have B10 := bup B9 b10)
        | (go_at_call_of 41 c1; refine (D3.out _).mono ?_; rintro e w11 ⟨rfl, b11⟩; have B11 := bup B10 b11)
        | (go_at_call 42; refine (HV.out _).mono ?_; rintro e w12 ⟨rfl, b12⟩; have B12 := bup B11 b12)
        | (go_at_call_of 41 s1; refine (D4.out _).mono ?_; rintro e w13 ⟨rfl, b13⟩; have B13 := bup B12 b13))
      all_goals (try go_wp2_with fail)
      all_goals (go_ret2; exact ⟨rfl, B13⟩)
set_option maxRecDepth 100000 in
set_option maxHeartbeats 2000000 in
theorem rlb_okt (n d la l T : Int) (fr f q r0 wd : Nat) (r : List UInt8) (hl : (fr : Int) ≤ la) (hfr : fr ≤ 1000000000) (hF : Full (f : Int) l) (hT : 600 * (f : Int) - 9 * l = T) (hT0 : 0 < T) (hq : (fr : Int) / T = (q : Int)) (hr : (fr : Int) % T = (r0 : Int)) (hr0 : (r0 : Int) < T) (hq1 : q ≤ 1000000000) (hwd : Hid (1 ≤ wd ∧ wd ≤ 3)) (w : World)
    (HC : ∀ w, Calls Tryz.prog 20 #[.agg #[.int .i64 n, .int .i64 d, .bool true]] w fun e w' => e = .returned (.int .i64 0) ∧ Below w.heap.size w w')
    (HL : ∀ w, Calls Tryz.prog 37 #[.agg #[.int .i64 n, .int .i64 d, .bool true]] w fun e w' => e = .returned (.int .i64 la) ∧ Below w.heap.size w w')
    (HF : ∀ w, Calls Tryz.prog 38 #[.agg #[.int .i64 n, .int .i64 d, .bool true]] w fun e w' => e = .returned (.int .i64 (f : Nat)) ∧ Below w.heap.size w w')
    (HE : ∀ w, Calls Tryz.prog 39 #[.agg #[.int .i64 n, .int .i64 d, .bool true]] w fun e w' => e = .returned (.int .i64 l) ∧ Below w.heap.size w w')
    (HU : ∀ (m : Int), 0 ≤ m ∧ m ≤ 20 → ∀ w, Calls Tryz.prog 40 #[.agg #[.int .i64 n, .int .i64 d, .bool true], .int .i64 m] w fun e w' => e = .returned (.int .i64 (if m % 10 = 0 then 0 else l)) ∧ Below w.heap.size w w')
    (HV : ∀ w, Calls Tryz.prog 42 #[.int .i64 (f : Nat)] w fun e w' => e = .returned (.int .i64 (wd : Nat)) ∧ Below w.heap.size w w')
    (HX : Hid (∀ (j x M F : Nat) (u : Int), j ≤ 9 → (x : Int) + gone f l j = r0 → ((j = 0 ∧ u = 0) ∨ (1 ≤ j ∧ u = l)) → (x : Int) < 60 * (f : Int) - u → (x : Int) + u = F → (j : Int) + 10 * (q : Int) = M → padL (M / 60) 2 ++ [58] ++ padL (M % 60) 2 ++ [58] ++ padL (F / f) 2 ++ [59] ++ padL (F % f) wd = r)) :
    Calls Tryz.prog 11 #[.agg #[.int .i64 n, .int .i64 d, .bool true], .int .i64 (fr : Nat)] w fun e w' => e = .returned (.tuple #[.string (bs r), .int .i64 0]) ∧ Below w.heap.size w w' := by
  have HC := hideR HC
  have HL := hideR HL
  have HF := hideR HF
  have HE := hideR HE
  have HU := hideR HU
  have HV := hideR HV
  obtain ⟨f1, f2, l1, l2⟩ := hF
  have wq : wrap64 (q : Int) = (q : Int) := by unfold wrap64; omega
  have f600 : (600 : Int) * (f : Int) ≤ 144000 := by omega
  go_enter Tryz.func11, Tryz.ntmps11
  go_wp2_with fail
  go_at_call 20
  refine (HC.out _).mono ?_
  rintro e w1 ⟨rfl, b1⟩
  have A1 := ((RateAt.new w n d true).keep b1)
  have B1 := bup (bel1 w _) b1
  clear b1
  obtain ⟨_, a0, a1, a2⟩ := id A1
  go_wp2_with fail
  go_at_call 37
  refine (HL.out _).mono ?_
  rintro e w2 ⟨rfl, b2⟩
  have A2 := (A1.keep b2)
  have B2 := bup B1 b2
  clear A1 B1 a0 a1 a2
  clear b2
  obtain ⟨_, a0, a1, a2⟩ := id A2
  go_wp2_with fail
  go_at_call 38
  refine (HF.out _).mono ?_
  rintro e w3 ⟨rfl, b3⟩
  have A3 := (A2.keep b3)
  have B3 := bup B2 b3
  clear A2 B2 a0 a1 a2
  clear b3
  obtain ⟨_, a0, a1, a2⟩ := id A3
  go_wp2_with fail
  go_at_call 39
  refine (HE.out _).mono ?_
  rintro e w4 ⟨rfl, b4⟩
  have A4 := (A3.keep b4)
  have B4 := bup B3 b4
  clear A3 B3 a0 a1 a2
  clear b4
  obtain ⟨_, a0, a1, a2⟩ := id A4
  go_wp2_with fail
  go_at_call 39
  refine (HE.out _).mono ?_
  rintro e w5 ⟨rfl, b5⟩
  have A5 := (A4.keep b5)
  have B5 := bup B4 b5
  clear A4 B4 a0 a1 a2
  clear b5
  obtain ⟨_, a0, a1, a2⟩ := id A5
  go_wp2_with fail
  simp only [hr]
  go_loopw [1, 7] (fun vf vm wr => ∃ (x j : Nat), vf = .int .i64 x ∧ vm = .int .i64 j ∧ j ≤ 9 ∧ x ≤ 1000000000 ∧ Hid ((x : Int) + gone f l j = r0) ∧ RateAt wr w.heap.size n d true ∧ Below w.heap.size w wr) (fun _ vm _ => 10 - (intOf vm).toNat)
  case atStart => exact ⟨r0, 0, rfl, rfl, by omega, by omega, hideR (by unfold gone; simp), A5, B5⟩
  case round =>
    clear A5 B5 a0 a1 a2
    obtain ⟨x, j, rfl, rfl, hj, hx, HS, A6, B6⟩ := hrel
    obtain ⟨u, hu⟩ : ∃ u, (if (j : Int) % 10 = 0 then 0 else l) = u := ⟨_, rfl⟩
    have HUj := HU.out j (by omega)
    rw [hu] at HUj
    have HUj := hideR HUj
    have uc : (j = 0 ∧ u = 0) ∨ (1 ≤ j ∧ u = l) := by
      rw [← hu]
      by_cases c : (j : Int) % 10 = 0
      · rw [if_pos c]
        exact .inl ⟨by omega, rfl⟩
      · rw [if_neg c]
        exact .inr ⟨by omega, rfl⟩
    have u0 : 0 ≤ u ∧ u ≤ 4 := by omega
    have UC := hideR uc
    clear hu uc
    obtain ⟨_, a0, a1, a2⟩ := id A6
    by_cases c : 60 * (f : Int) - u ≤ (x : Int)
    · have hj8 : j ≤ 8 := by
        refine Nat.le_of_lt_succ (Nat.lt_of_le_of_ne hj fun e => ?_)
        subst e
        have h1 := HS.out
        have h2 := UC.out
        unfold gone at h1
        rw [if_neg (by omega)] at h1
        omega
      obtain ⟨y, hy⟩ := Int.eq_ofNat_of_zero_le (show 0 ≤ (x : Int) - 60 * (f : Int) + u by omega)
      have HS2 : Hid ((y : Int) + gone f l ((j + 1 : Nat) : Int) = r0) := hideR (by
        have h1 := HS.out
        have h2 := gone_step f l j (by omega)
        rw [show ((j + 1 : Nat) : Int) = (j : Int) + 1 by omega, h2]
        rcases UC.out with ⟨e1, e2⟩ | ⟨e1, e2⟩
        · rw [if_pos (by omega)]; omega
        · rw [if_neg (by omega)]; omega)
      clear HS UC
      go_wp2_with fail
      go_at_call 40
      refine (HUj.out _).mono ?_
      rintro e w7 ⟨rfl, b7⟩
      have A7 := A6.keep b7
      have B7 := bup B6 b7
      clear A6 B6 b7 a0 a1 a2
      obtain ⟨_, a0, a1, a2⟩ := id A7
      go_wp2_with fail
      go_at_call 40
      refine (HUj.out _).mono ?_
      rintro e w8 ⟨rfl, b8⟩
      have A8 := A7.keep b8
      have B8 := bup B7 b8
      clear A7 B7 b8 a0 a1 a2
      go_wp2_with fail
      go_roundw
      case rel =>
        exact ⟨y, j + 1, rfl, by go_num, by omega, by omega, HS2, A8, B8⟩
      case measure =>
        simp [intOf]
        omega
    · obtain ⟨F, hFF⟩ := Int.eq_ofNat_of_zero_le (show 0 ≤ (x : Int) + u by omega)
      obtain ⟨M, hM⟩ : ∃ M : Nat, j + 10 * q = M := ⟨_, rfl⟩
      have hMi : (j : Int) + 10 * (q : Int) = (M : Int) := by omega
      have hr2 := HX.out j x M F u hj HS.out UC.out (by omega) hFF hMi
      have Fb : F ≤ 1000000 := by omega
      have Mb : M ≤ 100000000000 := by omega
      obtain ⟨h, hh⟩ : ∃ h, M / 60 = h := ⟨_, rfl⟩
      obtain ⟨mi, hmi⟩ : ∃ h, M % 60 = h := ⟨_, rfl⟩
      obtain ⟨c1, hc1⟩ : ∃ h, F / f = h := ⟨_, rfl⟩
      obtain ⟨s1, hs1⟩ : ∃ h, F % f = h := ⟨_, rfl⟩
      rw [hh, hmi, hc1, hs1] at hr2
      have D1 := hideR (rdigits_any h 2 (by omega) (by omega) (by omega))
      have D2 := hideR (rdigits_any mi 2 (by omega) (by omega) (by omega))
      have D3 := hideR (rdigits_any c1 2 (by have := Nat.div_le_self F f; omega) (by omega) (by omega))
      have D4 := hideR (rdigits_any s1 wd (by have := Nat.mod_le F f; omega) (by have := hwd.out; omega) (by have := hwd.out; omega))
      have c1b : c1 ≤ F := by rw [← hc1]; exact Nat.div_le_self _ _
      have s1b : s1 ≤ F := by rw [← hs1]; exact Nat.mod_le _ _
      have l1 := pad_len5 h 2 (by omega) (by omega)
      have l2 := pad_len5 mi 2 (by omega) (by omega)
      have l3 := pad_len5 c1 2 (by omega) (by omega)
      have l4 := pad_len5 s1 wd (by omega) (by have := hwd.out; omega)
      have f0 : ¬ f = 0 := by omega
      have zh : (M : Int).tdiv 60 = (h : Int) := by rw [Int.tdiv_eq_ediv_of_nonneg (by omega)]; omega
      have zm : (M : Int).tmod 60 = (mi : Int) := by rw [Int.tmod_eq_emod_of_nonneg (by omega)]; omega
      have zc : (F : Int).tdiv (f : Int) = (c1 : Int) := by rw [Int.tdiv_eq_ediv_of_nonneg (by omega), ← hc1]; simp
      have zs : (F : Int).tmod (f : Int) = (s1 : Int) := by rw [Int.tmod_eq_emod_of_nonneg (by omega), ← hs1]; simp
      have wh : IntKind.i64.wrap (h : Int) = (h : Int) := by rw [IntKind.wrap_i64]; omega
      have wc : IntKind.i64.wrap (c1 : Int) = (c1 : Int) := by rw [IntKind.wrap_i64]; omega
      generalize padL h 2 = a at *
      generalize padL mi 2 = b at *
      generalize padL c1 2 = t at *
      generalize padL s1 wd = k at *
      have ad0 : ∀ w, (Op.stringOp .add (bs a) ⟨#[58]⟩).run Tryz.prog w = .ok (.string (bs (a ++ [58]))) w := fun w => by
        have := run_string_add_sum (P := Tryz.prog) w (bs a) (bs [58]) (by rw [bs_size, bs_size]; simp; omega)
        rw [bs_append] at this
        exact this
      have ad1 : ∀ w, (Op.stringOp .add (bs (a ++ [58])) (bs b)).run Tryz.prog w = .ok (.string (bs ((a ++ [58]) ++ b))) w := fun w => by
        have := run_string_add_sum (P := Tryz.prog) w (bs (a ++ [58])) (bs b) (by rw [bs_size, bs_size]; simp; omega)
        rw [bs_append] at this
        exact this
      have ad2 : ∀ w, (Op.stringOp .add (bs (a ++ [58] ++ b)) ⟨#[58]⟩).run Tryz.prog w = .ok (.string (bs ((a ++ [58] ++ b) ++ [58]))) w := fun w => by
        have := run_string_add_sum (P := Tryz.prog) w (bs (a ++ [58] ++ b)) (bs [58]) (by rw [bs_size, bs_size]; simp; omega)
        rw [bs_append] at this
        exact this
      have ad3 : ∀ w, (Op.stringOp .add (bs (a ++ [58] ++ b ++ [58])) (bs t)).run Tryz.prog w = .ok (.string (bs ((a ++ [58] ++ b ++ [58]) ++ t))) w := fun w => by
        have := run_string_add_sum (P := Tryz.prog) w (bs (a ++ [58] ++ b ++ [58])) (bs t) (by rw [bs_size, bs_size]; simp; omega)
        rw [bs_append] at this
        exact this
      have ad4 : ∀ w, (Op.stringOp .add (bs (a ++ [58] ++ b ++ [58] ++ t)) ⟨#[59]⟩).run Tryz.prog w = .ok (.string (bs ((a ++ [58] ++ b ++ [58] ++ t) ++ [59]))) w := fun w => by
        have := run_string_add_sum (P := Tryz.prog) w (bs (a ++ [58] ++ b ++ [58] ++ t)) (bs [59]) (by rw [bs_size, bs_size]; simp; omega)
        rw [bs_append] at this
        exact this
      have ad5 : ∀ w, (Op.stringOp .add (bs (a ++ [58] ++ b ++ [58] ++ t ++ [59])) (bs k)).run Tryz.prog w = .ok (.string (bs ((a ++ [58] ++ b ++ [58] ++ t ++ [59]) ++ k))) w := fun w => by
        have := run_string_add_sum (P := Tryz.prog) w (bs (a ++ [58] ++ b ++ [58] ++ t ++ [59])) (bs k) (by rw [bs_size, bs_size]; simp; omega)
        rw [bs_append] at this
        exact this
      rw [hr2] at ad5
      generalize bs (a ++ [58]) = y0 at *
      generalize bs ((a ++ [58]) ++ b) = y1 at *
      generalize bs ((a ++ [58] ++ b) ++ [58]) = y2 at *
      generalize bs ((a ++ [58] ++ b ++ [58]) ++ t) = y3 at *
      generalize bs ((a ++ [58] ++ b ++ [58] ++ t) ++ [59]) = y4 at *
      clear hr2 HS UC hh hmi hc1 hs1
      go_wp2_with fail
      go_at_call 40
      refine (HUj.out _).mono ?_
      rintro e w7 ⟨rfl, b7⟩
      have A7 := A6.keep b7
      have B7 := bup B6 b7
      clear A6 B6 b7 a0 a1 a2
      obtain ⟨_, a0, a1, a2⟩ := id A7
      go_wp2_with fail
      go_at_call 40
      refine (HUj.out _).mono ?_
      rintro e w8 ⟨rfl, b8⟩
      have A8 := A7.keep b8
      have B8 := bup B7 b8
      clear A7 B7 b8 a0 a1 a2
      obtain ⟨_, a0, a1, a2⟩ := id A8
      go_wp2_with fail
      go_region_held3 (fun _ => True) (exact trivial)
        (first
        | (go_at_call_of 41 h; refine (D1.out _).mono ?_; rintro e w9 ⟨rfl, b9⟩; have B9 := bup B8.drew b9)
        | (go_at_call_of 41 mi; refine (D2.out _).mono ?_; rintro e w10 ⟨rfl, b10⟩; have B10 := bup B9 b10)
        | (go_at_call_of 41 c1; refine (D3.out _).mono ?_; rintro e w11 ⟨rfl, b11⟩; have B11 := bup B10 b11)
        | (go_at_call 42; refine (HV.out _).mono ?_; rintro e w12 ⟨rfl, b12⟩; have B12 := bup B11 b12)
        | (go_at_call_of 41 s1; refine (D4.out _).mono ?_; rintro e w13 ⟨rfl, b13⟩; have B13 := bup B12 b13))
      all_goals (try go_wp2_with fail)
      all_goals (go_ret2; exact ⟨rfl, B13⟩)
end Go.Proofs.YtaipdckakgohjaaGreatDoor
