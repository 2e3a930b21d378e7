/- The contract of surtitleref3.lowest, where the first half is not 0. -/
import Derived.Test.YtipnefaggpigfaaRefA4
import Derived.Deep.RegionHeld3
namespace Go.Proofs.Ytipnefaggpigfaa
open Go.RowKit Go.Shelf
attribute [local go_sem] Oper.semAt_some

set_option maxRecDepth 100000 in
set_option maxHeartbeats 2000000 in
theorem rlowestA (ng nd : Bool) (H L : Int) (m D : Nat) (hq : ¬ H = 0) (hH : hiZ m = H) (hL : loZ m = L) (hm0 : 0 < m) (hm : m ≤ 170141183460469231731687303715884105728) (hD0 : 0 < D) (hD : D ≤ 170141183460469231731687303715884105728) (w : World) :
    Calls Try.prog 63 #[.agg #[.bool ng, .int .u64 H, .int .u64 L], .agg #[.bool nd, .int .u64 (hiZ D), .int .u64 (loZ D)]] w fun e w' => e = .returned (.tuple #[rtv (low (Rat.divInt (sgnQ ng m) D)).1, .int .i64 (low (Rat.divInt (sgnQ ng m) D)).2]) ∧ Below w.heap.size w w' := by
  have hgp : 0 < m.gcd D := Nat.gcd_pos_of_pos_left _ hm0
  have HR := hideR (low_ref ng m D _ hD0 rfl)
  generalize low (Rat.divInt (sgnQ ng m) D) = r at *
  have HH := hideR hH
  have HL := hideR hL
  clear hH hL
  go_enter Try.func63, Try.ntmps63
  go_wp2_with fail
  go_loopw [8] (fun _ wr => ∃ x y : Nat, 0 < x ∧ x ≤ 170141183460469231731687303715884105728 ∧ y ≤ 170141183460469231731687303715884105728 ∧ x.gcd y = m.gcd D ∧ Low5 w.heap.size ng nd H L D x y wr ∧ Below w.heap.size w wr) (fun _ wr => sizeAt (w.heap.size + 1 + 1 + 1 + 1) wr)
  case atStart => exact ⟨m, D, hm0, hm, hD, rfl, low5_new w ng nd H L m D HH.out HL.out, bup (bel3 w _ _ _) (bel2 _ _ _)⟩
  case round =>
    obtain ⟨x, y, hx0, hx, hy, hg, hS, hB⟩ := hrel
    by_cases h0 : y = 0
    · subst h0
      obtain ⟨Tn, Td, Tr, ⟨na, Ta⟩, ⟨nb, Tb⟩⟩ := id hS
      rw [Nat.gcd_zero_right] at hg
      rw [show hiZ ((0 : Nat) : Int) = 0 from rfl, show loZ ((0 : Nat) : Int) = 0 from rfl] at Tb
      have HG := hideR hg.symm
      clear hg
      have HP := divided_any false na m x (by omega) hx0 hx
      have HQ := divided_any nd na D x (by omega) hx0 hx
      rw [HH.out, HL.out] at HP
      unfold uv at HP HQ
      have HP := hideR HP
      have HQ := hideR HQ
      obtain ⟨_, a0, a1, a2, a3, a4, a5⟩ := id Ta
      obtain ⟨_, b0, b1, b2, b3, b4, b5⟩ := id Tb
      obtain ⟨_, n0, n1, n2, _, _, _⟩ := id Tn
      go_wp2_with fail
      go_at_call 83
      refine Calls.mono (HP.out _) ?_
      rintro e w2 ⟨rfl, k2⟩
      have Tn2 := Tn.keep k2
      have Td2 := Td.keep k2
      have Tr2 := Tr.keep k2
      have Ta2 := Ta.keep k2
      have B2 := bup hB k2
      clear hS hB Tn Td Tr Ta Tb k2 a0 a1 a2 a3 a4 a5 b0 b1 b2 b3 b4 b5 n0 n1 n2
      obtain ⟨P, hP⟩ : ∃ P, m / x = P := ⟨_, rfl⟩
      obtain ⟨P0, hP0⟩ : ∃ P0, m % x = P0 := ⟨_, rfl⟩
      rw [hP, hP0]
      have HP1 := hideR hP
      clear hP hP0 HP
      have HPb : Hid (P ≤ 170141183460469231731687303715884105728) := by rw [Hid, ← HP1.out]; exact Nat.le_trans (Nat.div_le_self _ _) hm
      have zz : w.heap.size + 1 + 1 + 1 < w2.heap.size := Ta2.1
      have Tn3 := (Tn2.alloc (.cells #[.bool false, .int .u64 (hiZ P), .int .u64 (loZ P)] 93)).alloc (.cells #[.bool false, .int .u64 (hiZ P0), .int .u64 (loZ P0)] 93)
      have Td3 := (Td2.alloc (.cells #[.bool false, .int .u64 (hiZ P), .int .u64 (loZ P)] 93)).alloc (.cells #[.bool false, .int .u64 (hiZ P0), .int .u64 (loZ P0)] 93)
      have Tr3 := (Tr2.alloc (.cells #[.bool false, .int .u64 (hiZ P), .int .u64 (loZ P)] 93)).alloc (.cells #[.bool false, .int .u64 (hiZ P0), .int .u64 (loZ P0)] 93)
      have Ta3 := (Ta2.alloc (.cells #[.bool false, .int .u64 (hiZ P), .int .u64 (loZ P)] 93)).alloc (.cells #[.bool false, .int .u64 (hiZ P0), .int .u64 (loZ P0)] 93)
      have Tp3 := (Tri.new w2 false (hiZ P) (loZ P) 93).alloc (.cells #[.bool false, .int .u64 (hiZ P0), .int .u64 (loZ P0)] 93)
      have B3 := bup (bup B2 (bel1 w2 (.cells #[.bool false, .int .u64 (hiZ P), .int .u64 (loZ P)] 93))) (bel1 (w2.alloc (.cells #[.bool false, .int .u64 (hiZ P), .int .u64 (loZ P)] 93)) (.cells #[.bool false, .int .u64 (hiZ P0), .int .u64 (loZ P0)] 93))
      clear Tn2 Td2 Tr2 Ta2 B2
      obtain ⟨_, a0, a1, a2, _, _, _⟩ := id Ta3
      obtain ⟨_, d0, d1, d2, _, _, _⟩ := id Td3
      go_wp2_with fail
      go_at_call 83
      refine Calls.mono (HQ.out _) ?_
      rintro e w4 ⟨rfl, k4⟩
      have Tn4 := Tn3.keep k4
      have Tr4 := Tr3.keep k4
      have Tp4 := Tp3.keep k4
      have B4 := bup B3 k4
      obtain ⟨Q, hQ⟩ : ∃ Q, D / x = Q := ⟨_, rfl⟩
      obtain ⟨Q0, hQ0⟩ : ∃ Q0, D % x = Q0 := ⟨_, rfl⟩
      rw [hQ, hQ0]
      have HQ1 := hideR hQ
      have HQb : Hid (Q ≤ 170141183460469231731687303715884105728) := by rw [Hid, ← HQ1.out]; exact Nat.le_trans (Nat.div_le_self _ _) hD
      clear hQ hQ0 HQ Tn3 Td3 Tr3 Ta3 Tp3 B3 k4 a0 a1 a2 d0 d1 d2
      have zp : w2.heap.size < w4.heap.size := Tp4.1
      have Tn5 := (Tn4.alloc (.cells #[.bool false, .int .u64 (hiZ Q), .int .u64 (loZ Q)] 93)).alloc (.cells #[.bool false, .int .u64 (hiZ Q0), .int .u64 (loZ Q0)] 93)
      have Tp5 := (Tp4.alloc (.cells #[.bool false, .int .u64 (hiZ Q), .int .u64 (loZ Q)] 93)).alloc (.cells #[.bool false, .int .u64 (hiZ Q0), .int .u64 (loZ Q0)] 93)
      have Tr6 := ((Tr4.one (S := w2.heap.size) (i := 0) (v := .bool ng) (by omega)).alloc (.cells #[.bool false, .int .u64 (hiZ Q), .int .u64 (loZ Q)] 93)).alloc (.cells #[.bool false, .int .u64 (hiZ Q0), .int .u64 (loZ Q0)] 93)
      have Tp6 := ((Tp4.set0 (n2 := ng)).alloc (.cells #[.bool false, .int .u64 (hiZ Q), .int .u64 (loZ Q)] 93)).alloc (.cells #[.bool false, .int .u64 (hiZ Q0), .int .u64 (loZ Q0)] 93)
      have Tq6 := ((Tri.new (w4.setCell ⟨w2.heap.size, 0, none⟩ (.bool ng)) false (hiZ Q) (loZ Q) 93).at (R2 := w4.heap.size) (by simp)).alloc (.cells #[.bool false, .int .u64 (hiZ Q0), .int .u64 (loZ Q0)] 93)
      have B6 := bup (bup (B4.setCell (p := ⟨w2.heap.size, 0, none⟩) (by simp; omega) (.bool ng)) (bel1 (w4.setCell ⟨w2.heap.size, 0, none⟩ (.bool ng)) (.cells #[.bool false, .int .u64 (hiZ Q), .int .u64 (loZ Q)] 93))) (bel1 ((w4.setCell ⟨w2.heap.size, 0, none⟩ (.bool ng)).alloc (.cells #[.bool false, .int .u64 (hiZ Q), .int .u64 (loZ Q)] 93)) (.cells #[.bool false, .int .u64 (hiZ Q0), .int .u64 (loZ Q0)] 93))
      have HF := hideR (rfits_any ng (hiZ P) (loZ P))
      obtain ⟨_, n0, n1, n2, _, _, _⟩ := id Tn5
      obtain ⟨_, p0, p1, p2, p3, p4, p5⟩ := id Tp5
      obtain ⟨_, q0, q1, q2, _, _, _⟩ := id Tp6
      clear Tn5 Tp5 Tn4 Tr4 Tp4 B4
      go_wp2_with fail
      go_at_call 84
      refine Calls.mono (HF.out _) ?_
      rintro e w7 ⟨rfl, k7⟩
      have Tr7 := Tr6.keep k7
      have Tp7 := Tp6.keep k7
      have Tq7 := Tq6.keep k7
      have B7 := bup B6 k7
      clear HF Tr6 Tp6 Tq6 B6 k7 n0 n1 n2 p0 p1 p2 p3 p4 p5 q0 q1 q2
      have zr : w.heap.size + 1 + 1 < w7.heap.size := Tr7.1
      have hPb := HPb.out
      have hQb := HQb.out
      have er0 : r = if P ≤ 4611686018427387904 ∧ Q ≤ 2147483648 then (⟨sgnQ ng P, Q⟩, 0) else (⟨0, 0⟩, 12) := by
        have := HR.out
        rw [HG.out, HP1.out, HQ1.out] at this
        exact this
      have ER0 := hideR er0
      clear er0
      obtain ⟨_, k0, k1, k2, k3⟩ := id Tr7
      by_cases hf : P ≤ 4611686018427387904
      · rw [decide_eq_true (show hiZ P = 0 ∧ loZ P ≤ 4611686018427387904 by unfold hiZ loZ; omega)]
        by_cases hqh : hiZ Q = 0
        · rw [hqh] at Tq7
          by_cases hql : 2147483648 < loZ Q
          · have er : Hid (r = (⟨0, 0⟩, 12)) := by
              rw [Hid, ER0.out, if_neg]
              unfold hiZ at hqh
              unfold loZ at hql
              omega
            obtain ⟨_, q0, q1, q2, _, _, _⟩ := id Tq7
            go_wp2_with fail
            exact bodyPost_ret (v := .tuple #[.agg #[.int .i64 0, .int .i64 0], .int .i64 12]) (by simp [results, Try.results63, go_sem, k0, k1]) rfl ⟨by rw [er.out]; rfl, (B7.setCell (by simp; omega) _).setCell (by simp; omega) _⟩
          · have e1 : loZ Q = Q := by unfold hiZ loZ at *; omega
            rw [e1] at Tq7 hql
            have er : Hid (r = (⟨sgnQ ng P, Q⟩, 0)) := by
              rw [Hid, ER0.out, if_pos]
              omega
            have HN := r3num_any ng (hiZ P) (loZ P) (by unfold loZ; omega) (by unfold loZ; omega)
            rw [show loZ P = P by unfold loZ; omega] at HN Tp7
            have HN := hideR HN
            have hw : IntKind.i64.wrap (Q : Int) = Q := by rw [IntKind.wrap_i64]; omega
            clear e1 hqh
            obtain ⟨_, q0, q1, q2, _, _, _⟩ := id Tq7
            obtain ⟨_, p0, p1, p2, _, _, _⟩ := id Tp7
            have SC := sN Tp7 Tq7
            have z4 : w4.heap.size < w7.heap.size := Tq7.1
            go_wp2_with fail
            go_region_held3 (fun w' => w'.cell? ⟨w2.heap.size, 0, none⟩ = some (.bool ng) ∧ w'.cell? ⟨w2.heap.size, 1, none⟩ = some (.int .u64 (hiZ P)) ∧ w'.cell? ⟨w2.heap.size, 2, none⟩ = some (.int .u64 (P : Int)) ∧ w'.cell? ⟨w4.heap.size, 2, none⟩ = some (.int .u64 (Q : Int))) (first | assumption | exact sN ((Tp8.other (by omega)).other (by omega)) ((Tq8.other (by omega)).other (by omega)) | go_keep)
              ((go_at_call 85; refine (HN.out _).mono ?_; rintro e w8 ⟨rfl, k8⟩; have Tp8 := Tp7.drew.keep k8; have Tq8 := Tq7.drew.keep k8; have Tr8 := Tr7.drew.keep k8; have S8 := sN Tp8 Tq8; obtain ⟨_, l0, l1, l2, l3⟩ := id Tr8))
            all_goals (try go_wp2_with fail)
            all_goals exact bodyPost_ret (v := .tuple #[.agg #[.int .i64 (sgnQ ng P), .int .i64 Q], .int .i64 0]) (by simp [results, Try.results63, go_sem, l0, l1]) rfl ⟨by rw [er.out]; rfl, ((bup B7.drew k8).setCell (by simp; omega) _).setCell (by simp; omega) _⟩
        · have er : Hid (r = (⟨0, 0⟩, 12)) := by
            rw [Hid, ER0.out, if_neg]
            unfold hiZ at hqh
            omega
          obtain ⟨_, q0, q1, q2, _, _, _⟩ := id Tq7
          go_wp2_with fail
          exact bodyPost_ret (v := .tuple #[.agg #[.int .i64 0, .int .i64 0], .int .i64 12]) (by simp [results, Try.results63, go_sem, k0, k1]) rfl ⟨by rw [er.out]; rfl, (B7.setCell (by simp; omega) _).setCell (by simp; omega) _⟩
      · rw [decide_eq_false (show ¬ (hiZ P = 0 ∧ loZ P ≤ 4611686018427387904) by unfold hiZ loZ; omega)]
        have er : Hid (r = (⟨0, 0⟩, 12)) := by
          rw [Hid, ER0.out, if_neg]
          omega
        go_wp2_with fail
        exact bodyPost_ret (v := .tuple #[.agg #[.int .i64 0, .int .i64 0], .int .i64 12]) (by simp [results, Try.results63, go_sem, k0, k1]) rfl ⟨by rw [er.out]; rfl, (B7.setCell (by simp; omega) _).setCell (by simp; omega) _⟩
    · obtain ⟨Tn, Td, Tr, ⟨na, Ta⟩, ⟨nb, Tb⟩⟩ := id hS
      have HG := hideR hg
      have hyr : x % y ≤ 170141183460469231731687303715884105728 := by have := Nat.mod_lt x (show y > 0 by omega); omega
      have HDv := divided_any na nb x y (by omega) (by omega) hy
      unfold uv at HDv
      have HDv := hideR HDv
      have hne : ¬ (hiZ (y : Nat) = 0 ∧ loZ (y : Nat) = 0) := by unfold hiZ loZ; omega
      have hsz := sizeAt_tri (by omega) Tb
      have HSZ := hideR hsz
      clear hg hsz
      obtain ⟨yh, eyh⟩ : ∃ yh, hiZ (y : Nat) = yh := ⟨_, rfl⟩
      obtain ⟨yl, eyl⟩ : ∃ yl, loZ (y : Nat) = yl := ⟨_, rfl⟩
      rw [eyh, eyl] at Tb hne HDv
      have EYH := hideR eyh
      have EYL := hideR eyl
      clear eyh eyl
      obtain ⟨_, a0, a1, a2, a3, a4, a5⟩ := id Ta
      obtain ⟨_, b0, b1, b2, b3, b4, b5⟩ := id Tb
      by_cases hh : yh = 0
      · subst hh
        have hl : ¬ yl = 0 := fun e => hne ⟨rfl, e⟩
        go_wp2_with fail
        go_at_call 83
        refine Calls.mono (HDv.out _) ?_
        rintro e w2 ⟨rfl, k2⟩
        have Tn2 := Tn.keep k2
        have Td2 := Td.keep k2
        have Tr2 := Tr.keep k2
        have Ta2 := Ta.keep k2
        have Tb2 := Tb.keep k2
        have B2 := bup hB k2
        obtain ⟨xq, exq⟩ : ∃ xq, x / y = xq := ⟨_, rfl⟩
        obtain ⟨xr, exr⟩ : ∃ xr, x % y = xr := ⟨_, rfl⟩
        rw [exq, exr]
        rw [exr] at hyr
        have hlt : Hid (xr < y) := by rw [Hid, ← exr]; exact Nat.mod_lt x (by omega)
        have EXR := hideR exr
        clear exq exr a0 a1 a2 a3 a4 a5 b0 b1 b2 b3 b4 b5 Tn Td Tr Ta Tb hB k2 hS
        have Tn3 := (Tn2.alloc (.cells #[.bool false, .int .u64 (hiZ xq), .int .u64 (loZ xq)] 93)).alloc (.cells #[.bool false, .int .u64 (hiZ xr), .int .u64 (loZ xr)] 93)
        have Td3 := (Td2.alloc (.cells #[.bool false, .int .u64 (hiZ xq), .int .u64 (loZ xq)] 93)).alloc (.cells #[.bool false, .int .u64 (hiZ xr), .int .u64 (loZ xr)] 93)
        have Tr3 := (Tr2.alloc (.cells #[.bool false, .int .u64 (hiZ xq), .int .u64 (loZ xq)] 93)).alloc (.cells #[.bool false, .int .u64 (hiZ xr), .int .u64 (loZ xr)] 93)
        have Ta3 := (Ta2.alloc (.cells #[.bool false, .int .u64 (hiZ xq), .int .u64 (loZ xq)] 93)).alloc (.cells #[.bool false, .int .u64 (hiZ xr), .int .u64 (loZ xr)] 93)
        have Tb3 := (Tb2.alloc (.cells #[.bool false, .int .u64 (hiZ xq), .int .u64 (loZ xq)] 93)).alloc (.cells #[.bool false, .int .u64 (hiZ xr), .int .u64 (loZ xr)] 93)
        have Tx3 := Tri.new (w2.alloc (.cells #[.bool false, .int .u64 (hiZ xq), .int .u64 (loZ xq)] 93)) false (hiZ xr) (loZ xr) 93
        rw [show (w2.alloc (.cells #[.bool false, .int .u64 (hiZ xq), .int .u64 (loZ xq)] 93)).heap.size = w2.heap.size + 1 by simp] at Tx3
        have B3 := bup (bup B2 (bel1 w2 (.cells #[.bool false, .int .u64 (hiZ xq), .int .u64 (loZ xq)] 93))) (bel1 (w2.alloc (.cells #[.bool false, .int .u64 (hiZ xq), .int .u64 (loZ xq)] 93)) (.cells #[.bool false, .int .u64 (hiZ xr), .int .u64 (loZ xr)] 93))
        have zz : w.heap.size + 1 + 1 + 1 + 1 < w2.heap.size := Tb2.1
        clear Tn2 Td2 Tr2 Ta2 Tb2 B2
        have S3 := Low5.step (na2 := nb) (nb2 := false) Tn3 Td3 Tr3 Ta3 Tb3 EYH.out EYL.out (x2 := y) (y2 := xr) rfl rfl
        have B4 := (((((B3.setCell (p := ⟨w.heap.size + 1 + 1 + 1, 0, none⟩) (by simp; omega) (.bool nb)).setCell (p := ⟨w.heap.size + 1 + 1 + 1, 1, none⟩) (by simp; omega) (.int .u64 0)).setCell (p := ⟨w.heap.size + 1 + 1 + 1, 2, none⟩) (by simp; omega) (.int .u64 yl)).setCell (p := ⟨w.heap.size + 1 + 1 + 1 + 1, 0, none⟩) (by simp; omega) (.bool false)).setCell (p := ⟨w.heap.size + 1 + 1 + 1 + 1, 1, none⟩) (by simp; omega) (.int .u64 (hiZ xr))).setCell (p := ⟨w.heap.size + 1 + 1 + 1 + 1, 2, none⟩) (by simp; omega) (.int .u64 (loZ xr))
        obtain ⟨_, a0, a1, a2, a3, a4, a5⟩ := id Ta3
        obtain ⟨_, b0, b1, b2, b3, b4, b5⟩ := id Tb3
        obtain ⟨_, x0, x1, x2, _, _, _⟩ := id Tx3
        clear Tn3 Td3 Tr3 Ta3 Tb3 Tx3 B3
        go_wp2_with fail
        obtain ⟨nb4, Tb4⟩ := id S3.2.2.2.2
        refine ⟨⟨y, xr, by omega, hy, hyr, ?_, S3, B4⟩, ?_⟩
        · rw [← EXR.out, gcd_round x y]; exact HG.out
        · rw [sizeAt_tri (by omega) Tb4, HSZ.out]
          exact hlt.out
      · go_wp2_with fail
        go_at_call 83
        refine Calls.mono (HDv.out _) ?_
        rintro e w2 ⟨rfl, k2⟩
        have Tn2 := Tn.keep k2
        have Td2 := Td.keep k2
        have Tr2 := Tr.keep k2
        have Ta2 := Ta.keep k2
        have Tb2 := Tb.keep k2
        have B2 := bup hB k2
        obtain ⟨xq, exq⟩ : ∃ xq, x / y = xq := ⟨_, rfl⟩
        obtain ⟨xr, exr⟩ : ∃ xr, x % y = xr := ⟨_, rfl⟩
        rw [exq, exr]
        rw [exr] at hyr
        have hlt : Hid (xr < y) := by rw [Hid, ← exr]; exact Nat.mod_lt x (by omega)
        have EXR := hideR exr
        clear exq exr a0 a1 a2 a3 a4 a5 b0 b1 b2 b3 b4 b5 Tn Td Tr Ta Tb hB k2 hS
        have Tn3 := (Tn2.alloc (.cells #[.bool false, .int .u64 (hiZ xq), .int .u64 (loZ xq)] 93)).alloc (.cells #[.bool false, .int .u64 (hiZ xr), .int .u64 (loZ xr)] 93)
        have Td3 := (Td2.alloc (.cells #[.bool false, .int .u64 (hiZ xq), .int .u64 (loZ xq)] 93)).alloc (.cells #[.bool false, .int .u64 (hiZ xr), .int .u64 (loZ xr)] 93)
        have Tr3 := (Tr2.alloc (.cells #[.bool false, .int .u64 (hiZ xq), .int .u64 (loZ xq)] 93)).alloc (.cells #[.bool false, .int .u64 (hiZ xr), .int .u64 (loZ xr)] 93)
        have Ta3 := (Ta2.alloc (.cells #[.bool false, .int .u64 (hiZ xq), .int .u64 (loZ xq)] 93)).alloc (.cells #[.bool false, .int .u64 (hiZ xr), .int .u64 (loZ xr)] 93)
        have Tb3 := (Tb2.alloc (.cells #[.bool false, .int .u64 (hiZ xq), .int .u64 (loZ xq)] 93)).alloc (.cells #[.bool false, .int .u64 (hiZ xr), .int .u64 (loZ xr)] 93)
        have Tx3 := Tri.new (w2.alloc (.cells #[.bool false, .int .u64 (hiZ xq), .int .u64 (loZ xq)] 93)) false (hiZ xr) (loZ xr) 93
        rw [show (w2.alloc (.cells #[.bool false, .int .u64 (hiZ xq), .int .u64 (loZ xq)] 93)).heap.size = w2.heap.size + 1 by simp] at Tx3
        have B3 := bup (bup B2 (bel1 w2 (.cells #[.bool false, .int .u64 (hiZ xq), .int .u64 (loZ xq)] 93))) (bel1 (w2.alloc (.cells #[.bool false, .int .u64 (hiZ xq), .int .u64 (loZ xq)] 93)) (.cells #[.bool false, .int .u64 (hiZ xr), .int .u64 (loZ xr)] 93))
        have zz : w.heap.size + 1 + 1 + 1 + 1 < w2.heap.size := Tb2.1
        clear Tn2 Td2 Tr2 Ta2 Tb2 B2
        have S3 := Low5.step (na2 := nb) (nb2 := false) Tn3 Td3 Tr3 Ta3 Tb3 EYH.out EYL.out (x2 := y) (y2 := xr) rfl rfl
        have B4 := (((((B3.setCell (p := ⟨w.heap.size + 1 + 1 + 1, 0, none⟩) (by simp; omega) (.bool nb)).setCell (p := ⟨w.heap.size + 1 + 1 + 1, 1, none⟩) (by simp; omega) (.int .u64 yh)).setCell (p := ⟨w.heap.size + 1 + 1 + 1, 2, none⟩) (by simp; omega) (.int .u64 yl)).setCell (p := ⟨w.heap.size + 1 + 1 + 1 + 1, 0, none⟩) (by simp; omega) (.bool false)).setCell (p := ⟨w.heap.size + 1 + 1 + 1 + 1, 1, none⟩) (by simp; omega) (.int .u64 (hiZ xr))).setCell (p := ⟨w.heap.size + 1 + 1 + 1 + 1, 2, none⟩) (by simp; omega) (.int .u64 (loZ xr))
        obtain ⟨_, a0, a1, a2, a3, a4, a5⟩ := id Ta3
        obtain ⟨_, b0, b1, b2, b3, b4, b5⟩ := id Tb3
        obtain ⟨_, x0, x1, x2, _, _, _⟩ := id Tx3
        clear Tn3 Td3 Tr3 Ta3 Tb3 Tx3 B3
        go_wp2_with fail
        obtain ⟨nb4, Tb4⟩ := id S3.2.2.2.2
        refine ⟨⟨y, xr, by omega, hy, hyr, ?_, S3, B4⟩, ?_⟩
        · rw [← EXR.out, gcd_round x y]; exact HG.out
        · rw [sizeAt_tri (by omega) Tb4, HSZ.out]
          exact hlt.out
end Go.Proofs.Ytipnefaggpigfaa
