/- Several texts, one behind the other. -/
import Derived.Test.YtaipdckakgohjaaDoorCRefN
import Derived.Test.YtaipdckakgohjaaDoorGB
import Derived.Test.YtaipdckakgohjaaDoorGR
/- surtitleref5.Number at every text. -/
namespace Go.Proofs.YtaipdckakgohjaaDoor
open Go.RowKit Go.Shelf

theorem mark_le (c : UInt8) (l : List UInt8) (k : Nat) (b : Bool) (h : k ≤ l.length) : (markS c l k b).1 ≤ l.length := by
  unfold markS
  split
  · rename_i e
    obtain ⟨hk, _⟩ := List.getElem?_eq_some_iff.1 e
    exact hk
  · exact h
theorem rd_le (m : Nat) (l : List UInt8) (k : Nat) (b : Bool) (h : k ≤ l.length) : (rdS m l k b).2.1 ≤ l.length := by
  have r := runC_le (l.drop k)
  rw [List.length_drop] at r
  unfold rdS
  split
  · show k + m ≤ _
    omega
  · show k + runC (l.drop k) ≤ _
    omega
theorem hr_le (m : Nat) (l : List UInt8) (k : Nat) (b : Bool) (h : k ≤ l.length) : (hrS m l k b).2.1 ≤ l.length := by
  have r := runC_le (l.drop k)
  rw [List.length_drop] at r
  unfold hrS
  split
  · exact h
  · show k + runC (l.drop k) ≤ _
    omega
/-- What a number that is read from the left says. -/
theorem told_ok (n d : Int) (dr : Bool) (h : checkI n d dr = 0) (f lf : Int) (hf : fullI n d = f) (hl : (if dr = true then leftI n d else 0) = lf) (H M S X : Nat) (hH : H < 1000) (hM : M < 60) (hS : S < 60) (hX : (X : Int) < f) (fr : Int) (hfr : (60 * (60 * (H : Int) + M) + S) * f + X - lf * ((60 * (H : Int) + M) - (60 * (H : Int) + M) / 10) = fr) (u : Int) (hu : (if (M : Int) % 10 = 0 then 0 else lf) = u) :
    toldF n d dr ((((H : Int) * 60 + M) * 60 + S) * f + X, true) = (if S = 0 ∧ (X : Int) < u then (0, 15) else if fr ≤ 360000 * n / d then (fr, 0) else (0, 31)) ∧ (0 ≤ (60 * (60 * (H : Int) + M) + S) * f ∧ (60 * (60 * (H : Int) + M) + S) * f ≤ 100000000000) ∧ (0 ≤ lf * ((60 * (H : Int) + M) - (60 * (H : Int) + M) / 10) ∧ lf * ((60 * (H : Int) + M) - (60 * (H : Int) + M) / 10) ≤ 100000000) := by
  obtain ⟨n1, d1, _, nd, hF⟩ := full_ok n d dr h
  have le := left_eq h
  rw [hl, hf] at le
  rw [hf, hl] at hF
  have lf1 : lf ≤ f := by
    rw [← le]
    have := hF.1
    split <;> omega
  obtain ⟨f1, f2, l1, l2⟩ := id hF
  obtain ⟨u1, u2⟩ := parts_skip f lf hF (60 * H + M) S X hS hX ((((H : Int) * 60 + M) * 60 + S) * f + X) (by
    congr 2
    omega)
  obtain ⟨Q, hQ⟩ : ∃ Q : Int, 60 * (H : Int) + M = Q := ⟨_, rfl⟩
  have q0 : 0 ≤ Q ∧ Q ≤ 60000 := by omega
  have e60 : ((60 * H + M : Nat) : Int) = Q := by omega
  rw [e60] at u1
  rw [hQ] at hfr ⊢
  have v0 : 0 ≤ (60 * Q + S) * f := Int.mul_nonneg (by omega) (by omega)
  have v1 : (60 * Q + S) * f ≤ 4000000 * 240 := Int.mul_le_mul (by omega) f2 (by omega) (by omega)
  have w0 : 0 ≤ lf * (Q - Q / 10) := Int.mul_nonneg l1 (by omega)
  have w1 : lf * (Q - Q / 10) ≤ 4 * Q := Int.mul_le_mul l2 (by omega) (by omega) (by omega)
  have v2 : (60 * Q + S) * 1 ≤ (60 * Q + S) * f := Int.mul_le_mul_of_nonneg_left f1 (by omega)
  refine ⟨?_, ⟨v0, by omega⟩, w0, by omega⟩
  have eN : (((H : Int) * 60 + M) * 60 + S) * f + X = (60 * Q + S) * f + X := by
    congr 2
    omega
  rw [eN] at u1 u2 ⊢
  unfold toldF
  rw [if_neg (by simp), hf, hl]
  simp only
  have ef : frmI f lf ((60 * Q + S) * f + X) = fr := by
    unfold frmI
    rw [u1]
    exact hfr
  have es : skipB f lf ((60 * Q + S) * f + X) = decide (S = 0 ∧ (X : Int) < u) := by
    unfold skipB
    rw [u1, u2]
    refine decide_eq_decide.2 ⟨fun x => ?_, fun x => ?_⟩
    · have s0 : S = 0 := by
        refine Nat.eq_zero_of_not_pos fun y => ?_
        have : 1 * f ≤ (S : Int) * f := Int.mul_le_mul_of_nonneg_right (by omega) (by omega)
        omega
      subst s0
      rw [← hu, if_neg (by omega)]
      have := x.2
      refine ⟨rfl, ?_⟩
      simpa using this
    · obtain ⟨rfl, x2⟩ := x
      rw [← hu] at x2
      by_cases c : (M : Int) % 10 = 0
      · rw [if_pos c] at x2
        omega
      · rw [if_neg c] at x2
        refine ⟨by omega, ?_⟩
        simpa using x2
  rw [ef, es]
  have li := last_iff n d fr d1.1
  by_cases c : S = 0 ∧ (X : Int) < u
  · rw [if_pos (decide_eq_true c), if_pos c]
  · rw [if_neg (by simpa using c), if_neg c]
    by_cases c2 : fr ≤ 360000 * n / d
    · rw [if_pos ⟨by omega, li.1 c2⟩, if_pos c2]
    · rw [if_neg (fun x => c2 (li.2 x.2)), if_neg c2]
set_option maxHeartbeats 1000000 in
theorem rnum_any (n d : Int) (dr : Bool) (l : List UInt8) (hl : l.length ≤ 9223372036854775807) (w : World) :
    Calls Tryd.prog 29 #[.agg #[.int .i64 n, .int .i64 d, .bool dr], .string (bs l)] w fun e w' => e = .returned (.tuple #[.int .i64 (numF n d dr l).1, .int .i64 (numF n d dr l).2]) ∧ Below w.heap.size w w' := by
  have HC := rcheck_any n d dr
  unfold numF
  by_cases h : checkI n d dr = 0
  · rw [if_pos h]
    rw [h] at HC
    obtain ⟨n1, d1, _, nd, hF⟩ := full_ok n d dr h
    have f1 := hF.1
    have f2 := hF.2.1
    have HA := rlast_any n d dr n1 d1
    have HFu := rfull_any n d dr n1 d1
    have HE := fun w => rleft_walk n d (fullI n d) _ dr ⟨by omega, f2⟩ rfl w HFu
    rw [left_eq h] at HE
    have HU := fun (m : Int) (hm : 0 ≤ m ∧ m ≤ 1000) w => rout_walk n d _ m dr ⟨hm.1, by omega⟩ w HE
    obtain ⟨wd, hwd⟩ : ∃ wd : Nat, (if 100 < fullI n d then 3 else 2) = wd := ⟨_, rfl⟩
    have wd3 : wd ≤ 3 := by rw [← hwd]; split <;> omega
    have HV : ∀ w, Calls Tryd.prog 54 #[.int .i64 (fullI n d)] w fun e w' => e = .returned (.int .i64 (wd : Nat)) ∧ w' = w := fun w => by
      have := rwide_any (fullI n d) w
      rw [← hwd, show (((if 100 < fullI n d then 3 else 2 : Nat) : Nat) : Int) = (if 100 < fullI n d then (3 : Int) else 2) by split <;> rfl]
      exact this
    obtain ⟨mk, hmk⟩ : ∃ mk : UInt8, (if dr = true then 59 else 58) = mk := ⟨_, rfl⟩
    have CR := chain_read 2 mk wd (fullI n d).toNat l (by omega)
    unfold readF
    rw [hwd, hmk, CR]
    have CF := fun hb hk => chain_form (least := 2) (mk := mk) (dg := wd) (l := l) (by omega) hb hk
    have FC := fun {a b c e} F => form_chain (least := 2) (mk := mk) (dg := wd) (l := l) (a := a) (b := b) (c := c) (d := e) F
    clear CR
    have h1 := hr_le 2 l 0 false (by omega)
    have H1 : ∀ B w, RdAt w B l 0 false → Calls Tryd.prog 60 #[.pointer (some ⟨B, 0, none⟩), .int .i64 2] w fun e w' => e = .returned (.int .i64 (hrS 2 l 0 false).1) ∧ RdAt w' B l (hrS 2 l 0 false).2.1 (hrS 2 l 0 false).2.2 ∧ Below B w w' := fun B w hh => rhours_any B l 0 2 false (by omega) (by omega) (by omega) hl w hh
    unfold chainS at CF FC ⊢
    simp only at CF FC ⊢
    generalize hrS 2 l 0 false = c1 at *
    have h2 := mark_le 58 l c1.2.1 c1.2.2 h1
    have H2 : ∀ B w, RdAt w B l c1.2.1 c1.2.2 → Calls Tryd.prog 61 #[.pointer (some ⟨B, 0, none⟩), .int .u8 58] w fun e w' => e = .returned (.tuple #[]) ∧ RdAt w' B l (markS 58 l c1.2.1 c1.2.2).1 (markS 58 l c1.2.1 c1.2.2).2 ∧ Below B w w' := fun B w hh => rmark_any B l _ _ 58 hl w hh
    generalize markS 58 l c1.2.1 c1.2.2 = c2 at *
    have h3 : (sxS l c2.1 c2.2).2.1 ≤ l.length := rd_le 2 l c2.1 c2.2 h2
    have H3 := fun B w hh => sixty_any B l c2.1 c2.2 h2 hl w hh
    generalize sxS l c2.1 c2.2 = c3 at *
    have h4 := mark_le 58 l c3.2.1 c3.2.2 h3
    have H4 : ∀ B w, RdAt w B l c3.2.1 c3.2.2 → Calls Tryd.prog 61 #[.pointer (some ⟨B, 0, none⟩), .int .u8 58] w fun e w' => e = .returned (.tuple #[]) ∧ RdAt w' B l (markS 58 l c3.2.1 c3.2.2).1 (markS 58 l c3.2.1 c3.2.2).2 ∧ Below B w w' := fun B w hh => rmark_any B l _ _ 58 hl w hh
    generalize markS 58 l c3.2.1 c3.2.2 = c4 at *
    have h5 : (sxS l c4.1 c4.2).2.1 ≤ l.length := rd_le 2 l c4.1 c4.2 h4
    have H5 := fun B w hh => sixty_any B l c4.1 c4.2 h4 hl w hh
    generalize sxS l c4.1 c4.2 = c5 at *
    have h6 := mark_le mk l c5.2.1 c5.2.2 h5
    have H6 := fun B w hh => rmark_any B l c5.2.1 c5.2.2 mk hl w hh
    generalize markS mk l c5.2.1 c5.2.2 = c6 at *
    have H7 := fun B w hh => rnumber_any B l c6.1 wd c6.2 h6 wd3 hl w hh
    generalize rdS wd l c6.1 c6.2 = c7 at *
    obtain ⟨f, hf⟩ := Int.eq_ofNat_of_zero_le (show 0 ≤ fullI n d by omega)
    rw [hf] at HFu HV f1 f2
    rw [show (fullI n d).toNat = f by omega]
    have fe : ((f : Nat) : Int) = fullI n d := hf.symm
    by_cases ok : c7.2.2 = false ∧ c7.2.1 = l.length ∧ c7.1 < (f : Int)
    · rw [if_pos ok]
      obtain ⟨a, b, c, e, F⟩ := CF ok.1 ok.2.1
      have ch := FC F
      rw [Chain.mk.injEq] at ch
      obtain ⟨z1, z2, z3, z4, z5, z6⟩ := ch
      rw [z1] at H1 ⊢
      rw [z2] at H3 ⊢
      rw [z3] at H5 ⊢
      rw [z4, z5, z6] at H7
      rw [z4] at ok ⊢
      have va : valN a < 1000 := by
        have hv := valN_lt a F.a1 a.length (Nat.le_refl _)
        rw [List.take_length] at hv
        have : (10 : Nat) ^ a.length ≤ 10 ^ 3 := Nat.pow_le_pow_right (by omega) F.a3
        omega
      have vb := F.b3
      have vc := F.c3
      have ve := ok.2.2
      clear F CF FC ok z1 z2 z3 z4 z5 z6
      generalize valN a = va' at *
      generalize valN b = vb' at *
      generalize valN c = vc' at *
      generalize valN e = ve' at *
      have HO := HU (vb' : Int) (by omega)
      obtain ⟨lf, hlf⟩ : ∃ lf, (if dr = true then leftI n d else 0) = lf := ⟨_, rfl⟩
      rw [hlf] at HO HE
      obtain ⟨u, hu⟩ : ∃ u, (if (vb' : Int) % 10 = 0 then 0 else lf) = u := ⟨_, rfl⟩
      rw [hu] at HO
      obtain ⟨fr, hfr⟩ : ∃ fr, (60 * (60 * (va' : Int) + vb') + vc') * (f : Int) + ve' - lf * ((60 * (va' : Int) + vb') - (60 * (va' : Int) + vb') / 10) = fr := ⟨_, rfl⟩
      obtain ⟨T1, T2, T3⟩ := told_ok n d dr h f lf hf hlf va' vb' vc' ve' va vb vc ve fr hfr u hu
      rw [T1]
      clear T1 HU
      generalize 360000 * n / d = la at *
      by_cases s0 : vc' = 0
      · subst s0
        by_cases c1 : (ve' : Int) < u
        · rw [if_pos ⟨rfl, c1⟩]
          cases dr
          · subst hmk
            exact rnum_df n d f _ _ _ l _ _ _ _ _ _ wd _ _ _ _ _ _ u ve c1 w HC HFu H1 H2 H3 H4 H5 H6 HV H7 HO
          · subst hmk
            exact rnum_dt n d f _ _ _ l _ _ _ _ _ _ wd _ _ _ _ _ _ u ve c1 w HC HFu H1 H2 H3 H4 H5 H6 HV H7 HO
        · rw [if_neg (fun x => c1 x.2)]
          by_cases c2 : fr ≤ la
          · rw [if_pos c2]
            cases dr
            · subst hmk
              exact rnum_k0f n d f _ _ _ _ l _ _ _ _ _ _ wd _ _ _ _ _ _ lf la u _ _ _ _ fr (by omega) (by omega) (by omega) (by omega) (by omega) rfl rfl T2 rfl rfl T3 hfr ve rfl (by omega) c2 w HC HFu H1 H2 H3 H4 H5 H6 HV H7 HO HE HA
            · subst hmk
              exact rnum_k0t n d f _ _ _ _ l _ _ _ _ _ _ wd _ _ _ _ _ _ lf la u _ _ _ _ fr (by omega) (by omega) (by omega) (by omega) (by omega) rfl rfl T2 rfl rfl T3 hfr ve rfl (by omega) c2 w HC HFu H1 H2 H3 H4 H5 H6 HV H7 HO HE HA
          · rw [if_neg c2]
            cases dr
            · subst hmk
              exact rnum_t0f n d f _ _ _ _ l _ _ _ _ _ _ wd _ _ _ _ _ _ lf la u _ _ _ _ fr (by omega) (by omega) (by omega) (by omega) (by omega) rfl rfl T2 rfl rfl T3 hfr ve rfl (by omega) (by omega) w HC HFu H1 H2 H3 H4 H5 H6 HV H7 HO HE HA
            · subst hmk
              exact rnum_t0t n d f _ _ _ _ l _ _ _ _ _ _ wd _ _ _ _ _ _ lf la u _ _ _ _ fr (by omega) (by omega) (by omega) (by omega) (by omega) rfl rfl T2 rfl rfl T3 hfr ve rfl (by omega) (by omega) w HC HFu H1 H2 H3 H4 H5 H6 HV H7 HO HE HA
      · have s1 : ((vc' : Int) == 0) = false := by
          rw [beq_eq_false_iff_ne]
          omega
        rw [if_neg (fun x => s0 x.1)]
        by_cases c2 : fr ≤ la
        · rw [if_pos c2]
          cases dr
          · subst hmk
            exact rnum_kzf n d f _ _ _ _ l _ _ _ _ _ _ wd _ _ _ _ _ _ lf la _ _ _ _ fr (by omega) (by omega) (by omega) (by omega) (by omega) rfl rfl T2 rfl rfl T3 hfr ve s1 c2 w HC HFu H1 H2 H3 H4 H5 H6 HV H7 HE HA
          · subst hmk
            exact rnum_kzt n d f _ _ _ _ l _ _ _ _ _ _ wd _ _ _ _ _ _ lf la _ _ _ _ fr (by omega) (by omega) (by omega) (by omega) (by omega) rfl rfl T2 rfl rfl T3 hfr ve s1 c2 w HC HFu H1 H2 H3 H4 H5 H6 HV H7 HE HA
        · rw [if_neg c2]
          cases dr
          · subst hmk
            exact rnum_tzf n d f _ _ _ _ l _ _ _ _ _ _ wd _ _ _ _ _ _ lf la _ _ _ _ fr (by omega) (by omega) (by omega) (by omega) (by omega) rfl rfl T2 rfl rfl T3 hfr ve s1 (by omega) w HC HFu H1 H2 H3 H4 H5 H6 HV H7 HE HA
          · subst hmk
            exact rnum_tzt n d f _ _ _ _ l _ _ _ _ _ _ wd _ _ _ _ _ _ lf la _ _ _ _ fr (by omega) (by omega) (by omega) (by omega) (by omega) rfl rfl T2 rfl rfl T3 hfr ve s1 (by omega) w HC HFu H1 H2 H3 H4 H5 H6 HV H7 HE HA
    · rw [if_neg ok]
      have e13 : toldF n d dr (0, false) = (0, 13) := by
        unfold toldF
        rw [if_pos rfl]
      rw [e13]
      clear CF FC HU
      by_cases b7 : c7.2.2 = false
      · rw [b7] at H7
        by_cases k7 : c7.2.1 = l.length
        · rw [k7] at H7
          have x7 : (f : Int) ≤ c7.1 := Int.le_of_not_gt fun x => ok ⟨b7, k7, x⟩
          cases dr
          · subst hmk
            exact rnum_zf n d f _ _ _ _ l _ _ _ _ _ _ wd _ _ _ _ _ _ x7 w HC HFu H1 H2 H3 H4 H5 H6 HV H7
          · subst hmk
            exact rnum_zt n d f _ _ _ _ l _ _ _ _ _ _ wd _ _ _ _ _ _ x7 w HC HFu H1 H2 H3 H4 H5 H6 HV H7
        · have k8 : ((c7.2.1 : Int) != (l.length : Int)) = true := by
            rw [bne_iff_ne]
            omega
          cases dr
          · subst hmk
            exact rnum_yf n d f _ _ _ _ l _ _ _ _ _ _ _ wd _ _ _ _ _ _ k8 w HC HFu H1 H2 H3 H4 H5 H6 HV H7
          · subst hmk
            exact rnum_yt n d f _ _ _ _ l _ _ _ _ _ _ _ wd _ _ _ _ _ _ k8 w HC HFu H1 H2 H3 H4 H5 H6 HV H7
      · have b8 : c7.2.2 = true := by simpa using b7
        rw [b8] at H7
        cases dr
        · subst hmk
          exact rnum_xf n d f _ _ _ _ l _ _ _ _ _ _ _ wd _ _ _ _ _ _ w HC HFu H1 H2 H3 H4 H5 H6 HV H7
        · subst hmk
          exact rnum_xt n d f _ _ _ _ l _ _ _ _ _ _ _ wd _ _ _ _ _ _ w HC HFu H1 H2 H3 H4 H5 H6 HV H7
  · rw [if_neg h]
    rw [(check_two n d dr).resolve_left h] at HC
    exact rnum_bad n d 14 dr l rfl w HC
end Go.Proofs.YtaipdckakgohjaaDoor

/- The walk of surtitlelaw5.CodeNumbers. -/
namespace Go.Proofs.YtaipdckakgohjaaDoor
open Go.RowKit Go.Shelf
attribute [local go_sem] Oper.semAt_some

set_option maxRecDepth 100000 in
set_option maxHeartbeats 1000000 in
theorem numbers_walk (n d a b : Int) (dr : Bool) (s : ByteArray) (w : World)
    (HK : ∀ w0, Below w.heap.size w w0 → Calls Tryd.prog 15 #[] w0 fun e w' => e = .returned (.bool true) ∧ Below w0.heap.size w0 w')
    (H1 : ∀ w, Calls Tryd.prog 28 #[.agg #[.int .i64 n, .int .i64 d, .bool dr], .string s] w fun e w' => e = .returned (.tuple #[.int .i64 a, .int .i64 b]) ∧ Below w.heap.size w w')
    (H2 : ∀ w, Calls Tryd.prog 29 #[.agg #[.int .i64 n, .int .i64 d, .bool dr], .string s] w fun e w' => e = .returned (.tuple #[.int .i64 a, .int .i64 b]) ∧ Below w.heap.size w w') :
    Calls Tryd.prog 7 #[.agg #[.int .i64 n, .int .i64 d, .bool dr], .string s] w fun e w' => e = .returned (.bool true) ∧ Below w.heap.size w w' := by
  have HK := hideR HK
  have H1 := hideR H1
  have H2 := hideR H2
  go_enter Tryd.func7, Tryd.ntmps7
  go_wp2_with fail
  go_at_call 15
  refine (HK.out _ (bel1 w _)).mono ?_
  rintro e w1 ⟨rfl, b1⟩
  have A1 := ((RateAt.new w n d dr).keep b1)
  have B1 := bup (bel1 w _) b1
  clear b1
  obtain ⟨_, a0, a1, a2⟩ := id A1
  go_wp2_with fail
  go_at_call 28
  refine (H1.out _).mono ?_
  rintro e w2 ⟨rfl, b2⟩
  have A2 := (A1.keep b2)
  have B2 := bup B1 b2
  clear A1 B1 a0 a1 a2
  clear b2
  obtain ⟨_, a0, a1, a2⟩ := id A2
  go_wp2_with fail
  go_at_call 29
  refine (H2.out _).mono ?_
  rintro e w3 ⟨rfl, b3⟩
  have A3 := (A2.keep b3)
  have B3 := bup B2 b3
  clear A2 B2 a0 a1 a2
  clear b3
  obtain ⟨_, a0, a1, a2⟩ := id A3
  go_wp2_with fail
  go_ret
  exact ⟨by simp, B3⟩
theorem numbers_any (n d : Int) (dr : Bool) (hn : I64 n) (hd : I64 d) (s : ByteArray) (hs : s.size ≤ 9223372036854775807) (w : World) (hp : PowAt w) :
    Calls Tryd.prog 7 #[.agg #[.int .i64 n, .int .i64 d, .bool dr], .string s] w fun e w' => e = .returned (.bool true) ∧ Below w.heap.size w w' := by
  have HK := fun (w0 : World) (b0 : Below w.heap.size w w0) => known5_any w0 (hp.keep b0)
  have hl : s.data.toList.length ≤ 9223372036854775807 := by rw [← Lib.size_eq]; exact hs
  have H1 := cnum_any n d dr hn hd s.data.toList hl
  have H2 := rnum_any n d dr s.data.toList hl
  rw [bs_of] at H1 H2
  exact numbers_walk n d _ _ dr s w HK H1 H2
end Go.Proofs.YtaipdckakgohjaaDoor
