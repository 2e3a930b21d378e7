/- The walk of surtitlelaw5.CodeBack. -/
import Derived.Test.YtaipdckakgohjaaDoorGB
import Derived.Test.YtaipdckakgohjaaDoorCRefC
namespace Go.Proofs.YtaipdckakgohjaaDoor
open Go.RowKit Go.Shelf
attribute [local go_sem] Oper.semAt_some

set_option maxRecDepth 100000 in
set_option maxHeartbeats 1000000 in
theorem back_bad (n d fr c : Int) (dr : Bool) (hc : (c != 0) = true) (w : World)
    (HK : ∀ w0, Below w.heap.size w w0 → Calls Tryd.prog 15 #[] w0 fun e w' => e = .returned (.bool true) ∧ Below w0.heap.size w0 w')
    (HC : ∀ w, Calls Tryd.prog 21 #[.agg #[.int .i64 n, .int .i64 d, .bool dr]] w fun e w' => e = .returned (.int .i64 c) ∧ Below w.heap.size w w') :
    Calls Tryd.prog 9 #[.agg #[.int .i64 n, .int .i64 d, .bool dr], .int .i64 fr] w fun e w' => e = .returned (.bool true) ∧ Below w.heap.size w w' := by
  have HK := hideR HK
  have HC := hideR HC
  go_enter Tryd.func9, Tryd.ntmps9
  go_wp2_with fail
  go_at_call 15
  refine (HK.out _ (bel1 w _)).mono ?_
  rintro e w1 ⟨rfl, b1⟩
  have A1 := ((RateAt.new w n d dr).keep b1)
  have B1 := bup (bel1 w _) b1
  clear b1
  obtain ⟨_, a0, a1, a2⟩ := id A1
  go_wp2_with fail
  go_at_call 21
  refine (HC.out _).mono ?_
  rintro e w2 ⟨rfl, b2⟩
  have A2 := (A1.keep b2)
  have B2 := bup B1 b2
  clear A1 B1 a0 a1 a2
  clear b2
  obtain ⟨_, a0, a1, a2⟩ := id A2
  go_wp2_with fail
  go_ret
  exact ⟨rfl, B2⟩
set_option maxRecDepth 100000 in
set_option maxHeartbeats 1000000 in
theorem back_out (n d fr q : Int) (dr : Bool) (hn : 1 ≤ n ∧ n ≤ 240000) (hd : 1 ≤ d ∧ d ≤ 1001) (hq : 360000 * n / d = q) (hf0 : 0 ≤ fr) (hf : q < fr) (w : World)
    (HK : ∀ w0, Below w.heap.size w w0 → Calls Tryd.prog 15 #[] w0 fun e w' => e = .returned (.bool true) ∧ Below w0.heap.size w0 w')
    (HC : ∀ w, Calls Tryd.prog 21 #[.agg #[.int .i64 n, .int .i64 d, .bool dr]] w fun e w' => e = .returned (.int .i64 0) ∧ Below w.heap.size w w')
    (HT : ∀ w, Calls Tryd.prog 22 #[.agg #[.int .i64 n, .int .i64 d, .bool dr], .int .i64 fr] w fun e w' => e = .returned (.tuple #[.agg #[.int .i64 0, .int .i64 0], .int .i64 31]) ∧ Below w.heap.size w w') :
    Calls Tryd.prog 9 #[.agg #[.int .i64 n, .int .i64 d, .bool dr], .int .i64 fr] w fun e w' => e = .returned (.bool true) ∧ Below w.heap.size w w' := by
  have HK := hideR HK
  have HC := hideR HC
  have HT := hideR HT
  go_enter Tryd.func9, Tryd.ntmps9
  go_wp2_with fail
  go_at_call 15
  refine (HK.out _ (bel1 w _)).mono ?_
  rintro e w1 ⟨rfl, b1⟩
  have A1 := ((RateAt.new w n d dr).keep b1)
  have B1 := bup (bel1 w _) b1
  clear b1
  obtain ⟨_, a0, a1, a2⟩ := id A1
  go_wp2_with fail
  go_at_call 21
  refine (HC.out _).mono ?_
  rintro e w2 ⟨rfl, b2⟩
  have A2 := (A1.keep b2)
  have B2 := bup B1 b2
  clear A1 B1 a0 a1 a2
  clear b2
  obtain ⟨_, a0, a1, a2⟩ := id A2
  go_wp2_with fail
  go_at_call 22
  refine (HT.out _).mono ?_
  rintro e w3 ⟨rfl, b3⟩
  have A3 := (A2.keep b3).alloc (.cells #[.int .i64 0, .int .i64 0] 28)
  have B3 := bup (bup B2 b3) (bel1 w3 (.cells #[.int .i64 0, .int .i64 0] 28))
  clear A2 B2 a0 a1 a2
  clear b3
  have T3 := Two.new w3 (.int .i64 0) (.int .i64 0) 28
  obtain ⟨_, a0, a1, a2⟩ := id A3
  obtain ⟨_, t0, t1, t2, t3⟩ := id T3
  go_wp2_with fail
  go_ret
  exact ⟨by first | rfl | simp, B3⟩
set_option maxRecDepth 100000 in
set_option maxHeartbeats 1000000 in
theorem back_neg (n d fr : Int) (dr : Bool) (hf : fr < 0) (w : World)
    (HK : ∀ w0, Below w.heap.size w w0 → Calls Tryd.prog 15 #[] w0 fun e w' => e = .returned (.bool true) ∧ Below w0.heap.size w0 w')
    (HC : ∀ w, Calls Tryd.prog 21 #[.agg #[.int .i64 n, .int .i64 d, .bool dr]] w fun e w' => e = .returned (.int .i64 0) ∧ Below w.heap.size w w')
    (HT : ∀ w, Calls Tryd.prog 22 #[.agg #[.int .i64 n, .int .i64 d, .bool dr], .int .i64 fr] w fun e w' => e = .returned (.tuple #[.agg #[.int .i64 0, .int .i64 0], .int .i64 31]) ∧ Below w.heap.size w w') :
    Calls Tryd.prog 9 #[.agg #[.int .i64 n, .int .i64 d, .bool dr], .int .i64 fr] w fun e w' => e = .returned (.bool true) ∧ Below w.heap.size w w' := by
  have HK := hideR HK
  have HC := hideR HC
  have HT := hideR HT
  go_enter Tryd.func9, Tryd.ntmps9
  go_wp2_with fail
  go_at_call 15
  refine (HK.out _ (bel1 w _)).mono ?_
  rintro e w1 ⟨rfl, b1⟩
  have A1 := ((RateAt.new w n d dr).keep b1)
  have B1 := bup (bel1 w _) b1
  clear b1
  obtain ⟨_, a0, a1, a2⟩ := id A1
  go_wp2_with fail
  go_at_call 21
  refine (HC.out _).mono ?_
  rintro e w2 ⟨rfl, b2⟩
  have A2 := (A1.keep b2)
  have B2 := bup B1 b2
  clear A1 B1 a0 a1 a2
  clear b2
  obtain ⟨_, a0, a1, a2⟩ := id A2
  go_wp2_with fail
  go_at_call 22
  refine (HT.out _).mono ?_
  rintro e w3 ⟨rfl, b3⟩
  have A3 := (A2.keep b3).alloc (.cells #[.int .i64 0, .int .i64 0] 28)
  have B3 := bup (bup B2 b3) (bel1 w3 (.cells #[.int .i64 0, .int .i64 0] 28))
  clear A2 B2 a0 a1 a2
  clear b3
  have T3 := Two.new w3 (.int .i64 0) (.int .i64 0) 28
  obtain ⟨_, a0, a1, a2⟩ := id A3
  obtain ⟨_, t0, t1, t2, t3⟩ := id T3
  go_wp2_with fail
  go_ret
  exact ⟨by first | rfl | simp, B3⟩
set_option maxRecDepth 100000 in
set_option maxHeartbeats 1000000 in
theorem back_ok (n d fr a b : Int) (dr : Bool) (s : List UInt8) (w : World)
    (HK : ∀ w0, Below w.heap.size w w0 → Calls Tryd.prog 15 #[] w0 fun e w' => e = .returned (.bool true) ∧ Below w0.heap.size w0 w')
    (HC : ∀ w, Calls Tryd.prog 21 #[.agg #[.int .i64 n, .int .i64 d, .bool dr]] w fun e w' => e = .returned (.int .i64 0) ∧ Below w.heap.size w w')
    (HT : ∀ w, Calls Tryd.prog 22 #[.agg #[.int .i64 n, .int .i64 d, .bool dr], .int .i64 fr] w fun e w' => e = .returned (.tuple #[.agg #[.int .i64 a, .int .i64 b], .int .i64 0]) ∧ Below w.heap.size w w')
    (HF : ∀ k : Nat, 1 ≤ k → k ≤ 3 → ∀ w, Calls Tryd.prog 26 #[.agg #[.int .i64 n, .int .i64 d, .bool dr], .agg #[.int .i64 a, .int .i64 b], .int .i64 (k : Nat)] w fun e w' => e = .returned (.tuple #[.int .i64 fr, .int .i64 0]) ∧ Below w.heap.size w w')
    (HL : ∀ w0, Below w.heap.size w w0 → Calls Tryd.prog 23 #[.agg #[.int .i64 n, .int .i64 d, .bool dr], .int .i64 fr] w0 fun e w' => e = .returned (.tuple #[.string (bs s), .int .i64 0]) ∧ Below w0.heap.size w0 w')
    (HN : ∀ w, Calls Tryd.prog 28 #[.agg #[.int .i64 n, .int .i64 d, .bool dr], .string (bs s)] w fun e w' => e = .returned (.tuple #[.int .i64 fr, .int .i64 0]) ∧ Below w.heap.size w w')
    (HR : ∀ w, Calls Tryd.prog 32 #[.agg #[.int .i64 a, .int .i64 b]] w fun e w' => e = .returned (.int .i64 0) ∧ Below w.heap.size w w') :
    Calls Tryd.prog 9 #[.agg #[.int .i64 n, .int .i64 d, .bool dr], .int .i64 fr] w fun e w' => e = .returned (.bool true) ∧ Below w.heap.size w w' := by
  have HK := hideR HK
  have HC := hideR HC
  have HT := hideR HT
  have HF := hideR HF
  have HL := hideR HL
  have HN := hideR HN
  have HR := hideR HR
  go_enter Tryd.func9, Tryd.ntmps9
  go_wp2_with fail
  go_at_call 15
  refine (HK.out _ (bel1 w _)).mono ?_
  rintro e w1 ⟨rfl, b1⟩
  have A1 := ((RateAt.new w n d dr).keep b1)
  have B1 := bup (bel1 w _) b1
  clear b1
  obtain ⟨_, a0, a1, a2⟩ := id A1
  go_wp2_with fail
  go_at_call 21
  refine (HC.out _).mono ?_
  rintro e w2 ⟨rfl, b2⟩
  have A2 := (A1.keep b2)
  have B2 := bup B1 b2
  clear A1 B1 a0 a1 a2
  clear b2
  obtain ⟨_, a0, a1, a2⟩ := id A2
  go_wp2_with fail
  go_at_call 22
  refine (HT.out _).mono ?_
  rintro e w3 ⟨rfl, b3⟩
  have A3 := (A2.keep b3).alloc (.cells #[.int .i64 a, .int .i64 b] 28)
  have B3 := bup (bup B2 b3) (bel1 w3 (.cells #[.int .i64 a, .int .i64 b] 28))
  clear A2 B2 a0 a1 a2
  clear b3
  have T3 := Two.new w3 (.int .i64 a) (.int .i64 b) 28
  obtain ⟨_, a0, a1, a2⟩ := id A3
  obtain ⟨_, t0, t1, t2, t3⟩ := id T3
  go_wp2_with fail
  generalize w3.heap.size = tb at *
  go_loopw [7] (fun vi wr => ∃ k : Nat, vi = .int .i64 k ∧ 1 ≤ k ∧ k ≤ 4 ∧ RateAt wr w.heap.size n d dr ∧ Two wr tb (.int .i64 a) (.int .i64 b) ∧ Below w.heap.size w wr) (fun vi _ => 4 - (intOf vi).toNat)
  case atStart => exact ⟨1, rfl, by omega, by omega, A3, T3, B3⟩
  case round =>
    clear A3 T3 B3 a0 a1 a2 t0 t1 t2 t3
    obtain ⟨k, rfl, k1, k4, A6, T6, B6⟩ := hrel
    obtain ⟨_, a0, a1, a2⟩ := id A6
    obtain ⟨_, t0, t1, t2, t3⟩ := id T6
    by_cases c : k ≤ 3
    · have HFk := hideR (HF.out k k1 c)
      have ci : (k : Int) ≤ 3 := by omega
      go_wp2_with fail
      go_at_call 26
      refine (HFk.out _).mono ?_
      rintro e w7 ⟨rfl, b7⟩
      have A7 := A6.keep b7
      have T7 := T6.keep b7
      have B7 := bup B6 b7
      clear A6 T6 B6 b7 a0 a1 a2 t0 t1 t2 t3
      go_wp2_with fail
      go_roundw
      case rel => exact ⟨k + 1, by go_num, by omega, by omega, A7, T7, B7⟩
      case measure =>
        simp [intOf]
        omega
    · have ci : ¬ (k : Int) ≤ 3 := by omega
      go_wp2_with fail
      go_at_call 23
      refine (HL.out _ B6).mono ?_
      rintro e w7 ⟨rfl, b7⟩
      have A7 := A6.keep b7
      have T7 := T6.keep b7
      have B7 := bup B6 b7
      clear A6 T6 B6 b7 a0 a1 a2 t0 t1 t2 t3
      obtain ⟨_, a0, a1, a2⟩ := id A7
      obtain ⟨_, t0, t1, t2, t3⟩ := id T7
      go_wp2_with fail
      go_at_call 28
      refine (HN.out _).mono ?_
      rintro e w8 ⟨rfl, b8⟩
      have A8 := A7.keep b8
      have T8 := T7.keep b8
      have B8 := bup B7 b8
      clear A7 T7 B7 b8 a0 a1 a2 t0 t1 t2 t3
      obtain ⟨_, a0, a1, a2⟩ := id A8
      obtain ⟨_, t0, t1, t2, t3⟩ := id T8
      go_wp2_with fail
      go_at_call 32
      refine (HR.out _).mono ?_
      rintro e w9 ⟨rfl, b9⟩
      have A9 := A8.keep b9
      have T9 := T8.keep b9
      have B9 := bup B8 b9
      clear A8 T8 B8 b9 a0 a1 a2 t0 t1 t2 t3
      obtain ⟨_, a0, a1, a2⟩ := id A9
      obtain ⟨_, t0, t1, t2, t3⟩ := id T9
      go_wp2_with fail
      go_ret
      exact ⟨by first | rfl | simp, B9⟩
theorem whole_one (how x : Int) : wholeI how x 1 = x := by
  unfold wholeI
  split
  · omega
  · split <;> omega
theorem time_back (n d : Int) (dr : Bool) (fr how : Int) (h : checkI n d dr = 0) (hb : 0 ≤ fr ∧ fr * d ≤ 360000 * n) (hh : howB how = true) :
    (timeF n d dr fr).2 = 0 ∧ RtIn (timeF n d dr fr).1 ∧ timeA (timeF n d dr fr).1 = 0 ∧ frameF n d dr (timeF n d dr fr).1 how = (fr, 0) := by
  have e := time_form n d dr fr h
  rw [if_pos hb] at e
  obtain ⟨n1, d1, _, nd, hF⟩ := full_ok n d dr h
  have e2 := e
  unfold timeF at e2
  rw [if_pos h] at e2
  by_cases c : (mulA ⟨fr, 1⟩ ⟨d, n⟩).2 = 0 ∧ timeA (mulA ⟨fr, 1⟩ ⟨d, n⟩).1 = 0
  · rw [if_pos c] at e2
    have e3 := congrArg Prod.fst e2
    simp only at e3
    rw [e]
    have ta := c.2
    rw [e3] at ta
    have tn := time_ok ta
    refine ⟨rfl, low_in _, ta, ?_⟩
    unfold frameF
    rw [if_pos h, if_pos ta, if_pos hh]
    have hfit : fitsQ (Rat.divInt (fr * d) n) = true := by
      cases hq : fitsQ (Rat.divInt (fr * d) n)
      · exfalso
        have := tn.2.1
        unfold low at this
        rw [hq] at this
        simp at this
      · rfl
    rw [low_fits _ hfit]
    obtain ⟨P, hP⟩ : ∃ P, fr * d = P := ⟨_, rfl⟩
    rw [hP]
    obtain ⟨g, hg⟩ : ∃ g : Nat, P.natAbs.gcd n.natAbs = g := ⟨_, rfl⟩
    have g0 : 0 < g := by rw [← hg]; exact Nat.gcd_pos_of_pos_right _ (by omega)
    have e1 : (g : Int) * (P / g) = P := Int.mul_ediv_cancel' (by rw [← hg]; exact Int.ofNat_dvd_left.2 (Nat.gcd_dvd_left _ _))
    have e2 : (g : Int) * (n / g) = n := Int.mul_ediv_cancel' (by rw [← hg]; exact Int.ofNat_dvd_left.2 (Nat.gcd_dvd_right _ _))
    have q1 := q_num P n (by omega)
    have q2 := q_den P n (by omega)
    rw [hg] at q1 q2
    show (wholeI how ((Rat.divInt P n).num * n) (((Rat.divInt P n).den : Int) * d), (0 : Int)) = (fr, 0)
    rw [q1, q2]
    have b4 : 0 < n / g := by
      refine Int.lt_of_not_ge fun x => ?_
      have : (g : Int) * (n / g) ≤ g * 0 := Int.mul_le_mul_of_nonneg_left x (by omega)
      omega
    generalize P / (g : Int) = p at *
    generalize n / (g : Int) = m at *
    have k1 : p * n = (m * d) * fr := by
      rw [← e2, ← Int.mul_assoc, Int.mul_comm p, e1, ← hP]
      grind
    rw [k1, show m * d = m * d * 1 by omega]
    have := whole_scale how (m * d) fr 1 (Int.mul_pos b4 (by omega))
    rw [show m * d * 1 * fr = m * d * fr by rw [Int.mul_one], this, whole_one]
  · rw [if_neg c] at e2
    have := congrArg Prod.snd e2
    simp [bad] at this
theorem back5_any (n d : Int) (dr : Bool) (hn : I64 n) (hd : I64 d) (fr : Int) (hf : I64 fr) (w : World) (hp : PowAt w) :
    Calls Tryd.prog 9 #[.agg #[.int .i64 n, .int .i64 d, .bool dr], .int .i64 fr] w fun e w' => e = .returned (.bool true) ∧ Below w.heap.size w w' := by
  have HK := fun (w0 : World) (b0 : Below w.heap.size w w0) => known5_any w0 (hp.keep b0)
  have HC := rcheck_any n d dr
  by_cases h : checkI n d dr = 0
  · rw [h] at HC
    obtain ⟨n1, d1, _, nd, hF⟩ := full_ok n d dr h
    have HT := ctime_any n d dr hn hd fr hf
    by_cases hb : 0 ≤ fr ∧ fr * d ≤ 360000 * n
    · obtain ⟨t1, t2, t3, _⟩ := time_back n d dr fr 1 h hb rfl
      have HF : ∀ k : Nat, 1 ≤ k → k ≤ 3 → ∀ w, Calls Tryd.prog 26 #[.agg #[.int .i64 n, .int .i64 d, .bool dr], rtv (timeF n d dr fr).1, .int .i64 (k : Nat)] w fun e w' => e = .returned (.tuple #[.int .i64 fr, .int .i64 0]) ∧ Below w.heap.size w w' := by
        intro k k1 k3 w
        have hh : howB (k : Int) = true := by
          obtain rfl | rfl | rfl : k = 1 ∨ k = 2 ∨ k = 3 := by omega
          all_goals rfl
        have := frame5_any n d dr hn hd (timeF n d dr fr).1 t2 k w
        rw [(time_back n d dr fr k h hb hh).2.2.2] at this
        exact this
      have HR := rtime_any (timeF n d dr fr).1 t2
      rw [t3] at HR
      rw [t1] at HT
      have LL : (labelF n d dr fr).length ≤ 9223372036854775807 := by
        have hh := num_hours _ _ fr hF hb.1 (frame_few n d fr dr h hb.2)
        have f1 := hF.1
        have f2 := hF.2.1
        unfold labelF dialL
        simp only [List.length_append, List.length_cons, List.length_nil]
        have p1 := pad_len5 ((numI (fullI n d) (if dr = true then leftI n d else 0) fr).toNat / (fullI n d).toNat / 3600) 2 (by omega) (by omega)
        have p2 := pad_len5 ((numI (fullI n d) (if dr = true then leftI n d else 0) fr).toNat / (fullI n d).toNat / 60 % 60) 2 (by omega) (by omega)
        have p3 := pad_len5 ((numI (fullI n d) (if dr = true then leftI n d else 0) fr).toNat / (fullI n d).toNat % 60) 2 (by omega) (by omega)
        have p4 := pad_len5 ((numI (fullI n d) (if dr = true then leftI n d else 0) fr).toNat % (fullI n d).toNat) (if 100 < fullI n d then 3 else 2) (by have := Nat.mod_lt (numI (fullI n d) (if dr = true then leftI n d else 0) fr).toNat (show 0 < (fullI n d).toNat by omega); omega) (by split <;> omega)
        omega
      have HN := cnum_any n d dr hn hd (labelF n d dr fr) LL
      rw [label_back n d dr fr h hb] at HN
      exact back_ok n d fr _ _ dr _ w HK HC HT HF (fun w0 b0 => label_ok n d dr hn hd fr hf h hb w0 (hp.keep b0)) HN HR
    · rw [time_form n d dr fr h, if_neg hb] at HT
      have := last_iff n d fr d1.1
      by_cases c : 0 ≤ fr
      · exact back_out n d fr _ dr n1 d1 rfl c (by omega) w HK HC HT
      · exact back_neg n d fr dr (by omega) w HK HC HT
  · rw [(check_two n d dr).resolve_left h] at HC
    exact back_bad n d fr 14 dr rfl w HK HC
end Go.Proofs.YtaipdckakgohjaaDoor
