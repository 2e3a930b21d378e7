/- The walk of surtitlelaw5.CodeTens. -/
import Derived.Test.YtaipdckakgohjaaDoorGB
import Derived.Test.YtaipdckakgohjaaDoorCdX
import Derived.Test.YtaipdckakgohjaaDoorCRefC
import Derived.Deep.RegionHeld3
namespace Go.Proofs.YtaipdckakgohjaaDoor
open Go.RowKit Go.Shelf
attribute [local go_sem] Oper.semAt_some

set_option maxRecDepth 100000 in
set_option maxHeartbeats 2000000 in
theorem tens_bad (n d tn c : Int) (dr : Bool) (hc : (c != 0) = true) (w : World)
    (HK : ∀ w0, Below w.heap.size w w0 → Calls Tryd.prog 15 #[] w0 fun e w' => e = .returned (.bool true) ∧ Below w0.heap.size w0 w')
    (HC : ∀ w, Calls Tryd.prog 21 #[.agg #[.int .i64 n, .int .i64 d, .bool dr]] w fun e w' => e = .returned (.int .i64 c) ∧ Below w.heap.size w w') :
    Calls Tryd.prog 13 #[.agg #[.int .i64 n, .int .i64 d, .bool dr], .int .i64 tn] w fun e w' => e = .returned (.bool true) ∧ Below w.heap.size w w' := by
  have HK := hideR HK
  have HC := hideR HC
  go_enter Tryd.func13, Tryd.ntmps13
  go_wp2_with fail
  go_at_call 15
  refine (HK.out _ (bel1 w _)).mono ?_
  rintro e w1 ⟨rfl, b1⟩
  have A1 := ((RateAt.new w n d dr).keep b1)
  have B1 := bup (bel1 w _) b1
  clear b1
  obtain ⟨_, a0, a1, a2⟩ := id A1
  go_wp2_with fail
  go_at_call 21
  refine (HC.out _).mono ?_
  rintro e w2 ⟨rfl, b2⟩
  have A2 := (A1.keep b2)
  have B2 := bup B1 b2
  clear A1 B1 a0 a1 a2
  clear b2
  obtain ⟨_, a0, a1, a2⟩ := id A2
  go_wp2_with fail
  go_ret
  exact ⟨rfl, B2⟩
set_option maxRecDepth 100000 in
set_option maxHeartbeats 2000000 in
theorem tens_f (n d tn E fr : Int) (k p q6 q f : Nat) (wide : Bool) (x1 x2 x3 y1 y2 y3 y4 y5 : ByteArray) (hn : 1 ≤ n ∧ n ≤ 240000) (hd : 1 ≤ d ∧ d ≤ 1001) (hf : (n + d - 1) / d = (f : Int)) (hf2 : 1 ≤ f ∧ f ≤ 240) (hk : k < 144) (hp : (k : Int) / 6 = (p : Int)) (hq6 : (k : Int) % 6 = (q6 : Int)) (hq : (q6 : Int) * 10 = (q : Int)) (hw : decide ((100 : Int) < (f : Int)) = wide) (hE : 600 * (f : Int) = E) (hEk : E * (k : Int) = fr) (hfr : 0 ≤ fr ∧ fr ≤ 1000000000) (w : World)
    (HK : ∀ w0, Below w.heap.size w w0 → Calls Tryd.prog 15 #[] w0 fun e w' => e = .returned (.bool true) ∧ Below w0.heap.size w0 w')
    (HC : ∀ w, Calls Tryd.prog 21 #[.agg #[.int .i64 n, .int .i64 d, .bool false]] w fun e w' => e = .returned (.int .i64 0) ∧ Below w.heap.size w w')
    (HW : ∀ w, Calls Tryd.prog 33 #[.int .i64 tn, .int .i64 144] w fun e w' => e = .returned (.int .i64 (k : Nat)) ∧ w' = w)
    (H1 : ∀ w, Calls Tryd.prog 34 #[.int .i64 (p : Nat)] w fun e w' => e = .returned (.string x1) ∧ Below w.heap.size w w')
    (H2 : ∀ w, Calls Tryd.prog 34 #[.int .i64 (q : Nat)] w fun e w' => e = .returned (.string x2) ∧ Below w.heap.size w w')
    (H3 : ∀ w, Calls Tryd.prog 36 #[.int .i64 0, .bool wide] w fun e w' => e = .returned (.string x3) ∧ Below w.heap.size w w')
    (HN : ∀ w, Calls Tryd.prog 28 #[.agg #[.int .i64 n, .int .i64 d, .bool false], .string y5] w fun e w' => e = .returned (.tuple #[.int .i64 fr, .int .i64 0]) ∧ Below w.heap.size w w')
    (d1 : ∀ w, (Op.stringOp .add x1 ⟨#[58]⟩).run Tryd.prog w = .ok (.string y1) w)
    (d2 : ∀ w, (Op.stringOp .add y1 x2).run Tryd.prog w = .ok (.string y2) w)
    (d3 : ∀ w, (Op.stringOp .add y2 ⟨#[58, 48, 48]⟩).run Tryd.prog w = .ok (.string y3) w)
    (d4 : ∀ w, (Op.stringOp .add y3 ⟨#[58]⟩).run Tryd.prog w = .ok (.string y4) w)
    (d5 : ∀ w, (Op.stringOp .add y4 x3).run Tryd.prog w = .ok (.string y5) w) :
    Calls Tryd.prog 13 #[.agg #[.int .i64 n, .int .i64 d, .bool false], .int .i64 tn] w fun e w' => e = .returned (.bool true) ∧ Below w.heap.size w w' := by
  have HK := hideR HK
  have HC := hideR HC
  have HW := hideR HW
  have H1 := hideR H1
  have H2 := hideR H2
  have H3 := hideR H3
  have HN := hideR HN
  have zf : ∀ w, (Op.intDiv .quo .i64 (n + d - 1) d).run Tryd.prog w = .ok (.int .i64 (f : Int)) w := fun w => by
    unfold Op.intDiv
    rw [if_neg (by omega), Int.tdiv_eq_ediv_of_nonneg (by omega), hf]
    exact congrArg (fun z => Result.ok (Value.int .i64 z) w) (by rw [IntKind.wrap_i64]; omega)
  have hp2 : (k : Int).tdiv 6 = (p : Int) := by rw [Int.tdiv_eq_ediv_of_nonneg (by omega), hp]
  have hq7 : (k : Int).tmod 6 = (q6 : Int) := by rw [Int.tmod_eq_emod_of_nonneg (by omega), hq6]
  have wk1 : IntKind.i64.wrap (p : Int) = (p : Int) := by rw [IntKind.wrap_i64]; omega
  have wk2 : IntKind.i64.wrap (q : Int) = (q : Int) := by rw [IntKind.wrap_i64]; omega
  have hw2 : decide (100 < f) = wide := by rw [← hw]; exact decide_eq_decide.2 (by omega)
  go_enter Tryd.func13, Tryd.ntmps13
  go_wp2_with fail
  go_at_call 15
  refine (HK.out _ (bel1 w _)).mono ?_
  rintro e w1 ⟨rfl, b1⟩
  have A1 := ((RateAt.new w n d false).keep b1)
  have B1 := bup (bel1 w _) b1
  clear b1
  obtain ⟨_, a0, a1, a2⟩ := id A1
  go_wp2_with fail
  go_at_call 21
  refine (HC.out _).mono ?_
  rintro e w2 ⟨rfl, b2⟩
  have A2 := (A1.keep b2)
  have B2 := bup B1 b2
  clear A1 B1 a0 a1 a2
  clear b2
  obtain ⟨_, a0, a1, a2⟩ := id A2
  go_wp2_with fail
  go_at_call 33
  refine (HW.out _).mono ?_
  rintro e w3 ⟨rfl, hwx⟩
  obtain rfl := hwx.symm
  go_wp2_with fail
  simp only [hf]
  have S2 := And.intro A2.2.1 (And.intro A2.2.2.1 A2.2.2.2)
  go_region_held3 (fun w' => w'.cell? ⟨w.heap.size, 0, none⟩ = some (.int .i64 n) ∧ w'.cell? ⟨w.heap.size, 1, none⟩ = some (.int .i64 d) ∧ w'.cell? ⟨w.heap.size, 2, none⟩ = some (.bool false)) (first | assumption | go_keep)
    (first
    | (go_at_call_of 34 p; refine (H1.out _).mono ?_; rintro e w3 ⟨rfl, b3⟩; have A3 := A2.drew.keep b3; have B3 := bup B2.drew b3; have S3 := And.intro A3.2.1 (And.intro A3.2.2.1 A3.2.2.2))
    | (go_at_call_of 34 q; refine (H2.out _).mono ?_; rintro e w4 ⟨rfl, b4⟩; have A4 := A3.keep b4; have B4 := bup B3 b4; have S4 := And.intro A4.2.1 (And.intro A4.2.2.1 A4.2.2.2))
    | (go_at_call 36; refine (H3.out _).mono ?_; rintro e w5 ⟨rfl, b5⟩; have A5 := A4.keep b5; have B5 := bup B4 b5; have S5 := And.intro A5.2.1 (And.intro A5.2.2.1 A5.2.2.2))
    | (go_at_call 28; refine (HN.out _).mono ?_; rintro e w6 ⟨rfl, b6⟩; have A6 := A5.keep b6; have B6 := bup B5 b6; have S6 := And.intro A6.2.1 (And.intro A6.2.2.1 A6.2.2.2)))
  all_goals (
    try go_wp2_with fail
    go_ret
    exact ⟨by first | rfl | (simp; done) | (simp; omega), B6⟩)
set_option maxRecDepth 100000 in
set_option maxHeartbeats 2000000 in
theorem tens_t (n d tn E fr : Int) (k p q6 q f : Nat) (wide : Bool) (x1 x2 x3 y1 y2 y3 y4 y5 : ByteArray) (hn : 1 ≤ n ∧ n ≤ 240000) (hd : 1 ≤ d ∧ d ≤ 1001) (hf : (n + d - 1) / d = (f : Int)) (hf2 : 1 ≤ f ∧ f ≤ 240) (hk : k < 144) (hp : (k : Int) / 6 = (p : Int)) (hq6 : (k : Int) % 6 = (q6 : Int)) (hq : (q6 : Int) * 10 = (q : Int)) (hw : decide ((100 : Int) < (f : Int)) = wide) (G : Int) (hG : 9 * (f : Int) / 15 = G) (hE : 600 * (f : Int) - G = E) (hG0 : 0 ≤ G ∧ G ≤ 1000) (hEk : E * (k : Int) = fr) (hfr : 0 ≤ fr ∧ fr ≤ 1000000000) (ov : Int) (ho : (k : Int) * 600 * n - fr * d = ov) (ho1 : 0 ≤ ov ∧ 10 * ov < n) (P Q : Int) (hP : (k : Int) * 600 * n = P) (hQ : fr * d = Q) (hPb : 0 ≤ P ∧ P ≤ 1000000000000) (hQb : 0 ≤ Q ∧ Q ≤ 1000000000000) (w : World)
    (HK : ∀ w0, Below w.heap.size w w0 → Calls Tryd.prog 15 #[] w0 fun e w' => e = .returned (.bool true) ∧ Below w0.heap.size w0 w')
    (HC : ∀ w, Calls Tryd.prog 21 #[.agg #[.int .i64 n, .int .i64 d, .bool true]] w fun e w' => e = .returned (.int .i64 0) ∧ Below w.heap.size w w')
    (HW : ∀ w, Calls Tryd.prog 33 #[.int .i64 tn, .int .i64 144] w fun e w' => e = .returned (.int .i64 (k : Nat)) ∧ w' = w)
    (H1 : ∀ w, Calls Tryd.prog 34 #[.int .i64 (p : Nat)] w fun e w' => e = .returned (.string x1) ∧ Below w.heap.size w w')
    (H2 : ∀ w, Calls Tryd.prog 34 #[.int .i64 (q : Nat)] w fun e w' => e = .returned (.string x2) ∧ Below w.heap.size w w')
    (H3 : ∀ w, Calls Tryd.prog 36 #[.int .i64 0, .bool wide] w fun e w' => e = .returned (.string x3) ∧ Below w.heap.size w w')
    (HN : ∀ w, Calls Tryd.prog 28 #[.agg #[.int .i64 n, .int .i64 d, .bool true], .string y5] w fun e w' => e = .returned (.tuple #[.int .i64 fr, .int .i64 0]) ∧ Below w.heap.size w w')
    (d1 : ∀ w, (Op.stringOp .add x1 ⟨#[58]⟩).run Tryd.prog w = .ok (.string y1) w)
    (d2 : ∀ w, (Op.stringOp .add y1 x2).run Tryd.prog w = .ok (.string y2) w)
    (d3 : ∀ w, (Op.stringOp .add y2 ⟨#[58, 48, 48]⟩).run Tryd.prog w = .ok (.string y3) w)
    (d4 : ∀ w, (Op.stringOp .add y3 ⟨#[59]⟩).run Tryd.prog w = .ok (.string y4) w)
    (d5 : ∀ w, (Op.stringOp .add y4 x3).run Tryd.prog w = .ok (.string y5) w) :
    Calls Tryd.prog 13 #[.agg #[.int .i64 n, .int .i64 d, .bool true], .int .i64 tn] w fun e w' => e = .returned (.bool true) ∧ Below w.heap.size w w' := by
  have HK := hideR HK
  have HC := hideR HC
  have HW := hideR HW
  have H1 := hideR H1
  have H2 := hideR H2
  have H3 := hideR H3
  have HN := hideR HN
  have zf : ∀ w, (Op.intDiv .quo .i64 (n + d - 1) d).run Tryd.prog w = .ok (.int .i64 (f : Int)) w := fun w => by
    unfold Op.intDiv
    rw [if_neg (by omega), Int.tdiv_eq_ediv_of_nonneg (by omega), hf]
    exact congrArg (fun z => Result.ok (Value.int .i64 z) w) (by rw [IntKind.wrap_i64]; omega)
  have hp2 : (k : Int).tdiv 6 = (p : Int) := by rw [Int.tdiv_eq_ediv_of_nonneg (by omega), hp]
  have hq7 : (k : Int).tmod 6 = (q6 : Int) := by rw [Int.tmod_eq_emod_of_nonneg (by omega), hq6]
  have wk1 : IntKind.i64.wrap (p : Int) = (p : Int) := by rw [IntKind.wrap_i64]; omega
  have wk2 : IntKind.i64.wrap (q : Int) = (q : Int) := by rw [IntKind.wrap_i64]; omega
  have hw2 : decide (100 < f) = wide := by rw [← hw]; exact decide_eq_decide.2 (by omega)
  go_enter Tryd.func13, Tryd.ntmps13
  go_wp2_with fail
  go_at_call 15
  refine (HK.out _ (bel1 w _)).mono ?_
  rintro e w1 ⟨rfl, b1⟩
  have A1 := ((RateAt.new w n d true).keep b1)
  have B1 := bup (bel1 w _) b1
  clear b1
  obtain ⟨_, a0, a1, a2⟩ := id A1
  go_wp2_with fail
  go_at_call 21
  refine (HC.out _).mono ?_
  rintro e w2 ⟨rfl, b2⟩
  have A2 := (A1.keep b2)
  have B2 := bup B1 b2
  clear A1 B1 a0 a1 a2
  clear b2
  obtain ⟨_, a0, a1, a2⟩ := id A2
  go_wp2_with fail
  go_at_call 33
  refine (HW.out _).mono ?_
  rintro e w3 ⟨rfl, hwx⟩
  obtain rfl := hwx.symm
  go_wp2_with fail
  simp only [hf]
  have S2 := And.intro A2.2.1 (And.intro A2.2.2.1 A2.2.2.2)
  go_region_held3 (fun w' => w'.cell? ⟨w.heap.size, 0, none⟩ = some (.int .i64 n) ∧ w'.cell? ⟨w.heap.size, 1, none⟩ = some (.int .i64 d) ∧ w'.cell? ⟨w.heap.size, 2, none⟩ = some (.bool true)) (first | assumption | go_keep)
    (first
    | (go_at_call_of 34 p; refine (H1.out _).mono ?_; rintro e w3 ⟨rfl, b3⟩; have A3 := A2.drew.keep b3; have B3 := bup B2.drew b3; have S3 := And.intro A3.2.1 (And.intro A3.2.2.1 A3.2.2.2))
    | (go_at_call_of 34 q; refine (H2.out _).mono ?_; rintro e w4 ⟨rfl, b4⟩; have A4 := A3.keep b4; have B4 := bup B3 b4; have S4 := And.intro A4.2.1 (And.intro A4.2.2.1 A4.2.2.2))
    | (go_at_call 36; refine (H3.out _).mono ?_; rintro e w5 ⟨rfl, b5⟩; have A5 := A4.keep b5; have B5 := bup B4 b5; have S5 := And.intro A5.2.1 (And.intro A5.2.2.1 A5.2.2.2))
    | (go_at_call 28; refine (HN.out _).mono ?_; rintro e w6 ⟨rfl, b6⟩; have A6 := A5.keep b6; have B6 := bup B5 b6; have S6 := And.intro A6.2.1 (And.intro A6.2.2.1 A6.2.2.2)))
  all_goals (
    try go_wp2_with fail
    go_ret
    exact ⟨by first | rfl | (simp; done) | (simp; omega), B6⟩)
theorem sum_run (a b : List UInt8) (h : a.length + b.length ≤ 1000) (w : World) : (Op.stringOp .add (bs a) (bs b)).run Tryd.prog w = .ok (.string (bs (a ++ b))) w := by
  have := run_string_add_sum (P := Tryd.prog) w (bs a) (bs b) (by rw [bs_size, bs_size]; omega)
  rw [bs_append] at this
  exact this
theorem tens5_any (n d : Int) (dr : Bool) (hn : I64 n) (hd : I64 d) (tn : Int) (_ht : I64 tn) (w : World) (hp : PowAt w) :
    Calls Tryd.prog 13 #[.agg #[.int .i64 n, .int .i64 d, .bool dr], .int .i64 tn] w fun e w' => e = .returned (.bool true) ∧ Below w.heap.size w w' := by
  have HK := fun (w0 : World) (b0 : Below w.heap.size w w0) => known5_any w0 (hp.keep b0)
  have HC := rcheck_any n d dr
  by_cases h : checkI n d dr = 0
  · rw [h] at HC
    obtain ⟨n1, d1, _, nd, hF⟩ := full_ok n d dr h
    have f1 := hF.1
    have f2 := hF.2.1
    obtain ⟨f, hf⟩ := Int.eq_ofNat_of_zero_le (show 0 ≤ fullI n d by omega)
    have m0 := Int.emod_nonneg tn (show (144 : Int) ≠ 0 by omega)
    have m1 := Int.emod_lt_of_pos tn (show (0 : Int) < 144 by omega)
    obtain ⟨k, hk⟩ := Int.eq_ofNat_of_zero_le m0
    have HW := within_any tn 144 (by omega)
    rw [hk] at HW m1
    have H1 := two_any (k / 6) (by omega)
    have H2 := two_any (k % 6 * 10) (by omega)
    have H3 := three_any 0 (decide ((100 : Int) < (f : Int))) (by omega) (by omega)
    have pn := parts_num n d dr h f hf _ rfl (10 * k) 0 0 (by omega) (by omega) (by omega)
    have dge : (if decide ((100 : Int) < (f : Int)) = true then 3 else 2 : Nat) = if 100 < fullI n d then 3 else 2 := by
      rw [hf]
      by_cases c : (100 : Int) < (f : Int)
      · rw [if_pos (decide_eq_true c), if_pos c]
      · rw [if_neg (by simpa using c), if_neg c]
    rw [dge] at H3
    have pl : ∀ q : List UInt8, partsL dr (if 100 < fullI n d then 3 else 2) (10 * k) 0 0 = padL (k / 6) 2 ++ [58] ++ padL (k % 6 * 10) 2 ++ [58, 48, 48] ++ [if dr = true then 59 else 58] ++ padL 0 (if 100 < fullI n d then 3 else 2) := fun _ => by
      unfold partsL
      rw [show 10 * k / 60 = k / 6 by omega, show 10 * k % 60 = k % 6 * 10 by omega, pad2 0 (by omega)]
      simp
    have len : (partsL dr (if 100 < fullI n d then 3 else 2) (10 * k) 0 0).length ≤ 9223372036854775807 := by
      rw [pl []]
      have a1 := pad_two (k / 6) (by omega)
      have a2 := pad_two (k % 6 * 10) (by omega)
      have a3 := pad_dg 0 (if 100 < fullI n d then 3 else 2) (by split <;> omega) (by split <;> omega)
      simp only [List.length_append, List.length_cons, List.length_nil, a1, a2, a3]
      split <;> omega
    have pn := pn.trans (if_neg (fun x => x.1 (by omega)))
    have HN := cnum_any n d dr hn hd _ len
    rw [pn, pl []] at HN
    have a1 := pad_two (k / 6) (by omega)
    have a2 := pad_two (k % 6 * 10) (by omega)
    have a3 := pad_dg 0 (if 100 < fullI n d then 3 else 2) (by split <;> omega) (by split <;> omega)
    have a4 : (if 100 < fullI n d then 3 else 2 : Nat) ≤ 3 := by split <;> omega
    have q1 := sum_run (padL (k / 6) 2) [58] (by simp only [List.length_cons, List.length_nil]; omega)
    have q2 := sum_run (padL (k / 6) 2 ++ [58]) (padL (k % 6 * 10) 2) (by simp only [List.length_append, List.length_cons, List.length_nil]; omega)
    have q3 := sum_run (padL (k / 6) 2 ++ [58] ++ padL (k % 6 * 10) 2) [58, 48, 48] (by simp only [List.length_append, List.length_cons, List.length_nil]; omega)
    have q4 := sum_run (padL (k / 6) 2 ++ [58] ++ padL (k % 6 * 10) 2 ++ [58, 48, 48]) [if dr = true then 59 else 58] (by simp only [List.length_append, List.length_cons, List.length_nil]; omega)
    have q5 := sum_run (padL (k / 6) 2 ++ [58] ++ padL (k % 6 * 10) 2 ++ [58, 48, 48] ++ [if dr = true then 59 else 58]) (padL 0 (if 100 < fullI n d then 3 else 2)) (by simp only [List.length_append, List.length_cons, List.length_nil]; omega)
    have hfd : (n + d - 1) / d = (f : Int) := hf
    have fk : (600 * (f : Int)) * k = 600 * (f * k) := Int.mul_assoc _ _ _
    have fk0 : 0 ≤ (f : Int) * k := Int.mul_nonneg (by omega) (by omega)
    have fk1 : (f : Int) * k ≤ 240 * 143 := Int.mul_le_mul (by omega) (by omega) (by omega) (by omega)
    cases dr
    · simp only [Bool.false_eq_true, if_false] at HN q4 q5
      refine tens_f n d tn _ _ k (k / 6) (k % 6) (k % 6 * 10) f _ _ _ _ _ _ _ _ _ n1 d1 hfd (by omega) (by omega) (by omega) (by omega) (by omega) rfl rfl ?_ ?_ w HK HC HW H1 H2 H3 HN q1 q2 q3 q4 q5
      · push_cast
        simp only [Int.zero_mul, Int.add_zero, Int.sub_zero]
        grind
      · push_cast
        simp only [Int.zero_mul, Int.add_zero, Int.sub_zero]
        rw [show (10 * (k : Int) * 60) * (f : Int) = 600 * (f * k) by grind]
        omega
    · simp only [if_true] at HN q4 q5
      have lo := hF.2.2
      have hl : leftI n d = 2 ∧ n = 30000 ∧ d = 1001 ∨ leftI n d = 4 ∧ n = 60000 ∧ d = 1001 := by
        have hc := h
        unfold checkI at hc
        by_cases c : 1 ≤ n ∧ n ≤ 240000 ∧ 1 ≤ d ∧ d ≤ 1001 ∧ d ≤ n ∧ n ≤ d * 240 ∧ rightB ⟨n, d⟩ = true ∧ (true = true → leftI n d ≠ 0)
        · have z := c.2.2.2.2.2.2.2 rfl
          unfold leftI at z ⊢
          by_cases c1 : n = 30000 ∧ d = 1001
          · rw [if_pos c1]
            exact .inl ⟨rfl, c1⟩
          · rw [if_neg c1] at z ⊢
            by_cases c2 : n = 60000 ∧ d = 1001
            · rw [if_pos c2]
              exact .inr ⟨rfl, c2⟩
            · rw [if_neg c2] at z
              exact absurd rfl z
        · rw [if_neg c] at hc
          cases hc
      rcases hl with ⟨hl, rfl, rfl⟩ | ⟨hl, rfl, rfl⟩
      · rw [show fullI 30000 1001 = 30 by rfl] at hf
        obtain rfl : f = 30 := by omega
        rw [hl] at HN
        refine tens_t 30000 1001 tn 17982 (17982 * k) k (k / 6) (k % 6) (k % 6 * 10) 30 _ _ _ _ _ _ _ _ _ n1 d1 hfd (by omega) (by omega) (by omega) (by omega) (by omega) rfl 18 rfl rfl (by omega) rfl (by omega) _ rfl (by omega) _ _ rfl rfl (by omega) (by omega) w HK HC HW H1 H2 H3 ?_ q1 q2 q3 q4 q5
        rw [show (17982 : Int) * k = ((10 * k * 60 + 0 : Nat) : Int) * (30 : Nat) + (0 : Nat) - 2 * (((10 * k : Nat) : Int) - (10 * k / 10 : Nat)) by omega]
        exact HN
      · rw [show fullI 60000 1001 = 60 by rfl] at hf
        obtain rfl : f = 60 := by omega
        rw [hl] at HN
        refine tens_t 60000 1001 tn 35964 (35964 * k) k (k / 6) (k % 6) (k % 6 * 10) 60 _ _ _ _ _ _ _ _ _ n1 d1 hfd (by omega) (by omega) (by omega) (by omega) (by omega) rfl 36 rfl rfl (by omega) rfl (by omega) _ rfl (by omega) _ _ rfl rfl (by omega) (by omega) w HK HC HW H1 H2 H3 ?_ q1 q2 q3 q4 q5
        rw [show (35964 : Int) * k = ((10 * k * 60 + 0 : Nat) : Int) * (60 : Nat) + (0 : Nat) - 4 * (((10 * k : Nat) : Int) - (10 * k / 10 : Nat)) by omega]
        exact HN
  · rw [(check_two n d dr).resolve_left h] at HC
    exact tens_bad n d tn 14 dr rfl w HK HC
end Go.Proofs.YtaipdckakgohjaaDoor
