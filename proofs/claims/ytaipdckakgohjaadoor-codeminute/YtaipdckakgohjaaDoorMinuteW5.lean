/- The walk of surtitlelaw5.CodeMinute. -/
import Derived.Test.YtaipdckakgohjaaDoorGB
import Derived.Test.YtaipdckakgohjaaDoorCdX
import Derived.Test.YtaipdckakgohjaaDoorCRefC
import Derived.Deep.RegionHeld3
namespace Go.Proofs.YtaipdckakgohjaaDoor
open Go.RowKit Go.Shelf
attribute [local go_sem] Oper.semAt_some

set_option maxRecDepth 100000 in
set_option maxHeartbeats 4000000 in
theorem minute_bad (n d tn c : Int) (dr : Bool) (hc : (c != 0) = true) (w : World)
    (HK : ∀ w0, Below w.heap.size w w0 → Calls Tryd.prog 15 #[] w0 fun e w' => e = .returned (.bool true) ∧ Below w0.heap.size w0 w')
    (HC : ∀ w, Calls Tryd.prog 21 #[.agg #[.int .i64 n, .int .i64 d, .bool dr]] w fun e w' => e = .returned (.int .i64 c) ∧ Below w.heap.size w w') :
    Calls Tryd.prog 12 #[.agg #[.int .i64 n, .int .i64 d, .bool dr], .int .i64 tn] w fun e w' => e = .returned (.bool true) ∧ Below w.heap.size w w' := by
  have HK := hideR HK
  have HC := hideR HC
  go_enter Tryd.func12, Tryd.ntmps12
  go_wp2_with fail
  go_at_call 15
  refine (HK.out _ (bel1 w _)).mono ?_
  rintro e w1 ⟨rfl, b1⟩
  have A1 := ((RateAt.new w n d dr).keep b1)
  have B1 := bup (bel1 w _) b1
  clear b1
  obtain ⟨_, a0, a1, a2⟩ := id A1
  go_wp2_with fail
  go_at_call 21
  refine (HC.out _).mono ?_
  rintro e w2 ⟨rfl, b2⟩
  have A2 := (A1.keep b2)
  have B2 := bup B1 b2
  clear A1 B1 a0 a1 a2
  clear b2
  obtain ⟨_, a0, a1, a2⟩ := id A2
  go_wp2_with fail
  go_ret
  exact ⟨rfl, B2⟩
set_option maxRecDepth 100000 in
set_option maxHeartbeats 4000000 in
theorem minute_f (n d tn D base : Int) (M p q f : Nat) (wide : Bool) (x1 x2 y1 y2 y3 : ByteArray) (T R U V : Nat → ByteArray) (Y : Nat → Nat → ByteArray) (hn : 1 ≤ n ∧ n ≤ 240000) (hd : 1 ≤ d ∧ d ≤ 1001) (hf : (n + d - 1) / d = (f : Int)) (hf2 : 1 ≤ f ∧ f ≤ 240) (hM : M < 2700) (hp : (M : Int) / 60 = (p : Int)) (hq : (M : Int) % 60 = (q : Int)) (hw : decide ((100 : Int) < (f : Int)) = wide) (hb : Hid (0 ≤ base ∧ base ≤ 100000000000)) (hD : D = 0) (w : World)
    (HK : ∀ w0, Below w.heap.size w w0 → Calls Tryd.prog 15 #[] w0 fun e w' => e = .returned (.bool true) ∧ Below w0.heap.size w0 w')
    (HC : ∀ w, Calls Tryd.prog 21 #[.agg #[.int .i64 n, .int .i64 d, .bool false]] w fun e w' => e = .returned (.int .i64 0) ∧ Below w.heap.size w w')
    (HW : ∀ w, Calls Tryd.prog 33 #[.int .i64 tn, .int .i64 2700] w fun e w' => e = .returned (.int .i64 (M : Nat)) ∧ w' = w)
    (H1 : ∀ w, Calls Tryd.prog 34 #[.int .i64 (p : Nat)] w fun e w' => e = .returned (.string x1) ∧ Below w.heap.size w w')
    (H2 : ∀ w, Calls Tryd.prog 34 #[.int .i64 (q : Nat)] w fun e w' => e = .returned (.string x2) ∧ Below w.heap.size w w')
    (HT : ∀ s : Nat, s < 60 → ∀ w, Calls Tryd.prog 34 #[.int .i64 (s : Nat)] w fun e w' => e = .returned (.string (T s)) ∧ Below w.heap.size w w')
    (HR : ∀ k : Nat, k < f → ∀ w, Calls Tryd.prog 36 #[.int .i64 (k : Nat), .bool wide] w fun e w' => e = .returned (.string (R k)) ∧ Below w.heap.size w w')
    (HS : ∀ s : Nat, s < 60 → ∀ w, Calls Tryd.prog 35 #[.int .i64 (s : Nat)] w fun e w' => e = .returned (.int .i64 (if s < 1 then 0 else 18)) ∧ w' = w)
    (HN : ∀ s k : Nat, s < 60 → k < f → ∀ w, Calls Tryd.prog 28 #[.agg #[.int .i64 n, .int .i64 d, .bool false], .string (Y s k)] w fun e w' => e = .returned (.tuple #[.int .i64 (if s = 0 ∧ (k : Int) < D then 0 else base + (s : Int) * f + k), .int .i64 (if s = 0 ∧ (k : Int) < D then 15 else 0)]) ∧ Below w.heap.size w w')
    (d1 : ∀ w, (Op.stringOp .add x1 ⟨#[58]⟩).run Tryd.prog w = .ok (.string y1) w)
    (d2 : ∀ w, (Op.stringOp .add y1 x2).run Tryd.prog w = .ok (.string y2) w)
    (d3 : ∀ w, (Op.stringOp .add y2 ⟨#[58]⟩).run Tryd.prog w = .ok (.string y3) w)
    (d4 : ∀ s : Nat, s < 60 → ∀ w, (Op.stringOp .add y3 (T s)).run Tryd.prog w = .ok (.string (U s)) w)
    (d5 : ∀ s : Nat, s < 60 → ∀ w, (Op.stringOp .add (U s) ⟨#[58]⟩).run Tryd.prog w = .ok (.string (V s)) w)
    (d6 : ∀ s k : Nat, s < 60 → k < f → ∀ w, (Op.stringOp .add (V s) (R k)).run Tryd.prog w = .ok (.string (Y s k)) w) :
    Calls Tryd.prog 12 #[.agg #[.int .i64 n, .int .i64 d, .bool false], .int .i64 tn] w fun e w' => e = .returned (.bool true) ∧ Below w.heap.size w w' := by
  have HK := hideR HK
  have HC := hideR HC
  have HW := hideR HW
  have H1 := hideR H1
  have H2 := hideR H2
  have HT := hideR HT
  have HR := hideR HR
  have HS := hideR HS
  have HN := hideR HN
  have d4 := hideR d4
  have d5 := hideR d5
  have d6 := hideR d6
  have zf : ∀ w, (Op.intDiv .quo .i64 (n + d - 1) d).run Tryd.prog w = .ok (.int .i64 (f : Int)) w := fun w => by
    unfold Op.intDiv
    rw [if_neg (by omega), Int.tdiv_eq_ediv_of_nonneg (by omega), hf]
    exact congrArg (fun z => Result.ok (Value.int .i64 z) w) (by rw [IntKind.wrap_i64]; omega)
  have hp2 : (M : Int).tdiv 60 = (p : Int) := by rw [Int.tdiv_eq_ediv_of_nonneg (by omega), hp]
  have hq7 : (M : Int).tmod 60 = (q : Int) := by rw [Int.tmod_eq_emod_of_nonneg (by omega), hq]
  have wk1 : IntKind.i64.wrap (p : Int) = (p : Int) := by rw [IntKind.wrap_i64]; omega
  have hw2 : decide (100 < f) = wide := by rw [← hw]; exact decide_eq_decide.2 (by omega)
  subst hD
  go_enter Tryd.func12, Tryd.ntmps12
  go_wp2_with fail
  go_at_call 15
  refine (HK.out _ (bel1 w _)).mono ?_
  rintro e w1 ⟨rfl, b1⟩
  have A1 := ((RateAt.new w n d false).keep b1)
  have B1 := bup (bel1 w _) b1
  clear b1
  obtain ⟨_, a0, a1, a2⟩ := id A1
  go_wp2_with fail
  go_at_call 21
  refine (HC.out _).mono ?_
  rintro e w2 ⟨rfl, b2⟩
  have A2 := (A1.keep b2)
  have B2 := bup B1 b2
  clear A1 B1 a0 a1 a2
  clear b2
  obtain ⟨_, a0, a1, a2⟩ := id A2
  go_wp2_with fail
  go_at_call 33
  refine (HW.out _).mono ?_
  rintro e w3 ⟨rfl, hwx⟩
  obtain rfl := hwx.symm
  go_wp2_with fail
  simp only [hf]
  go_at_call 34
  refine (H1.out _).mono ?_
  rintro e w3 ⟨rfl, b3⟩
  have A3 := A2.keep b3
  have B3 := bup B2 b3
  clear b3
  go_wp2_with fail
  go_at_call 34
  refine (H2.out _).mono ?_
  rintro e w4 ⟨rfl, b4⟩
  have A4 := A3.keep b4
  have B4 := bup B3 b4
  clear b4
  go_wp2_with fail
  clear a0 a1 a2
  clear HK HC HW H1 H2 d1 d2 d3 A2 B2 A3 B3
  go_loopw [11, 10] (fun vs vl wr => ∃ s : Nat, vs = .int .i64 s ∧ vl = .int .i64 (-1) ∧ s ≤ 90 ∧ RateAt wr w.heap.size n d false ∧ Below w.heap.size w wr) (fun vs _ _ => 100 - (intOf vs).toNat)
  case atStart => exact ⟨0, rfl, rfl, by omega, A4, B4⟩
  case round =>
    clear A4 B4
    obtain ⟨s, rfl, rfl, hs, A5, B5⟩ := hrel
    by_cases c : s < 60
    · have ci : (s : Int) < 60 := by omega
      have HTs := hideR (HT.out s c)
      have HSs := hideR (HS.out s c)
      have D4 := d4.out s c
      have D5 := d5.out s c
      have D6 := hideR (fun k hk => d6.out s k c hk)
      have HNs := hideR (fun k hk => HN.out s k c hk)
      clear HT HS d4 d5 d6 HN
      go_wp2_with fail
      go_loopw [12, 10] (fun vk vl wr => ∃ (k : Nat) (lv : Int), vk = .int .i64 k ∧ vl = .int .i64 lv ∧ k ≤ f ∧ Hid (lv = -1 ∨ (1 ≤ k ∧ ¬ (s = 0 ∧ (k : Int) ≤ 0) ∧ lv = base + (s : Int) * f + ((k : Int) - 1))) ∧ RateAt wr w.heap.size n d false ∧ Below w.heap.size w wr) (fun vk _ _ => f - (intOf vk).toNat)
      case atStart => exact ⟨0, -1, rfl, rfl, by omega, .inl rfl, A5, B5⟩
      case round =>
        clear A5 B5
        obtain ⟨k, lv, rfl, rfl, hk, HL, A6, B6⟩ := hrel
        obtain ⟨_, a0, a1, a2⟩ := id A6
        by_cases c2 : k < f
        · have c2i : (k : Int) < (f : Int) := by omega
          have HRk := hideR (HR.out k c2)
          have D6k := D6.out k c2
          have HNk := HNs.out k c2
          have wks : IntKind.i64.wrap (s : Int) = (s : Int) := by rw [IntKind.wrap_i64]; omega
          have wkk : IntKind.i64.wrap (k : Int) = (k : Int) := by rw [IntKind.wrap_i64]; omega
          have S6 := And.intro A6.2.1 (And.intro A6.2.2.1 A6.2.2.2)
          have HB := hideR (And.intro hk c2)
          · have c3 : ¬ (s = 0 ∧ (k : Int) < 0) := fun x => by have := x.2; omega
            rw [if_neg c3, if_neg c3] at HNk
            have HNk := hideR HNk
            have v0 : 0 ≤ base + (s : Int) * f + k ∧ base + (s : Int) * f + k ≤ 200000000000 := by
              have := hb.out
              have x0 : 0 ≤ (s : Int) * f := Int.mul_nonneg (by omega) (by omega)
              have x1 : (s : Int) * f ≤ 60 * 240 := Int.mul_le_mul (by omega) (by omega) (by omega) (by omega)
              omega
            obtain ⟨v, hv⟩ : ∃ v, base + (s : Int) * f + k = v := ⟨_, rfl⟩
            rw [hv] at HNk v0
            have HV2 := hideR (And.intro hv c3)
            have HL3 : lv = -1 ∨ (0 ≤ lv ∧ 1 ≤ k ∧ lv + 1 = v) := by
              rcases HL.out with x | x
              · exact .inl x
              · have := hb.out
                have x0 : 0 ≤ (s : Int) * f := Int.mul_nonneg (by omega) (by omega)
                exact .inr ⟨by omega, x.1, by omega⟩
            clear hv HL hk c2
            by_cases c5 : s = 0
            · have c6 : ((s : Int) == 0) = true := by rw [c5]; rfl
              clear c5
              rcases HL3 with rfl | ⟨l0, l1, l2⟩
              · clear c3
                go_wp2_with fail
                go_region_held3 (fun w' => w'.cell? ⟨w.heap.size, 0, none⟩ = some (.int .i64 n) ∧ w'.cell? ⟨w.heap.size, 1, none⟩ = some (.int .i64 d) ∧ w'.cell? ⟨w.heap.size, 2, none⟩ = some (.bool false)) (first | assumption | go_keep)
                  (first
                  | (go_at_call 34; refine (HTs.out _).mono ?_; rintro e w7 ⟨rfl, b7⟩; have A7 := A6.drew.keep b7; have B7 := bup B6.drew b7; have S7 := And.intro A7.2.1 (And.intro A7.2.2.1 A7.2.2.2))
                  | (go_at_call 36; refine (HRk.out _).mono ?_; rintro e w8 ⟨rfl, b8⟩; have A8 := A7.keep b8; have B8 := bup B7 b8; have S8 := And.intro A8.2.1 (And.intro A8.2.2.1 A8.2.2.2))
                  | (go_at_call 28; refine (HNk.out _).mono ?_; rintro e w9 ⟨rfl, b9⟩; have A9 := A8.keep b9; have B9 := bup B8 b9; have S9 := And.intro A9.2.1 (And.intro A9.2.2.1 A9.2.2.2)))
                all_goals (go_wp2_with fail; go_roundw)
                case rel => exact ⟨k + 1, v, by go_num, rfl, by have := HB.out; omega, .inr ⟨by omega, fun x => HV2.out.2 ⟨x.1, by have := x.2; omega⟩, by have := HV2.out.1; omega⟩, A9, B9⟩
                case measure => have := HB.out; simp [intOf]; omega
              · have l3 : (0 : Int) < (k : Int) := by omega
                have l4 : (v != lv + 1) = false := by rw [l2]; simp
                have l5 : (v != v) = false := by simp
                clear c3
                go_wp2_with fail
                go_region_held3 (fun w' => w'.cell? ⟨w.heap.size, 0, none⟩ = some (.int .i64 n) ∧ w'.cell? ⟨w.heap.size, 1, none⟩ = some (.int .i64 d) ∧ w'.cell? ⟨w.heap.size, 2, none⟩ = some (.bool false)) (first | assumption | go_keep)
                  (first
                  | (go_at_call 34; refine (HTs.out _).mono ?_; rintro e w7 ⟨rfl, b7⟩; have A7 := A6.drew.keep b7; have B7 := bup B6.drew b7; have S7 := And.intro A7.2.1 (And.intro A7.2.2.1 A7.2.2.2))
                  | (go_at_call 36; refine (HRk.out _).mono ?_; rintro e w8 ⟨rfl, b8⟩; have A8 := A7.keep b8; have B8 := bup B7 b8; have S8 := And.intro A8.2.1 (And.intro A8.2.2.1 A8.2.2.2))
                  | (go_at_call 28; refine (HNk.out _).mono ?_; rintro e w9 ⟨rfl, b9⟩; have A9 := A8.keep b9; have B9 := bup B8 b9; have S9 := And.intro A9.2.1 (And.intro A9.2.2.1 A9.2.2.2)))
                all_goals (go_wp2_with fail; go_roundw)
                case rel => exact ⟨k + 1, v, by go_num, rfl, by have := HB.out; omega, .inr ⟨by omega, fun x => HV2.out.2 ⟨x.1, by have := x.2; omega⟩, by have := HV2.out.1; omega⟩, A9, B9⟩
                case measure => have := HB.out; simp [intOf]; omega
            · have c6 : ((s : Int) == 0) = false := by rw [beq_eq_false_iff_ne]; omega
              rcases HL3 with rfl | ⟨l0, l1, l2⟩
              · clear c3
                go_wp2_with fail
                go_region_held3 (fun w' => w'.cell? ⟨w.heap.size, 0, none⟩ = some (.int .i64 n) ∧ w'.cell? ⟨w.heap.size, 1, none⟩ = some (.int .i64 d) ∧ w'.cell? ⟨w.heap.size, 2, none⟩ = some (.bool false)) (first | assumption | go_keep)
                  (first
                  | (go_at_call 34; refine (HTs.out _).mono ?_; rintro e w7 ⟨rfl, b7⟩; have A7 := A6.drew.keep b7; have B7 := bup B6.drew b7; have S7 := And.intro A7.2.1 (And.intro A7.2.2.1 A7.2.2.2))
                  | (go_at_call 36; refine (HRk.out _).mono ?_; rintro e w8 ⟨rfl, b8⟩; have A8 := A7.keep b8; have B8 := bup B7 b8; have S8 := And.intro A8.2.1 (And.intro A8.2.2.1 A8.2.2.2))
                  | (go_at_call 28; refine (HNk.out _).mono ?_; rintro e w9 ⟨rfl, b9⟩; have A9 := A8.keep b9; have B9 := bup B8 b9; have S9 := And.intro A9.2.1 (And.intro A9.2.2.1 A9.2.2.2)))
                all_goals (go_wp2_with fail; go_roundw)
                case rel => exact ⟨k + 1, v, by go_num, rfl, by have := HB.out; omega, .inr ⟨by omega, fun x => HV2.out.2 ⟨x.1, by have := x.2; omega⟩, by have := HV2.out.1; omega⟩, A9, B9⟩
                case measure => have := HB.out; simp [intOf]; omega
              · have l3 : (0 : Int) < (k : Int) := by omega
                have l4 : (v != lv + 1) = false := by rw [l2]; simp
                have l5 : (v != v) = false := by simp
                clear c3
                go_wp2_with fail
                go_region_held3 (fun w' => w'.cell? ⟨w.heap.size, 0, none⟩ = some (.int .i64 n) ∧ w'.cell? ⟨w.heap.size, 1, none⟩ = some (.int .i64 d) ∧ w'.cell? ⟨w.heap.size, 2, none⟩ = some (.bool false)) (first | assumption | go_keep)
                  (first
                  | (go_at_call 34; refine (HTs.out _).mono ?_; rintro e w7 ⟨rfl, b7⟩; have A7 := A6.drew.keep b7; have B7 := bup B6.drew b7; have S7 := And.intro A7.2.1 (And.intro A7.2.2.1 A7.2.2.2))
                  | (go_at_call 36; refine (HRk.out _).mono ?_; rintro e w8 ⟨rfl, b8⟩; have A8 := A7.keep b8; have B8 := bup B7 b8; have S8 := And.intro A8.2.1 (And.intro A8.2.2.1 A8.2.2.2))
                  | (go_at_call 28; refine (HNk.out _).mono ?_; rintro e w9 ⟨rfl, b9⟩; have A9 := A8.keep b9; have B9 := bup B8 b9; have S9 := And.intro A9.2.1 (And.intro A9.2.2.1 A9.2.2.2)))
                all_goals (go_wp2_with fail; go_roundw)
                case rel => exact ⟨k + 1, v, by go_num, rfl, by have := HB.out; omega, .inr ⟨by omega, fun x => HV2.out.2 ⟨x.1, by have := x.2; omega⟩, by have := HV2.out.1; omega⟩, A9, B9⟩
                case measure => have := HB.out; simp [intOf]; omega
        · have c2i : (f : Int) ≤ (k : Int) := by omega
          by_cases c7 : s < 1
          · have HSs := HSs.out
            rw [if_pos c7] at HSs
            have HSs := hideR HSs
            go_wp2_with fail
            go_at_call 35
            refine (HSs.out _).mono ?_
            rintro e w7 ⟨rfl, hw7⟩
            obtain rfl := hw7.symm
            go_wp2_with fail
            go_roundw
            case rel => exact ⟨s + 1, by go_num, rfl, by omega, A6, B6⟩
            case measure => simp [intOf]; omega
          · have HSs := HSs.out
            rw [if_neg c7] at HSs
            have HSs := hideR HSs
            go_wp2_with fail
            go_at_call 35
            refine (HSs.out _).mono ?_
            rintro e w7 ⟨rfl, hw7⟩
            obtain rfl := hw7.symm
            go_wp2_with fail
            go_roundw
            case rel => exact ⟨s + 19, by go_num, rfl, by omega, A6, B6⟩
            case measure => simp [intOf]; omega
    · have ci : (60 : Int) ≤ (s : Int) := by omega
      go_wp2_with fail
      go_ret
      exact ⟨rfl, B5⟩
set_option maxRecDepth 100000 in
set_option maxHeartbeats 4000000 in
theorem minute_t0 (n d tn D base : Int) (M p q f : Nat) (wide : Bool) (x1 x2 y1 y2 y3 : ByteArray) (T R U V : Nat → ByteArray) (Y : Nat → Nat → ByteArray) (hn : 1 ≤ n ∧ n ≤ 240000) (hd : 1 ≤ d ∧ d ≤ 1001) (hf : (n + d - 1) / d = (f : Int)) (hf2 : 1 ≤ f ∧ f ≤ 240) (hM : M < 2700) (hp : (M : Int) / 60 = (p : Int)) (hq : (M : Int) % 60 = (q : Int)) (hw : decide ((100 : Int) < (f : Int)) = wide) (hb : Hid (0 ≤ base ∧ base ≤ 100000000000)) (hD : D = 0) (hz : (M : Int) % 10 = 0) (w : World)
    (HK : ∀ w0, Below w.heap.size w w0 → Calls Tryd.prog 15 #[] w0 fun e w' => e = .returned (.bool true) ∧ Below w0.heap.size w0 w')
    (HC : ∀ w, Calls Tryd.prog 21 #[.agg #[.int .i64 n, .int .i64 d, .bool true]] w fun e w' => e = .returned (.int .i64 0) ∧ Below w.heap.size w w')
    (HW : ∀ w, Calls Tryd.prog 33 #[.int .i64 tn, .int .i64 2700] w fun e w' => e = .returned (.int .i64 (M : Nat)) ∧ w' = w)
    (H1 : ∀ w, Calls Tryd.prog 34 #[.int .i64 (p : Nat)] w fun e w' => e = .returned (.string x1) ∧ Below w.heap.size w w')
    (H2 : ∀ w, Calls Tryd.prog 34 #[.int .i64 (q : Nat)] w fun e w' => e = .returned (.string x2) ∧ Below w.heap.size w w')
    (HT : ∀ s : Nat, s < 60 → ∀ w, Calls Tryd.prog 34 #[.int .i64 (s : Nat)] w fun e w' => e = .returned (.string (T s)) ∧ Below w.heap.size w w')
    (HR : ∀ k : Nat, k < f → ∀ w, Calls Tryd.prog 36 #[.int .i64 (k : Nat), .bool wide] w fun e w' => e = .returned (.string (R k)) ∧ Below w.heap.size w w')
    (HS : ∀ s : Nat, s < 60 → ∀ w, Calls Tryd.prog 35 #[.int .i64 (s : Nat)] w fun e w' => e = .returned (.int .i64 (if s < 1 then 0 else 18)) ∧ w' = w)
    (HN : ∀ s k : Nat, s < 60 → k < f → ∀ w, Calls Tryd.prog 28 #[.agg #[.int .i64 n, .int .i64 d, .bool true], .string (Y s k)] w fun e w' => e = .returned (.tuple #[.int .i64 (if s = 0 ∧ (k : Int) < D then 0 else base + (s : Int) * f + k), .int .i64 (if s = 0 ∧ (k : Int) < D then 15 else 0)]) ∧ Below w.heap.size w w')
    (d1 : ∀ w, (Op.stringOp .add x1 ⟨#[58]⟩).run Tryd.prog w = .ok (.string y1) w)
    (d2 : ∀ w, (Op.stringOp .add y1 x2).run Tryd.prog w = .ok (.string y2) w)
    (d3 : ∀ w, (Op.stringOp .add y2 ⟨#[58]⟩).run Tryd.prog w = .ok (.string y3) w)
    (d4 : ∀ s : Nat, s < 60 → ∀ w, (Op.stringOp .add y3 (T s)).run Tryd.prog w = .ok (.string (U s)) w)
    (d5 : ∀ s : Nat, s < 60 → ∀ w, (Op.stringOp .add (U s) ⟨#[59]⟩).run Tryd.prog w = .ok (.string (V s)) w)
    (d6 : ∀ s k : Nat, s < 60 → k < f → ∀ w, (Op.stringOp .add (V s) (R k)).run Tryd.prog w = .ok (.string (Y s k)) w) :
    Calls Tryd.prog 12 #[.agg #[.int .i64 n, .int .i64 d, .bool true], .int .i64 tn] w fun e w' => e = .returned (.bool true) ∧ Below w.heap.size w w' := by
  have HK := hideR HK
  have HC := hideR HC
  have HW := hideR HW
  have H1 := hideR H1
  have H2 := hideR H2
  have HT := hideR HT
  have HR := hideR HR
  have HS := hideR HS
  have HN := hideR HN
  have d4 := hideR d4
  have d5 := hideR d5
  have d6 := hideR d6
  have zf : ∀ w, (Op.intDiv .quo .i64 (n + d - 1) d).run Tryd.prog w = .ok (.int .i64 (f : Int)) w := fun w => by
    unfold Op.intDiv
    rw [if_neg (by omega), Int.tdiv_eq_ediv_of_nonneg (by omega), hf]
    exact congrArg (fun z => Result.ok (Value.int .i64 z) w) (by rw [IntKind.wrap_i64]; omega)
  have hp2 : (M : Int).tdiv 60 = (p : Int) := by rw [Int.tdiv_eq_ediv_of_nonneg (by omega), hp]
  have hq7 : (M : Int).tmod 60 = (q : Int) := by rw [Int.tmod_eq_emod_of_nonneg (by omega), hq]
  have wk1 : IntKind.i64.wrap (p : Int) = (p : Int) := by rw [IntKind.wrap_i64]; omega
  have hw2 : decide (100 < f) = wide := by rw [← hw]; exact decide_eq_decide.2 (by omega)
  subst hD
  have hz2 : (M : Int).tmod 10 = 0 := by rw [Int.tmod_eq_emod_of_nonneg (by omega), hz]
  go_enter Tryd.func12, Tryd.ntmps12
  go_wp2_with fail
  go_at_call 15
  refine (HK.out _ (bel1 w _)).mono ?_
  rintro e w1 ⟨rfl, b1⟩
  have A1 := ((RateAt.new w n d true).keep b1)
  have B1 := bup (bel1 w _) b1
  clear b1
  obtain ⟨_, a0, a1, a2⟩ := id A1
  go_wp2_with fail
  go_at_call 21
  refine (HC.out _).mono ?_
  rintro e w2 ⟨rfl, b2⟩
  have A2 := (A1.keep b2)
  have B2 := bup B1 b2
  clear A1 B1 a0 a1 a2
  clear b2
  obtain ⟨_, a0, a1, a2⟩ := id A2
  go_wp2_with fail
  go_at_call 33
  refine (HW.out _).mono ?_
  rintro e w3 ⟨rfl, hwx⟩
  obtain rfl := hwx.symm
  go_wp2_with fail
  simp only [hf]
  go_at_call 34
  refine (H1.out _).mono ?_
  rintro e w3 ⟨rfl, b3⟩
  have A3 := A2.keep b3
  have B3 := bup B2 b3
  clear b3
  go_wp2_with fail
  go_at_call 34
  refine (H2.out _).mono ?_
  rintro e w4 ⟨rfl, b4⟩
  have A4 := A3.keep b4
  have B4 := bup B3 b4
  clear b4
  go_wp2_with fail
  clear a0 a1 a2
  clear HK HC HW H1 H2 d1 d2 d3 A2 B2 A3 B3
  go_loopw [11, 10] (fun vs vl wr => ∃ s : Nat, vs = .int .i64 s ∧ vl = .int .i64 (-1) ∧ s ≤ 90 ∧ RateAt wr w.heap.size n d true ∧ Below w.heap.size w wr) (fun vs _ _ => 100 - (intOf vs).toNat)
  case atStart => exact ⟨0, rfl, rfl, by omega, A4, B4⟩
  case round =>
    clear A4 B4
    obtain ⟨s, rfl, rfl, hs, A5, B5⟩ := hrel
    by_cases c : s < 60
    · have ci : (s : Int) < 60 := by omega
      have HTs := hideR (HT.out s c)
      have HSs := hideR (HS.out s c)
      have D4 := d4.out s c
      have D5 := d5.out s c
      have D6 := hideR (fun k hk => d6.out s k c hk)
      have HNs := hideR (fun k hk => HN.out s k c hk)
      clear HT HS d4 d5 d6 HN
      go_wp2_with fail
      go_loopw [12, 10] (fun vk vl wr => ∃ (k : Nat) (lv : Int), vk = .int .i64 k ∧ vl = .int .i64 lv ∧ k ≤ f ∧ Hid (lv = -1 ∨ (1 ≤ k ∧ ¬ (s = 0 ∧ (k : Int) ≤ 0) ∧ lv = base + (s : Int) * f + ((k : Int) - 1))) ∧ RateAt wr w.heap.size n d true ∧ Below w.heap.size w wr) (fun vk _ _ => f - (intOf vk).toNat)
      case atStart => exact ⟨0, -1, rfl, rfl, by omega, .inl rfl, A5, B5⟩
      case round =>
        clear A5 B5
        obtain ⟨k, lv, rfl, rfl, hk, HL, A6, B6⟩ := hrel
        obtain ⟨_, a0, a1, a2⟩ := id A6
        by_cases c2 : k < f
        · have c2i : (k : Int) < (f : Int) := by omega
          have HRk := hideR (HR.out k c2)
          have D6k := D6.out k c2
          have HNk := HNs.out k c2
          have wks : IntKind.i64.wrap (s : Int) = (s : Int) := by rw [IntKind.wrap_i64]; omega
          have wkk : IntKind.i64.wrap (k : Int) = (k : Int) := by rw [IntKind.wrap_i64]; omega
          have S6 := And.intro A6.2.1 (And.intro A6.2.2.1 A6.2.2.2)
          have HB := hideR (And.intro hk c2)
          · have c3 : ¬ (s = 0 ∧ (k : Int) < 0) := fun x => by have := x.2; omega
            rw [if_neg c3, if_neg c3] at HNk
            have HNk := hideR HNk
            have v0 : 0 ≤ base + (s : Int) * f + k ∧ base + (s : Int) * f + k ≤ 200000000000 := by
              have := hb.out
              have x0 : 0 ≤ (s : Int) * f := Int.mul_nonneg (by omega) (by omega)
              have x1 : (s : Int) * f ≤ 60 * 240 := Int.mul_le_mul (by omega) (by omega) (by omega) (by omega)
              omega
            obtain ⟨v, hv⟩ : ∃ v, base + (s : Int) * f + k = v := ⟨_, rfl⟩
            rw [hv] at HNk v0
            have HV2 := hideR (And.intro hv c3)
            have HL3 : lv = -1 ∨ (0 ≤ lv ∧ 1 ≤ k ∧ lv + 1 = v) := by
              rcases HL.out with x | x
              · exact .inl x
              · have := hb.out
                have x0 : 0 ≤ (s : Int) * f := Int.mul_nonneg (by omega) (by omega)
                exact .inr ⟨by omega, x.1, by omega⟩
            clear hv HL hk c2
            by_cases c5 : s = 0
            · have c6 : ((s : Int) == 0) = true := by rw [c5]; rfl
              clear c5
              rcases HL3 with rfl | ⟨l0, l1, l2⟩
              · clear c3
                go_wp2_with fail
                go_region_held3 (fun w' => w'.cell? ⟨w.heap.size, 0, none⟩ = some (.int .i64 n) ∧ w'.cell? ⟨w.heap.size, 1, none⟩ = some (.int .i64 d) ∧ w'.cell? ⟨w.heap.size, 2, none⟩ = some (.bool true)) (first | assumption | go_keep)
                  (first
                  | (go_at_call 34; refine (HTs.out _).mono ?_; rintro e w7 ⟨rfl, b7⟩; have A7 := A6.drew.keep b7; have B7 := bup B6.drew b7; have S7 := And.intro A7.2.1 (And.intro A7.2.2.1 A7.2.2.2))
                  | (go_at_call 36; refine (HRk.out _).mono ?_; rintro e w8 ⟨rfl, b8⟩; have A8 := A7.keep b8; have B8 := bup B7 b8; have S8 := And.intro A8.2.1 (And.intro A8.2.2.1 A8.2.2.2))
                  | (go_at_call 28; refine (HNk.out _).mono ?_; rintro e w9 ⟨rfl, b9⟩; have A9 := A8.keep b9; have B9 := bup B8 b9; have S9 := And.intro A9.2.1 (And.intro A9.2.2.1 A9.2.2.2)))
                all_goals (go_wp2_with fail; go_roundw)
                case rel => exact ⟨k + 1, v, by go_num, rfl, by have := HB.out; omega, .inr ⟨by omega, fun x => HV2.out.2 ⟨x.1, by have := x.2; omega⟩, by have := HV2.out.1; omega⟩, A9, B9⟩
                case measure => have := HB.out; simp [intOf]; omega
              · have l3 : (0 : Int) < (k : Int) := by omega
                have l4 : (v != lv + 1) = false := by rw [l2]; simp
                have l5 : (v != v) = false := by simp
                clear c3
                go_wp2_with fail
                go_region_held3 (fun w' => w'.cell? ⟨w.heap.size, 0, none⟩ = some (.int .i64 n) ∧ w'.cell? ⟨w.heap.size, 1, none⟩ = some (.int .i64 d) ∧ w'.cell? ⟨w.heap.size, 2, none⟩ = some (.bool true)) (first | assumption | go_keep)
                  (first
                  | (go_at_call 34; refine (HTs.out _).mono ?_; rintro e w7 ⟨rfl, b7⟩; have A7 := A6.drew.keep b7; have B7 := bup B6.drew b7; have S7 := And.intro A7.2.1 (And.intro A7.2.2.1 A7.2.2.2))
                  | (go_at_call 36; refine (HRk.out _).mono ?_; rintro e w8 ⟨rfl, b8⟩; have A8 := A7.keep b8; have B8 := bup B7 b8; have S8 := And.intro A8.2.1 (And.intro A8.2.2.1 A8.2.2.2))
                  | (go_at_call 28; refine (HNk.out _).mono ?_; rintro e w9 ⟨rfl, b9⟩; have A9 := A8.keep b9; have B9 := bup B8 b9; have S9 := And.intro A9.2.1 (And.intro A9.2.2.1 A9.2.2.2)))
                all_goals (go_wp2_with fail; go_roundw)
                case rel => exact ⟨k + 1, v, by go_num, rfl, by have := HB.out; omega, .inr ⟨by omega, fun x => HV2.out.2 ⟨x.1, by have := x.2; omega⟩, by have := HV2.out.1; omega⟩, A9, B9⟩
                case measure => have := HB.out; simp [intOf]; omega
            · have c6 : ((s : Int) == 0) = false := by rw [beq_eq_false_iff_ne]; omega
              rcases HL3 with rfl | ⟨l0, l1, l2⟩
              · clear c3
                go_wp2_with fail
                go_region_held3 (fun w' => w'.cell? ⟨w.heap.size, 0, none⟩ = some (.int .i64 n) ∧ w'.cell? ⟨w.heap.size, 1, none⟩ = some (.int .i64 d) ∧ w'.cell? ⟨w.heap.size, 2, none⟩ = some (.bool true)) (first | assumption | go_keep)
                  (first
                  | (go_at_call 34; refine (HTs.out _).mono ?_; rintro e w7 ⟨rfl, b7⟩; have A7 := A6.drew.keep b7; have B7 := bup B6.drew b7; have S7 := And.intro A7.2.1 (And.intro A7.2.2.1 A7.2.2.2))
                  | (go_at_call 36; refine (HRk.out _).mono ?_; rintro e w8 ⟨rfl, b8⟩; have A8 := A7.keep b8; have B8 := bup B7 b8; have S8 := And.intro A8.2.1 (And.intro A8.2.2.1 A8.2.2.2))
                  | (go_at_call 28; refine (HNk.out _).mono ?_; rintro e w9 ⟨rfl, b9⟩; have A9 := A8.keep b9; have B9 := bup B8 b9; have S9 := And.intro A9.2.1 (And.intro A9.2.2.1 A9.2.2.2)))
                all_goals (go_wp2_with fail; go_roundw)
                case rel => exact ⟨k + 1, v, by go_num, rfl, by have := HB.out; omega, .inr ⟨by omega, fun x => HV2.out.2 ⟨x.1, by have := x.2; omega⟩, by have := HV2.out.1; omega⟩, A9, B9⟩
                case measure => have := HB.out; simp [intOf]; omega
              · have l3 : (0 : Int) < (k : Int) := by omega
                have l4 : (v != lv + 1) = false := by rw [l2]; simp
                have l5 : (v != v) = false := by simp
                clear c3
                go_wp2_with fail
                go_region_held3 (fun w' => w'.cell? ⟨w.heap.size, 0, none⟩ = some (.int .i64 n) ∧ w'.cell? ⟨w.heap.size, 1, none⟩ = some (.int .i64 d) ∧ w'.cell? ⟨w.heap.size, 2, none⟩ = some (.bool true)) (first | assumption | go_keep)
                  (first
                  | (go_at_call 34; refine (HTs.out _).mono ?_; rintro e w7 ⟨rfl, b7⟩; have A7 := A6.drew.keep b7; have B7 := bup B6.drew b7; have S7 := And.intro A7.2.1 (And.intro A7.2.2.1 A7.2.2.2))
                  | (go_at_call 36; refine (HRk.out _).mono ?_; rintro e w8 ⟨rfl, b8⟩; have A8 := A7.keep b8; have B8 := bup B7 b8; have S8 := And.intro A8.2.1 (And.intro A8.2.2.1 A8.2.2.2))
                  | (go_at_call 28; refine (HNk.out _).mono ?_; rintro e w9 ⟨rfl, b9⟩; have A9 := A8.keep b9; have B9 := bup B8 b9; have S9 := And.intro A9.2.1 (And.intro A9.2.2.1 A9.2.2.2)))
                all_goals (go_wp2_with fail; go_roundw)
                case rel => exact ⟨k + 1, v, by go_num, rfl, by have := HB.out; omega, .inr ⟨by omega, fun x => HV2.out.2 ⟨x.1, by have := x.2; omega⟩, by have := HV2.out.1; omega⟩, A9, B9⟩
                case measure => have := HB.out; simp [intOf]; omega
        · have c2i : (f : Int) ≤ (k : Int) := by omega
          by_cases c7 : s < 1
          · have HSs := HSs.out
            rw [if_pos c7] at HSs
            have HSs := hideR HSs
            go_wp2_with fail
            go_at_call 35
            refine (HSs.out _).mono ?_
            rintro e w7 ⟨rfl, hw7⟩
            obtain rfl := hw7.symm
            go_wp2_with fail
            go_roundw
            case rel => exact ⟨s + 1, by go_num, rfl, by omega, A6, B6⟩
            case measure => simp [intOf]; omega
          · have HSs := HSs.out
            rw [if_neg c7] at HSs
            have HSs := hideR HSs
            go_wp2_with fail
            go_at_call 35
            refine (HSs.out _).mono ?_
            rintro e w7 ⟨rfl, hw7⟩
            obtain rfl := hw7.symm
            go_wp2_with fail
            go_roundw
            case rel => exact ⟨s + 19, by go_num, rfl, by omega, A6, B6⟩
            case measure => simp [intOf]; omega
    · have ci : (60 : Int) ≤ (s : Int) := by omega
      go_wp2_with fail
      go_ret
      exact ⟨rfl, B5⟩
set_option maxRecDepth 100000 in
set_option maxHeartbeats 4000000 in
theorem minute_t1 (n d tn D base : Int) (M p q f : Nat) (wide : Bool) (x1 x2 y1 y2 y3 : ByteArray) (T R U V : Nat → ByteArray) (Y : Nat → Nat → ByteArray) (hn : 1 ≤ n ∧ n ≤ 240000) (hd : 1 ≤ d ∧ d ≤ 1001) (hf : (n + d - 1) / d = (f : Int)) (hf2 : 1 ≤ f ∧ f ≤ 240) (hM : M < 2700) (hp : (M : Int) / 60 = (p : Int)) (hq : (M : Int) % 60 = (q : Int)) (hw : decide ((100 : Int) < (f : Int)) = wide) (hb : Hid (0 ≤ base ∧ base ≤ 100000000000)) (hD : (f : Int) / 15 = D) (hz : ((M : Int) % 10 != 0) = true) (w : World)
    (HK : ∀ w0, Below w.heap.size w w0 → Calls Tryd.prog 15 #[] w0 fun e w' => e = .returned (.bool true) ∧ Below w0.heap.size w0 w')
    (HC : ∀ w, Calls Tryd.prog 21 #[.agg #[.int .i64 n, .int .i64 d, .bool true]] w fun e w' => e = .returned (.int .i64 0) ∧ Below w.heap.size w w')
    (HW : ∀ w, Calls Tryd.prog 33 #[.int .i64 tn, .int .i64 2700] w fun e w' => e = .returned (.int .i64 (M : Nat)) ∧ w' = w)
    (H1 : ∀ w, Calls Tryd.prog 34 #[.int .i64 (p : Nat)] w fun e w' => e = .returned (.string x1) ∧ Below w.heap.size w w')
    (H2 : ∀ w, Calls Tryd.prog 34 #[.int .i64 (q : Nat)] w fun e w' => e = .returned (.string x2) ∧ Below w.heap.size w w')
    (HT : ∀ s : Nat, s < 60 → ∀ w, Calls Tryd.prog 34 #[.int .i64 (s : Nat)] w fun e w' => e = .returned (.string (T s)) ∧ Below w.heap.size w w')
    (HR : ∀ k : Nat, k < f → ∀ w, Calls Tryd.prog 36 #[.int .i64 (k : Nat), .bool wide] w fun e w' => e = .returned (.string (R k)) ∧ Below w.heap.size w w')
    (HS : ∀ s : Nat, s < 60 → ∀ w, Calls Tryd.prog 35 #[.int .i64 (s : Nat)] w fun e w' => e = .returned (.int .i64 (if s < 1 then 0 else 18)) ∧ w' = w)
    (HN : ∀ s k : Nat, s < 60 → k < f → ∀ w, Calls Tryd.prog 28 #[.agg #[.int .i64 n, .int .i64 d, .bool true], .string (Y s k)] w fun e w' => e = .returned (.tuple #[.int .i64 (if s = 0 ∧ (k : Int) < D then 0 else base + (s : Int) * f + k), .int .i64 (if s = 0 ∧ (k : Int) < D then 15 else 0)]) ∧ Below w.heap.size w w')
    (d1 : ∀ w, (Op.stringOp .add x1 ⟨#[58]⟩).run Tryd.prog w = .ok (.string y1) w)
    (d2 : ∀ w, (Op.stringOp .add y1 x2).run Tryd.prog w = .ok (.string y2) w)
    (d3 : ∀ w, (Op.stringOp .add y2 ⟨#[58]⟩).run Tryd.prog w = .ok (.string y3) w)
    (d4 : ∀ s : Nat, s < 60 → ∀ w, (Op.stringOp .add y3 (T s)).run Tryd.prog w = .ok (.string (U s)) w)
    (d5 : ∀ s : Nat, s < 60 → ∀ w, (Op.stringOp .add (U s) ⟨#[59]⟩).run Tryd.prog w = .ok (.string (V s)) w)
    (d6 : ∀ s k : Nat, s < 60 → k < f → ∀ w, (Op.stringOp .add (V s) (R k)).run Tryd.prog w = .ok (.string (Y s k)) w) :
    Calls Tryd.prog 12 #[.agg #[.int .i64 n, .int .i64 d, .bool true], .int .i64 tn] w fun e w' => e = .returned (.bool true) ∧ Below w.heap.size w w' := by
  have HK := hideR HK
  have HC := hideR HC
  have HW := hideR HW
  have H1 := hideR H1
  have H2 := hideR H2
  have HT := hideR HT
  have HR := hideR HR
  have HS := hideR HS
  have HN := hideR HN
  have d4 := hideR d4
  have d5 := hideR d5
  have d6 := hideR d6
  have zf : ∀ w, (Op.intDiv .quo .i64 (n + d - 1) d).run Tryd.prog w = .ok (.int .i64 (f : Int)) w := fun w => by
    unfold Op.intDiv
    rw [if_neg (by omega), Int.tdiv_eq_ediv_of_nonneg (by omega), hf]
    exact congrArg (fun z => Result.ok (Value.int .i64 z) w) (by rw [IntKind.wrap_i64]; omega)
  have hp2 : (M : Int).tdiv 60 = (p : Int) := by rw [Int.tdiv_eq_ediv_of_nonneg (by omega), hp]
  have hq7 : (M : Int).tmod 60 = (q : Int) := by rw [Int.tmod_eq_emod_of_nonneg (by omega), hq]
  have wk1 : IntKind.i64.wrap (p : Int) = (p : Int) := by rw [IntKind.wrap_i64]; omega
  have hw2 : decide (100 < f) = wide := by rw [← hw]; exact decide_eq_decide.2 (by omega)
  have hz2 : ((M : Int).tmod 10 != 0) = true := by rw [Int.tmod_eq_emod_of_nonneg (by omega), hz]
  go_enter Tryd.func12, Tryd.ntmps12
  go_wp2_with fail
  go_at_call 15
  refine (HK.out _ (bel1 w _)).mono ?_
  rintro e w1 ⟨rfl, b1⟩
  have A1 := ((RateAt.new w n d true).keep b1)
  have B1 := bup (bel1 w _) b1
  clear b1
  obtain ⟨_, a0, a1, a2⟩ := id A1
  go_wp2_with fail
  go_at_call 21
  refine (HC.out _).mono ?_
  rintro e w2 ⟨rfl, b2⟩
  have A2 := (A1.keep b2)
  have B2 := bup B1 b2
  clear A1 B1 a0 a1 a2
  clear b2
  obtain ⟨_, a0, a1, a2⟩ := id A2
  go_wp2_with fail
  go_at_call 33
  refine (HW.out _).mono ?_
  rintro e w3 ⟨rfl, hwx⟩
  obtain rfl := hwx.symm
  go_wp2_with fail
  simp only [hf]
  go_at_call 34
  refine (H1.out _).mono ?_
  rintro e w3 ⟨rfl, b3⟩
  have A3 := A2.keep b3
  have B3 := bup B2 b3
  clear b3
  go_wp2_with fail
  go_at_call 34
  refine (H2.out _).mono ?_
  rintro e w4 ⟨rfl, b4⟩
  have A4 := A3.keep b4
  have B4 := bup B3 b4
  clear b4
  go_wp2_with fail
  clear a0 a1 a2
  clear HK HC HW H1 H2 d1 d2 d3 A2 B2 A3 B3
  go_loopw [11, 10] (fun vs vl wr => ∃ s : Nat, vs = .int .i64 s ∧ vl = .int .i64 (-1) ∧ s ≤ 90 ∧ RateAt wr w.heap.size n d true ∧ Below w.heap.size w wr) (fun vs _ _ => 100 - (intOf vs).toNat)
  case atStart => exact ⟨0, rfl, rfl, by omega, A4, B4⟩
  case round =>
    clear A4 B4
    obtain ⟨s, rfl, rfl, hs, A5, B5⟩ := hrel
    by_cases c : s < 60
    · have ci : (s : Int) < 60 := by omega
      have HTs := hideR (HT.out s c)
      have HSs := hideR (HS.out s c)
      have D4 := d4.out s c
      have D5 := d5.out s c
      have D6 := hideR (fun k hk => d6.out s k c hk)
      have HNs := hideR (fun k hk => HN.out s k c hk)
      clear HT HS d4 d5 d6 HN
      go_wp2_with fail
      go_loopw [12, 10] (fun vk vl wr => ∃ (k : Nat) (lv : Int), vk = .int .i64 k ∧ vl = .int .i64 lv ∧ k ≤ f ∧ Hid (lv = -1 ∨ (1 ≤ k ∧ ¬ (s = 0 ∧ (k : Int) ≤ D) ∧ lv = base + (s : Int) * f + ((k : Int) - 1))) ∧ RateAt wr w.heap.size n d true ∧ Below w.heap.size w wr) (fun vk _ _ => f - (intOf vk).toNat)
      case atStart => exact ⟨0, -1, rfl, rfl, by omega, .inl rfl, A5, B5⟩
      case round =>
        clear A5 B5
        obtain ⟨k, lv, rfl, rfl, hk, HL, A6, B6⟩ := hrel
        obtain ⟨_, a0, a1, a2⟩ := id A6
        by_cases c2 : k < f
        · have c2i : (k : Int) < (f : Int) := by omega
          have HRk := hideR (HR.out k c2)
          have D6k := D6.out k c2
          have HNk := HNs.out k c2
          have wks : IntKind.i64.wrap (s : Int) = (s : Int) := by rw [IntKind.wrap_i64]; omega
          have wkk : IntKind.i64.wrap (k : Int) = (k : Int) := by rw [IntKind.wrap_i64]; omega
          have S6 := And.intro A6.2.1 (And.intro A6.2.2.1 A6.2.2.2)
          have HB := hideR (And.intro hk c2)
          by_cases c3 : s = 0 ∧ (k : Int) < D
          · obtain ⟨c5, c4⟩ := c3
            rw [if_pos ⟨c5, c4⟩, if_pos ⟨c5, c4⟩] at HNk
            have HNk := hideR HNk
            have HL2 : Hid (lv = -1) := by
              rcases HL.out with x | x
              · exact x
              · exact absurd ⟨c5, Int.le_of_lt c4⟩ x.2.1
            have c7 : ((s : Int) == 0) = true := by rw [c5]; rfl
            clear HL hk c2 c5
            go_wp2_with fail
            go_region_held3 (fun w' => w'.cell? ⟨w.heap.size, 0, none⟩ = some (.int .i64 n) ∧ w'.cell? ⟨w.heap.size, 1, none⟩ = some (.int .i64 d) ∧ w'.cell? ⟨w.heap.size, 2, none⟩ = some (.bool true)) (first | assumption | go_keep)
              (first
              | (go_at_call 34; refine (HTs.out _).mono ?_; rintro e w7 ⟨rfl, b7⟩; have A7 := A6.drew.keep b7; have B7 := bup B6.drew b7; have S7 := And.intro A7.2.1 (And.intro A7.2.2.1 A7.2.2.2))
              | (go_at_call 36; refine (HRk.out _).mono ?_; rintro e w8 ⟨rfl, b8⟩; have A8 := A7.keep b8; have B8 := bup B7 b8; have S8 := And.intro A8.2.1 (And.intro A8.2.2.1 A8.2.2.2))
              | (go_at_call 28; refine (HNk.out _).mono ?_; rintro e w9 ⟨rfl, b9⟩; have A9 := A8.keep b9; have B9 := bup B8 b9; have S9 := And.intro A9.2.1 (And.intro A9.2.2.1 A9.2.2.2)))
            all_goals (go_wp2_with fail; go_roundw)
            case rel => exact ⟨k + 1, lv, by go_num, rfl, by have := HB.out; omega, .inl HL2.out, A9, B9⟩
            case measure => have := HB.out; simp [intOf]; omega
          · rw [if_neg c3, if_neg c3] at HNk
            have HNk := hideR HNk
            have v0 : 0 ≤ base + (s : Int) * f + k ∧ base + (s : Int) * f + k ≤ 200000000000 := by
              have := hb.out
              have x0 : 0 ≤ (s : Int) * f := Int.mul_nonneg (by omega) (by omega)
              have x1 : (s : Int) * f ≤ 60 * 240 := Int.mul_le_mul (by omega) (by omega) (by omega) (by omega)
              omega
            obtain ⟨v, hv⟩ : ∃ v, base + (s : Int) * f + k = v := ⟨_, rfl⟩
            rw [hv] at HNk v0
            have HV2 := hideR (And.intro hv c3)
            have HL3 : lv = -1 ∨ (0 ≤ lv ∧ 1 ≤ k ∧ lv + 1 = v) := by
              rcases HL.out with x | x
              · exact .inl x
              · have := hb.out
                have x0 : 0 ≤ (s : Int) * f := Int.mul_nonneg (by omega) (by omega)
                exact .inr ⟨by omega, x.1, by omega⟩
            clear hv HL hk c2
            by_cases c5 : s = 0
            · have c6 : D ≤ (k : Int) := Int.le_of_not_gt fun x => c3 ⟨c5, x⟩
              have c7 : ((s : Int) == 0) = true := by rw [c5]; rfl
              clear c5
              rcases HL3 with rfl | ⟨l0, l1, l2⟩
              · clear c3
                go_wp2_with fail
                go_region_held3 (fun w' => w'.cell? ⟨w.heap.size, 0, none⟩ = some (.int .i64 n) ∧ w'.cell? ⟨w.heap.size, 1, none⟩ = some (.int .i64 d) ∧ w'.cell? ⟨w.heap.size, 2, none⟩ = some (.bool true)) (first | assumption | go_keep)
                  (first
                  | (go_at_call 34; refine (HTs.out _).mono ?_; rintro e w7 ⟨rfl, b7⟩; have A7 := A6.drew.keep b7; have B7 := bup B6.drew b7; have S7 := And.intro A7.2.1 (And.intro A7.2.2.1 A7.2.2.2))
                  | (go_at_call 36; refine (HRk.out _).mono ?_; rintro e w8 ⟨rfl, b8⟩; have A8 := A7.keep b8; have B8 := bup B7 b8; have S8 := And.intro A8.2.1 (And.intro A8.2.2.1 A8.2.2.2))
                  | (go_at_call 28; refine (HNk.out _).mono ?_; rintro e w9 ⟨rfl, b9⟩; have A9 := A8.keep b9; have B9 := bup B8 b9; have S9 := And.intro A9.2.1 (And.intro A9.2.2.1 A9.2.2.2)))
                all_goals (go_wp2_with fail; go_roundw)
                case rel => exact ⟨k + 1, v, by go_num, rfl, by have := HB.out; omega, .inr ⟨by omega, fun x => HV2.out.2 ⟨x.1, by have := x.2; omega⟩, by have := HV2.out.1; omega⟩, A9, B9⟩
                case measure => have := HB.out; simp [intOf]; omega
              · have l3 : (0 : Int) < (k : Int) := by omega
                have l4 : (v != lv + 1) = false := by rw [l2]; simp
                have l5 : (v != v) = false := by simp
                clear c3
                go_wp2_with fail
                go_region_held3 (fun w' => w'.cell? ⟨w.heap.size, 0, none⟩ = some (.int .i64 n) ∧ w'.cell? ⟨w.heap.size, 1, none⟩ = some (.int .i64 d) ∧ w'.cell? ⟨w.heap.size, 2, none⟩ = some (.bool true)) (first | assumption | go_keep)
                  (first
                  | (go_at_call 34; refine (HTs.out _).mono ?_; rintro e w7 ⟨rfl, b7⟩; have A7 := A6.drew.keep b7; have B7 := bup B6.drew b7; have S7 := And.intro A7.2.1 (And.intro A7.2.2.1 A7.2.2.2))
                  | (go_at_call 36; refine (HRk.out _).mono ?_; rintro e w8 ⟨rfl, b8⟩; have A8 := A7.keep b8; have B8 := bup B7 b8; have S8 := And.intro A8.2.1 (And.intro A8.2.2.1 A8.2.2.2))
                  | (go_at_call 28; refine (HNk.out _).mono ?_; rintro e w9 ⟨rfl, b9⟩; have A9 := A8.keep b9; have B9 := bup B8 b9; have S9 := And.intro A9.2.1 (And.intro A9.2.2.1 A9.2.2.2)))
                all_goals (go_wp2_with fail; go_roundw)
                case rel => exact ⟨k + 1, v, by go_num, rfl, by have := HB.out; omega, .inr ⟨by omega, fun x => HV2.out.2 ⟨x.1, by have := x.2; omega⟩, by have := HV2.out.1; omega⟩, A9, B9⟩
                case measure => have := HB.out; simp [intOf]; omega
            · have c6 : ((s : Int) == 0) = false := by rw [beq_eq_false_iff_ne]; omega
              rcases HL3 with rfl | ⟨l0, l1, l2⟩
              · clear c3
                go_wp2_with fail
                go_region_held3 (fun w' => w'.cell? ⟨w.heap.size, 0, none⟩ = some (.int .i64 n) ∧ w'.cell? ⟨w.heap.size, 1, none⟩ = some (.int .i64 d) ∧ w'.cell? ⟨w.heap.size, 2, none⟩ = some (.bool true)) (first | assumption | go_keep)
                  (first
                  | (go_at_call 34; refine (HTs.out _).mono ?_; rintro e w7 ⟨rfl, b7⟩; have A7 := A6.drew.keep b7; have B7 := bup B6.drew b7; have S7 := And.intro A7.2.1 (And.intro A7.2.2.1 A7.2.2.2))
                  | (go_at_call 36; refine (HRk.out _).mono ?_; rintro e w8 ⟨rfl, b8⟩; have A8 := A7.keep b8; have B8 := bup B7 b8; have S8 := And.intro A8.2.1 (And.intro A8.2.2.1 A8.2.2.2))
                  | (go_at_call 28; refine (HNk.out _).mono ?_; rintro e w9 ⟨rfl, b9⟩; have A9 := A8.keep b9; have B9 := bup B8 b9; have S9 := And.intro A9.2.1 (And.intro A9.2.2.1 A9.2.2.2)))
                all_goals (go_wp2_with fail; go_roundw)
                case rel => exact ⟨k + 1, v, by go_num, rfl, by have := HB.out; omega, .inr ⟨by omega, fun x => HV2.out.2 ⟨x.1, by have := x.2; omega⟩, by have := HV2.out.1; omega⟩, A9, B9⟩
                case measure => have := HB.out; simp [intOf]; omega
              · have l3 : (0 : Int) < (k : Int) := by omega
                have l4 : (v != lv + 1) = false := by rw [l2]; simp
                have l5 : (v != v) = false := by simp
                clear c3
                go_wp2_with fail
                go_region_held3 (fun w' => w'.cell? ⟨w.heap.size, 0, none⟩ = some (.int .i64 n) ∧ w'.cell? ⟨w.heap.size, 1, none⟩ = some (.int .i64 d) ∧ w'.cell? ⟨w.heap.size, 2, none⟩ = some (.bool true)) (first | assumption | go_keep)
                  (first
                  | (go_at_call 34; refine (HTs.out _).mono ?_; rintro e w7 ⟨rfl, b7⟩; have A7 := A6.drew.keep b7; have B7 := bup B6.drew b7; have S7 := And.intro A7.2.1 (And.intro A7.2.2.1 A7.2.2.2))
                  | (go_at_call 36; refine (HRk.out _).mono ?_; rintro e w8 ⟨rfl, b8⟩; have A8 := A7.keep b8; have B8 := bup B7 b8; have S8 := And.intro A8.2.1 (And.intro A8.2.2.1 A8.2.2.2))
                  | (go_at_call 28; refine (HNk.out _).mono ?_; rintro e w9 ⟨rfl, b9⟩; have A9 := A8.keep b9; have B9 := bup B8 b9; have S9 := And.intro A9.2.1 (And.intro A9.2.2.1 A9.2.2.2)))
                all_goals (go_wp2_with fail; go_roundw)
                case rel => exact ⟨k + 1, v, by go_num, rfl, by have := HB.out; omega, .inr ⟨by omega, fun x => HV2.out.2 ⟨x.1, by have := x.2; omega⟩, by have := HV2.out.1; omega⟩, A9, B9⟩
                case measure => have := HB.out; simp [intOf]; omega
        · have c2i : (f : Int) ≤ (k : Int) := by omega
          by_cases c7 : s < 1
          · have HSs := HSs.out
            rw [if_pos c7] at HSs
            have HSs := hideR HSs
            go_wp2_with fail
            go_at_call 35
            refine (HSs.out _).mono ?_
            rintro e w7 ⟨rfl, hw7⟩
            obtain rfl := hw7.symm
            go_wp2_with fail
            go_roundw
            case rel => exact ⟨s + 1, by go_num, rfl, by omega, A6, B6⟩
            case measure => simp [intOf]; omega
          · have HSs := HSs.out
            rw [if_neg c7] at HSs
            have HSs := hideR HSs
            go_wp2_with fail
            go_at_call 35
            refine (HSs.out _).mono ?_
            rintro e w7 ⟨rfl, hw7⟩
            obtain rfl := hw7.symm
            go_wp2_with fail
            go_roundw
            case rel => exact ⟨s + 19, by go_num, rfl, by omega, A6, B6⟩
            case measure => simp [intOf]; omega
    · have ci : (60 : Int) ≤ (s : Int) := by omega
      go_wp2_with fail
      go_ret
      exact ⟨rfl, B5⟩
set_option maxRecDepth 100000 in
theorem within59_any (s : Nat) (hs : s < 60) (w : World) :
    Calls Tryd.prog 35 #[.int .i64 (s : Nat)] w fun e w' => e = .returned (.int .i64 (if s < 1 then 0 else 18)) ∧ w' = w := by
  by_cases c : s < 1
  · rw [if_pos c]
    have ci : (s : Int) < 1 := by omega
    clear hs
    go_enter Tryd.func35, Tryd.ntmps35
    go_wp2_with fail
    go_ret
    exact ⟨rfl, rfl⟩
  · rw [if_neg c]
    have ci : (1 : Int) ≤ (s : Int) := by omega
    clear hs
    go_enter Tryd.func35, Tryd.ntmps35
    go_wp2_with fail
    go_ret
    exact ⟨rfl, rfl⟩
theorem sum_run5 (a b : List UInt8) (h : a.length + b.length ≤ 1000) (w : World) : (Op.stringOp .add (bs a) (bs b)).run Tryd.prog w = .ok (.string (bs (a ++ b))) w := by
  have := run_string_add_sum (P := Tryd.prog) w (bs a) (bs b) (by rw [bs_size, bs_size]; omega)
  rw [bs_append] at this
  exact this
theorem minute_num (n d : Int) (dr : Bool) (h : checkI n d dr = 0) (f : Nat) (hf : fullI n d = f) (l : Int) (hl : (if dr = true then leftI n d else 0) = l) (M s k : Nat) (hM : M < 3000) (hs : s < 60) (hk : k < f) (D : Int) (hD : (M % 10 ≠ 0 → D = l) ∧ (M % 10 = 0 → D = 0)) :
    numF n d dr (partsL dr (if 100 < fullI n d then 3 else 2) M s k) = (if s = 0 ∧ (k : Int) < D then 0 else ((M * 60 : Nat) : Int) * f - l * ((M : Int) - (M / 10 : Nat)) + (s : Int) * f + k, if s = 0 ∧ (k : Int) < D then 15 else 0) := by
  rw [parts_num n d dr h f hf l hl M s k hM hs hk]
  obtain ⟨n1, d1, _, nd, hF⟩ := full_ok n d dr h
  have le := left_eq h
  rw [hl, hf] at le
  have lf1 : l ≤ f := by
    rw [← le]
    split <;> omega
  have e : (M % 10 ≠ 0 ∧ (s : Int) * f + k < l) ↔ (s = 0 ∧ (k : Int) < D) := by
    constructor
    · rintro ⟨a, b⟩
      have s0 : s = 0 := by
        refine Nat.eq_zero_of_not_pos fun y => ?_
        have : 1 * (f : Int) ≤ (s : Int) * f := Int.mul_le_mul_of_nonneg_right (by omega) (by omega)
        omega
      subst s0
      refine ⟨rfl, ?_⟩
      rw [hD.1 a]
      simpa using b
    · rintro ⟨rfl, b⟩
      by_cases c : M % 10 = 0
      · rw [hD.2 c] at b
        omega
      · rw [hD.1 c] at b
        exact ⟨c, by simpa using b⟩
  by_cases c : s = 0 ∧ (k : Int) < D
  · rw [if_pos (e.2 c), if_pos c, if_pos c]
  · rw [if_neg (fun x => c (e.1 x)), if_neg c, if_neg c]
    refine Prod.ext ?_ rfl
    show ((M * 60 + s : Nat) : Int) * f + k - l * ((M : Int) - (M / 10 : Nat)) = _
    rw [show ((M * 60 + s : Nat) : Int) * f = ((M * 60 : Nat) : Int) * f + (s : Int) * f by push_cast; rw [Int.add_mul]]
    omega
theorem minute5_any (n d : Int) (dr : Bool) (hn : I64 n) (hd : I64 d) (tn : Int) (_ht : I64 tn) (w : World) (hp : PowAt w) :
    Calls Tryd.prog 12 #[.agg #[.int .i64 n, .int .i64 d, .bool dr], .int .i64 tn] w fun e w' => e = .returned (.bool true) ∧ Below w.heap.size w w' := by
  have HK := fun (w0 : World) (b0 : Below w.heap.size w w0) => known5_any w0 (hp.keep b0)
  have HC := rcheck_any n d dr
  by_cases h : checkI n d dr = 0
  · rw [h] at HC
    obtain ⟨n1, d1, _, nd, hF⟩ := full_ok n d dr h
    have f1 := hF.1
    have f2 := hF.2.1
    obtain ⟨f, hf⟩ := Int.eq_ofNat_of_zero_le (show 0 ≤ fullI n d by omega)
    have m0 := Int.emod_nonneg tn (show (2700 : Int) ≠ 0 by omega)
    have m1 := Int.emod_lt_of_pos tn (show (0 : Int) < 2700 by omega)
    obtain ⟨M, hM⟩ := Int.eq_ofNat_of_zero_le m0
    have HW := within_any tn 2700 (by omega)
    rw [hM] at HW m1
    obtain ⟨dg, hdg⟩ : ∃ dg : Nat, (if 100 < fullI n d then 3 else 2) = dg := ⟨_, rfl⟩
    have dg1 : 1 ≤ dg ∧ dg ≤ 3 := by rw [← hdg]; split <;> omega
    have dg2 : f ≤ 10 ^ dg := by rw [← hdg]; split <;> omega
    have dge : (if decide ((100 : Int) < (f : Int)) = true then 3 else 2 : Nat) = dg := by
      rw [← hdg, hf]
      by_cases c : (100 : Int) < (f : Int)
      · rw [if_pos (decide_eq_true c), if_pos c]
      · rw [if_neg (by simpa using c), if_neg c]
    have H1 := two_any (M / 60) (by omega)
    have H2 := two_any (M % 60) (by omega)
    have HT : ∀ s : Nat, s < 60 → ∀ w, Calls Tryd.prog 34 #[.int .i64 (s : Nat)] w fun e w' => e = .returned (.string (bs (padL s 2))) ∧ Below w.heap.size w w' := fun s hs w => two_any s (by omega) w
    have HR : ∀ k : Nat, k < f → ∀ w, Calls Tryd.prog 36 #[.int .i64 (k : Nat), .bool (decide ((100 : Int) < (f : Int)))] w fun e w' => e = .returned (.string (bs (padL k dg))) ∧ Below w.heap.size w w' := fun k hk w => by
      have := three_any k (decide ((100 : Int) < (f : Int))) (by omega) (fun x => by have := of_decide_eq_false x; omega) w
      rw [dge] at this
      exact this
    have HS := fun (s : Nat) (hs : s < 60) w => within59_any s hs w
    have a1 := pad_two (M / 60) (by omega)
    have a2 := pad_two (M % 60) (by omega)
    have a3 : ∀ s : Nat, s < 60 → (padL s 2).length = 2 := fun s hs => pad_two s (by omega)
    have a4 : ∀ k : Nat, k < f → (padL k dg).length = dg := fun k hk => pad_dg k dg dg1.1 (by omega)
    have q1 := sum_run5 (padL (M / 60) 2) [58] (by simp only [List.length_cons, List.length_nil]; omega)
    have q2 := sum_run5 (padL (M / 60) 2 ++ [58]) (padL (M % 60) 2) (by simp only [List.length_append, List.length_cons, List.length_nil]; omega)
    have q3 := sum_run5 (padL (M / 60) 2 ++ [58] ++ padL (M % 60) 2) [58] (by simp only [List.length_append, List.length_cons, List.length_nil]; omega)
    have q4 := fun (s : Nat) (hs : s < 60) => sum_run5 (padL (M / 60) 2 ++ [58] ++ padL (M % 60) 2 ++ [58]) (padL s 2) (by have := a3 s hs; simp only [List.length_append, List.length_cons, List.length_nil]; omega)
    have q5 := fun (s : Nat) (hs : s < 60) => sum_run5 (padL (M / 60) 2 ++ [58] ++ padL (M % 60) 2 ++ [58] ++ padL s 2) [if dr = true then 59 else 58] (by have := a3 s hs; simp only [List.length_append, List.length_cons, List.length_nil]; omega)
    have q6 := fun (s k : Nat) (hs : s < 60) (hk : k < f) => sum_run5 (padL (M / 60) 2 ++ [58] ++ padL (M % 60) 2 ++ [58] ++ padL s 2 ++ [if dr = true then 59 else 58]) (padL k dg) (by have := a3 s hs; have := a4 k hk; simp only [List.length_append, List.length_cons, List.length_nil]; omega)
    obtain ⟨l, hl⟩ : ∃ l, (if dr = true then leftI n d else 0) = l := ⟨_, rfl⟩
    have le := left_eq h
    rw [hl, hf] at le
    rw [hl] at hF
    have l1 := hF.2.2.1
    have l2 := hF.2.2.2
    have b0 : 0 ≤ l * ((M : Int) - (M / 10 : Nat)) := Int.mul_nonneg l1 (by omega)
    have b1 : l * ((M : Int) - (M / 10 : Nat)) ≤ 4 * M := Int.mul_le_mul l2 (by omega) (by omega) (by omega)
    have b2 : ((M * 60 : Nat) : Int) * 1 ≤ ((M * 60 : Nat) : Int) * f := Int.mul_le_mul_of_nonneg_left (by omega) (by omega)
    have b3 : ((M * 60 : Nat) : Int) * f ≤ 162000 * 240 := Int.mul_le_mul (by omega) (by omega) (by omega) (by omega)
    have hb : Hid (0 ≤ ((M * 60 : Nat) : Int) * f - l * ((M : Int) - (M / 10 : Nat)) ∧ ((M * 60 : Nat) : Int) * f - l * ((M : Int) - (M / 10 : Nat)) ≤ 100000000000) := hideR ⟨by omega, by omega⟩
    have HN : ∀ D : Int, ((M % 10 ≠ 0 → D = l) ∧ (M % 10 = 0 → D = 0)) → ∀ s k : Nat, s < 60 → k < f → ∀ w, Calls Tryd.prog 28 #[.agg #[.int .i64 n, .int .i64 d, .bool dr], .string (bs (padL (M / 60) 2 ++ [58] ++ padL (M % 60) 2 ++ [58] ++ padL s 2 ++ [if dr = true then 59 else 58] ++ padL k dg))] w fun e w' => e = .returned (.tuple #[.int .i64 (if s = 0 ∧ (k : Int) < D then 0 else ((M * 60 : Nat) : Int) * f - l * ((M : Int) - (M / 10 : Nat)) + (s : Int) * f + k), .int .i64 (if s = 0 ∧ (k : Int) < D then 15 else 0)]) ∧ Below w.heap.size w w' := by
      intro D hD s k hs hk w
      have pn := minute_num n d dr h f hf l hl M s k (by omega) hs hk D hD
      rw [hdg] at pn
      unfold partsL at pn
      have := cnum_any n d dr hn hd (padL (M / 60) 2 ++ [58] ++ padL (M % 60) 2 ++ [58] ++ padL s 2 ++ [if dr = true then 59 else 58] ++ padL k dg) (by have := a3 s hs; have := a4 k hk; simp only [List.length_append, List.length_cons, List.length_nil]; omega) w
      rw [pn] at this
      exact this
    have hfd : (n + d - 1) / d = (f : Int) := hf
    clear hM
    cases dr
    · simp only [Bool.false_eq_true, if_false] at HN q5 q6 le
      exact minute_f n d tn 0 _ M (M / 60) (M % 60) f _ _ _ _ _ _ _ _ _ _ _ n1 d1 hfd (by omega) (by omega) (by omega) (by omega) rfl hb rfl w HK HC HW H1 H2 HT HR HS (HN 0 ⟨fun _ => le, fun _ => rfl⟩) q1 q2 q3 q4 q5 q6
    · simp only [if_true] at HN q5 q6 le
      by_cases c : M % 10 = 0
      · exact minute_t0 n d tn 0 _ M (M / 60) (M % 60) f _ _ _ _ _ _ _ _ _ _ _ n1 d1 hfd (by omega) (by omega) (by omega) (by omega) rfl hb rfl (by omega) w HK HC HW H1 H2 HT HR HS (HN 0 ⟨fun x => absurd c x, fun _ => rfl⟩) q1 q2 q3 q4 q5 q6
      · exact minute_t1 n d tn l _ M (M / 60) (M % 60) f _ _ _ _ _ _ _ _ _ _ _ n1 d1 hfd (by omega) (by omega) (by omega) (by omega) rfl hb le (by rw [bne_iff_ne]; omega) w HK HC HW H1 H2 HT HR HS (HN l ⟨fun _ => rfl, fun x => absurd x c⟩) q1 q2 q3 q4 q5 q6
  · rw [(check_two n d dr).resolve_left h] at HC
    exact minute_bad n d tn 14 dr rfl w HK HC
end Go.Proofs.YtaipdckakgohjaaDoor
