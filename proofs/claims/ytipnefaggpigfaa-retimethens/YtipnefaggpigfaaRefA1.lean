/- Contracts of surtitleref3's numbers of 128 bits with a sign: size, right, above, Times, Plus, Less, fits, number, common. -/
import Derived.Test.YtipnefaggpigfaaRatT
import Derived.Test.YtipnefaggpigfaaRatW9
namespace Go.Proofs.Ytipnefaggpigfaa
open Go.RowKit Go.Shelf
attribute [local go_sem] Oper.semAt_some

/-- A number with its sign apart, as the reference holds it. -/
def nv (z : Int) : Value := .agg #[.bool (decide (z < 0)), .int .u64 (hiZ (sz z)), .int .u64 (loZ (sz z))]

theorem rsize_any (k : Int) (h : I64 k) (w : World) :
    Calls Try.prog 79 #[.int .i64 k] w fun e w' => e = .returned (.int .u64 (sz k)) ∧ w' = w := by
  unfold I64 at h
  go_enter Try.func79, Try.ntmps79
  go_wp2
  · go_ret
    exact ⟨ret_int (by unfold sz; rw [IntKind.wrap_u64, IntKind.wrap_u64]; omega), rfl⟩
  · go_ret
    exact ⟨ret_int (by unfold sz; omega), rfl⟩

theorem rcommon_any (a b : Nat) (ha : a < 18446744073709551616) (hb : b < 18446744073709551616) (w : World) :
    Calls Try.prog 78 #[.int .u64 a, .int .u64 b] w fun e w' => e = .returned (.int .u64 (a.gcd b : Nat)) ∧ ∃ m, w' = w.drewN m := by
  go_enter Try.func78, Try.ntmps78
  go_wp2
  go_loopw [0, 1] (fun va vb wr => ∃ x y : Nat, va = .int .u64 x ∧ vb = .int .u64 y ∧ x < 18446744073709551616 ∧ y < 18446744073709551616 ∧ x.gcd y = a.gcd b ∧ ∃ m, wr = w.drewN m) (fun _ vb _ => (intOf vb).natAbs)
  case atStart => exact ⟨a, b, rfl, rfl, ha, hb, rfl, 0, rfl⟩
  case round =>
    obtain ⟨x, y, rfl, rfl, hx, hy, hg, m, hm⟩ := hrel
    have HG : Hid (x.gcd y = a.gcd b) := hg
    clear hg
    by_cases h0 : y = 0
    · subst h0
      go_wp2
      go_ret
      refine ⟨ret_int ?_, m, rfl⟩
      have := HG.out
      simp at this
      rw [this]
    · have hn : ((y : Int) != 0) = true := by simp; omega
      go_wp2
      go_region
      all_goals (try go_wp2)
      all_goals (
        go_roundw
        case rel =>
          refine ⟨y, x % y, rfl, by go_num, hy, by have := Nat.mod_lt x (show y > 0 by omega); omega, ?_, m + 1, rfl⟩
          rw [gcd_round x y]; exact HG.out
        case measure =>
          have := Nat.mod_lt x (show y > 0 by omega)
          simp [intOf]
          omega)

set_option maxRecDepth 100000 in
theorem rright_any (ng : Bool) (hi lo : Int) (w : World) :
    Calls Try.prog 81 #[.agg #[.bool ng, .int .u64 hi, .int .u64 lo]] w fun e w' => e = .returned (.agg #[.bool (ng && !(hi == 0 && lo == 0)), .int .u64 hi, .int .u64 lo]) ∧ Below w.heap.size w w' := by
  by_cases h1 : hi = 0
  · subst h1
    by_cases h2 : lo = 0
    · subst h2
      rw [show (ng && !((0 : Int) == 0 && (0 : Int) == 0)) = false by simp]
      go_enter Try.func81, Try.ntmps81
      go_wp2
      exact bodyPost_ret (v := .agg #[.bool false, .int .u64 0, .int .u64 0]) (by simp [results, Try.results81, go_sem]) rfl ⟨rfl, bel2 _ _ _⟩
    · have e2 : (lo == 0) = false := by simpa using h2
      rw [show (ng && !((0 : Int) == 0 && lo == 0)) = ng by simp [h2]]
      go_enter Try.func81, Try.ntmps81
      go_wp2
      exact bodyPost_ret (v := .agg #[.bool ng, .int .u64 0, .int .u64 lo]) (by simp [results, Try.results81, go_sem]) rfl ⟨rfl, bel2 _ _ _⟩
  · have e1 : (hi == 0) = false := by simpa using h1
    rw [show (ng && !(hi == 0 && lo == 0)) = ng by simp [h1]]
    go_enter Try.func81, Try.ntmps81
    go_wp2
    exact bodyPost_ret (v := .agg #[.bool ng, .int .u64 hi, .int .u64 lo]) (by simp [results, Try.results81, go_sem]) rfl ⟨rfl, bel2 _ _ _⟩

/-- A size and a sign as the number that they are. -/
def sgnQ (ng : Bool) (m : Int) : Int := if ng = true then -m else m
theorem nv_sgn (ng : Bool) (m : Int) (h0 : 0 ≤ m) (h1 : m < 340282366920938463463374607431768211456) :
    (.agg #[.bool (ng && !(hiZ m == 0 && loZ m == 0)), .int .u64 (hiZ m), .int .u64 (loZ m)] : Value) = nv (sgnQ ng m) := by
  have e1 : sz (sgnQ ng m) = m := by unfold sz sgnQ; split <;> omega
  have e2 : (ng && !(hiZ m == 0 && loZ m == 0)) = decide (sgnQ ng m < 0) := by
    have e3 : (hiZ m == 0 && loZ m == 0) = decide (m = 0) := by
      rw [Bool.eq_iff_iff]
      simp only [Bool.and_eq_true, beq_iff_eq, decide_eq_true_eq]
      unfold hiZ loZ
      omega
    rw [e3]
    unfold sgnQ
    cases ng
    · rw [Bool.false_and, if_neg (by simp), eq_comm, decide_eq_false_iff_not]
      omega
    · rw [Bool.true_and, if_pos rfl, Bool.eq_iff_iff]
      simp only [Bool.not_eq_true', decide_eq_false_iff_not, decide_eq_true_eq]
      omega
  unfold nv
  rw [e1, e2]
theorem right_sgn (ng : Bool) (m : Int) (h0 : 0 ≤ m) (h1 : m < 340282366920938463463374607431768211456) (w : World) :
    Calls Try.prog 81 #[.agg #[.bool ng, .int .u64 (hiZ m), .int .u64 (loZ m)]] w fun e w' => e = .returned (nv (sgnQ ng m)) ∧ Below w.heap.size w w' := by
  rw [← nv_sgn ng m h0 h1]
  exact rright_any ng _ _ w

theorem ret_bool {p q : Prop} [Decidable p] [Decidable q] (h : p ↔ q) : Ending.returned (.bool (decide p)) = .returned (.bool (decide q)) := by rw [decide_eq_decide.2 h]
set_option maxRecDepth 100000 in
theorem rabove_any (na nb : Bool) (ah al bh bl : Int) (w : World) :
    Calls Try.prog 86 #[.agg #[.bool na, .int .u64 ah, .int .u64 al], .agg #[.bool nb, .int .u64 bh, .int .u64 bl]] w fun e w' => e = .returned (.bool (decide (bh < ah ∨ (ah = bh ∧ bl < al)))) ∧ Below w.heap.size w w' := by
  go_enter Try.func86, Try.ntmps86
  go_wp2
  all_goals go_ret
  all_goals first | exact ⟨rfl, bel2 _ _ _⟩ | exact ⟨ret_bool (by omega), bel2 _ _ _⟩

theorem times_sign (a b : Int) : sgnQ (!decide (a < 0) == decide (b < 0)) (sz a * sz b) = a * b := by
  unfold sgnQ
  cases h : (decide (a < 0) != decide (b < 0))
  · rw [if_neg (by revert h; cases decide (a < 0) <;> cases decide (b < 0) <;> simp), sz_mul_same a b h]
  · rw [if_pos (by revert h; cases decide (a < 0) <;> cases decide (b < 0) <;> simp), sz_mul_other a b h]

set_option maxRecDepth 100000 in
set_option maxHeartbeats 1000000 in
theorem rtimes_any (a b : Int) (ha : I64 a) (hb : I64 b) (w : World) :
    Calls Try.prog 65 #[.int .i64 a, .int .i64 b] w fun e w' => e = .returned (nv (a * b)) ∧ Below w.heap.size w w' := by
  have H1 := hideR (rsize_any a ha)
  have H2 := hideR (rsize_any b hb)
  have ra := sz_range a ha
  have rb := sz_range b hb
  have hp0 : 0 ≤ sz a * sz b := Int.mul_nonneg ra.1 rb.1
  have hp1 : sz a * sz b ≤ 85070591730234615865843651857942052864 := by
    have := Int.mul_le_mul ra.2 rb.2 rb.1 (by omega)
    omega
  have HR := right_sgn (!decide (a < 0) == decide (b < 0)) (sz a * sz b) hp0 (by omega)
  rw [times_sign] at HR
  have HR := hideR HR
  obtain ⟨x, ex⟩ := Int.eq_ofNat_of_zero_le ra.1
  obtain ⟨y, ey⟩ := Int.eq_ofNat_of_zero_le rb.1
  rw [ex] at ra H1 hp1 hp0 HR
  rw [ey] at rb H2 hp1 hp0 HR
  have hx : x < 18446744073709551616 := by omega
  have hy : y < 18446744073709551616 := by omega
  obtain ⟨bd, bt, bw, hhi⟩ := Lib.mul64_hi x y hx hy
  have ba := Lib.half_mul_le (a := x / 4294967296) (b := y / 4294967296) (by omega) (by omega)
  have bb := Lib.half_mul_le (a := x / 4294967296) (b := y % 4294967296) (by omega) (by omega)
  have bc := Lib.half_mul_le (a := x % 4294967296) (b := y / 4294967296) (by omega) (by omega)
  have HX : Hid (IntKind.u64.wrap (IntKind.u64.wrap (IntKind.u64.wrap ((x : Int) / 4294967296 * ((y : Int) / 4294967296)) + IntKind.u64.wrap (IntKind.u64.wrap ((x : Int) / 4294967296 * bits BinOp.and IntKind.u64 (y : Int) 4294967295) + IntKind.u64.wrap (bits BinOp.and IntKind.u64 (x : Int) 4294967295 * bits BinOp.and IntKind.u64 (y : Int) 4294967295) / 4294967296) / 4294967296) + IntKind.u64.wrap (IntKind.u64.wrap (bits BinOp.and IntKind.u64 (x : Int) 4294967295 * ((y : Int) / 4294967296)) + bits BinOp.and IntKind.u64 (IntKind.u64.wrap (IntKind.u64.wrap ((x : Int) / 4294967296 * bits BinOp.and IntKind.u64 (y : Int) 4294967295) + IntKind.u64.wrap (bits BinOp.and IntKind.u64 (x : Int) 4294967295 * bits BinOp.and IntKind.u64 (y : Int) 4294967295) / 4294967296)) 4294967295) / 4294967296) = hiZ ((x : Int) * (y : Int))) := by
    have ba' : x / 4294967296 * (y / 4294967296) < 18446744073709551616 := by omega
    have bb' : x / 4294967296 * (y % 4294967296) < 18446744073709551616 := by omega
    have bc' : x % 4294967296 * (y / 4294967296) < 18446744073709551616 := by omega
    have bw' : x % 4294967296 * (y / 4294967296) + (x / 4294967296 * (y % 4294967296) + x % 4294967296 * (y % 4294967296) / 4294967296) % 4294967296 < 18446744073709551616 := by omega
    have hp : x * y / 18446744073709551616 < 18446744073709551616 := by
      have h1 : x * y < 18446744073709551616 * 18446744073709551616 := Nat.mul_lt_mul_of_lt_of_le hx (by omega) (by omega)
      exact (Nat.div_lt_iff_lt_mul (by omega)).2 h1
    rw [Nat.add_comm ((x / 4294967296 * (y % 4294967296) + x % 4294967296 * (y % 4294967296) / 4294967296) % 4294967296)] at hhi
    have bh1 : x / 4294967296 * (y / 4294967296) + (x / 4294967296 * (y % 4294967296) + x % 4294967296 * (y % 4294967296) / 4294967296) / 4294967296 < 18446744073709551616 := by omega
    have bh : x / 4294967296 * (y / 4294967296) + (x / 4294967296 * (y % 4294967296) + x % 4294967296 * (y % 4294967296) / 4294967296) / 4294967296 + (x % 4294967296 * (y / 4294967296) + (x / 4294967296 * (y % 4294967296) + x % 4294967296 * (y % 4294967296) / 4294967296) % 4294967296) / 4294967296 < 18446744073709551616 := by omega
    rw [Hid]
    simp only [Mul64.maskN x hx, Mul64.maskN y hy, Mul64.divN, Mul64.mulN, Mul64.addN, Mul64.wrapN _ bd, Mul64.wrapN _ bb', Mul64.wrapN _ bt, Mul64.maskN _ bt, Mul64.wrapN _ bc', Mul64.wrapN _ bw', Mul64.wrapN _ ba', Mul64.wrapN _ bh1, Mul64.wrapN _ bh]
    rw [hhi]
    unfold hiZ
    omega
  have HY : Hid (IntKind.u64.wrap ((x : Int) * (y : Int)) = loZ ((x : Int) * (y : Int))) := by rw [Hid, IntKind.wrap_u64]; rfl
  clear bd bt bw hhi ba bb bc hp0 hp1
  go_enter Try.func65, Try.ntmps65
  go_wp2_with fail
  go_at_call 79
  refine Calls.mono (H1.out _) ?_
  rintro e w1 ⟨rfl, hw⟩
  obtain rfl := hw.symm
  go_wp2_with fail
  go_at_call 79
  refine Calls.mono (H2.out _) ?_
  rintro e w1 ⟨rfl, hw⟩
  obtain rfl := hw.symm
  go_wp2_with fail
  go_at_call 81
  rw [HX.out, HY.out]
  refine Calls.mono (HR.out _) ?_
  rintro e w2 ⟨rfl, b2⟩
  obtain ⟨hc, hf⟩ := bcell b2
  unfold nv
  go_wp2_with fail
  exact bodyPost_ret (v := nv (a * b)) (by simp [results, Try.results65, go_sem, hc, nv]) rfl ⟨rfl, (((bup (bel1 _ _) b2).setCell (by simp) _).setCell (by simp) _).setCell (by simp) _⟩
end Go.Proofs.Ytipnefaggpigfaa
