/- Several texts, one behind the other. -/
import Derived.Deep.RegionHeld3
import Derived.Test.YtdikfcnbkckinaaGreatDoorRatT
import Derived.Test.YtdikfcnbkckinaaGreatDoorRatW9
/- Contracts of surtitleref3's numbers of 128 bits with a sign: size, right, above, Times, Plus, Less, fits, number, common. -/
namespace Go.Proofs.YtdikfcnbkckinaaGreatDoor
open Go.RowKit Go.Shelf
attribute [local go_sem] Oper.semAt_some

/-- A number with its sign apart, as the reference holds it. -/
def nv (z : Int) : Value := .agg #[.bool (decide (z < 0)), .int .u64 (hiZ (sz z)), .int .u64 (loZ (sz z))]

theorem rsize_any (k : Int) (h : I64 k) (w : World) :
    Calls Tryz.prog 44 #[.int .i64 k] w fun e w' => e = .returned (.int .u64 (sz k)) ∧ w' = w := by
  unfold I64 at h
  go_enter Tryz.func44, Tryz.ntmps44
  go_wp2
  · go_ret
    exact ⟨ret_int (by unfold sz; rw [IntKind.wrap_u64, IntKind.wrap_u64]; omega), rfl⟩
  · go_ret
    exact ⟨ret_int (by unfold sz; omega), rfl⟩

theorem rcommon_any (a b : Nat) (ha : a < 18446744073709551616) (hb : b < 18446744073709551616) (w : World) :
    Calls Tryz.prog 68 #[.int .u64 a, .int .u64 b] w fun e w' => e = .returned (.int .u64 (a.gcd b : Nat)) ∧ ∃ m, w' = w.drewN m := by
  go_enter Tryz.func68, Tryz.ntmps68
  go_wp2
  go_loopw [0, 1] (fun va vb wr => ∃ x y : Nat, va = .int .u64 x ∧ vb = .int .u64 y ∧ x < 18446744073709551616 ∧ y < 18446744073709551616 ∧ x.gcd y = a.gcd b ∧ ∃ m, wr = w.drewN m) (fun _ vb _ => (intOf vb).natAbs)
  case atStart => exact ⟨a, b, rfl, rfl, ha, hb, rfl, 0, rfl⟩
  case round =>
    obtain ⟨x, y, rfl, rfl, hx, hy, hg, m, hm⟩ := hrel
    have HG : Hid (x.gcd y = a.gcd b) := hg
    clear hg
    by_cases h0 : y = 0
    · subst h0
      go_wp2
      go_ret
      refine ⟨ret_int ?_, m, rfl⟩
      have := HG.out
      simp at this
      rw [this]
    · have hn : ((y : Int) != 0) = true := by simp; omega
      go_wp2
      go_region
      all_goals (try go_wp2)
      all_goals (
        go_roundw
        case rel =>
          refine ⟨y, x % y, rfl, by go_num, hy, by have := Nat.mod_lt x (show y > 0 by omega); omega, ?_, m + 1, rfl⟩
          rw [gcd_round x y]; exact HG.out
        case measure =>
          have := Nat.mod_lt x (show y > 0 by omega)
          simp [intOf]
          omega)

set_option maxRecDepth 100000 in
theorem rright_any (ng : Bool) (hi lo : Int) (w : World) :
    Calls Tryz.prog 69 #[.agg #[.bool ng, .int .u64 hi, .int .u64 lo]] w fun e w' => e = .returned (.agg #[.bool (ng && !(hi == 0 && lo == 0)), .int .u64 hi, .int .u64 lo]) ∧ Below w.heap.size w w' := by
  by_cases h1 : hi = 0
  · subst h1
    by_cases h2 : lo = 0
    · subst h2
      rw [show (ng && !((0 : Int) == 0 && (0 : Int) == 0)) = false by simp]
      go_enter Tryz.func69, Tryz.ntmps69
      go_wp2
      exact bodyPost_ret (v := .agg #[.bool false, .int .u64 0, .int .u64 0]) (by simp [results, Tryz.results69, go_sem]) rfl ⟨rfl, bel2 _ _ _⟩
    · have e2 : (lo == 0) = false := by simpa using h2
      rw [show (ng && !((0 : Int) == 0 && lo == 0)) = ng by simp [h2]]
      go_enter Tryz.func69, Tryz.ntmps69
      go_wp2
      exact bodyPost_ret (v := .agg #[.bool ng, .int .u64 0, .int .u64 lo]) (by simp [results, Tryz.results69, go_sem]) rfl ⟨rfl, bel2 _ _ _⟩
  · have e1 : (hi == 0) = false := by simpa using h1
    rw [show (ng && !(hi == 0 && lo == 0)) = ng by simp [h1]]
    go_enter Tryz.func69, Tryz.ntmps69
    go_wp2
    exact bodyPost_ret (v := .agg #[.bool ng, .int .u64 hi, .int .u64 lo]) (by simp [results, Tryz.results69, go_sem]) rfl ⟨rfl, bel2 _ _ _⟩

/-- A size and a sign as the number that they are. -/
def sgnQ (ng : Bool) (m : Int) : Int := if ng = true then -m else m
theorem nv_sgn (ng : Bool) (m : Int) (h0 : 0 ≤ m) (h1 : m < 340282366920938463463374607431768211456) :
    (.agg #[.bool (ng && !(hiZ m == 0 && loZ m == 0)), .int .u64 (hiZ m), .int .u64 (loZ m)] : Value) = nv (sgnQ ng m) := by
  have e1 : sz (sgnQ ng m) = m := by unfold sz sgnQ; split <;> omega
  have e2 : (ng && !(hiZ m == 0 && loZ m == 0)) = decide (sgnQ ng m < 0) := by
    have e3 : (hiZ m == 0 && loZ m == 0) = decide (m = 0) := by
      rw [Bool.eq_iff_iff]
      simp only [Bool.and_eq_true, beq_iff_eq, decide_eq_true_eq]
      unfold hiZ loZ
      omega
    rw [e3]
    unfold sgnQ
    cases ng
    · rw [Bool.false_and, if_neg (by simp), eq_comm, decide_eq_false_iff_not]
      omega
    · rw [Bool.true_and, if_pos rfl, Bool.eq_iff_iff]
      simp only [Bool.not_eq_true', decide_eq_false_iff_not, decide_eq_true_eq]
      omega
  unfold nv
  rw [e1, e2]
theorem right_sgn (ng : Bool) (m : Int) (h0 : 0 ≤ m) (h1 : m < 340282366920938463463374607431768211456) (w : World) :
    Calls Tryz.prog 69 #[.agg #[.bool ng, .int .u64 (hiZ m), .int .u64 (loZ m)]] w fun e w' => e = .returned (nv (sgnQ ng m)) ∧ Below w.heap.size w w' := by
  rw [← nv_sgn ng m h0 h1]
  exact rright_any ng _ _ w

theorem ret_bool {p q : Prop} [Decidable p] [Decidable q] (h : p ↔ q) : Ending.returned (.bool (decide p)) = .returned (.bool (decide q)) := by rw [decide_eq_decide.2 h]
set_option maxRecDepth 100000 in
theorem rabove_any (na nb : Bool) (ah al bh bl : Int) (w : World) :
    Calls Tryz.prog 70 #[.agg #[.bool na, .int .u64 ah, .int .u64 al], .agg #[.bool nb, .int .u64 bh, .int .u64 bl]] w fun e w' => e = .returned (.bool (decide (bh < ah ∨ (ah = bh ∧ bl < al)))) ∧ Below w.heap.size w w' := by
  go_enter Tryz.func70, Tryz.ntmps70
  go_wp2
  all_goals go_ret
  all_goals first | exact ⟨rfl, bel2 _ _ _⟩ | exact ⟨ret_bool (by omega), bel2 _ _ _⟩

theorem times_sign (a b : Int) : sgnQ (!decide (a < 0) == decide (b < 0)) (sz a * sz b) = a * b := by
  unfold sgnQ
  cases h : (decide (a < 0) != decide (b < 0))
  · rw [if_neg (by revert h; cases decide (a < 0) <;> cases decide (b < 0) <;> simp), sz_mul_same a b h]
  · rw [if_pos (by revert h; cases decide (a < 0) <;> cases decide (b < 0) <;> simp), sz_mul_other a b h]

set_option maxRecDepth 100000 in
set_option maxHeartbeats 1000000 in
theorem rtimes_any (a b : Int) (ha : I64 a) (hb : I64 b) (w : World) :
    Calls Tryz.prog 51 #[.int .i64 a, .int .i64 b] w fun e w' => e = .returned (nv (a * b)) ∧ Below w.heap.size w w' := by
  have H1 := hideR (rsize_any a ha)
  have H2 := hideR (rsize_any b hb)
  have ra := sz_range a ha
  have rb := sz_range b hb
  have hp0 : 0 ≤ sz a * sz b := Int.mul_nonneg ra.1 rb.1
  have hp1 : sz a * sz b ≤ 85070591730234615865843651857942052864 := by
    have := Int.mul_le_mul ra.2 rb.2 rb.1 (by omega)
    omega
  have HR := right_sgn (!decide (a < 0) == decide (b < 0)) (sz a * sz b) hp0 (by omega)
  rw [times_sign] at HR
  have HR := hideR HR
  obtain ⟨x, ex⟩ := Int.eq_ofNat_of_zero_le ra.1
  obtain ⟨y, ey⟩ := Int.eq_ofNat_of_zero_le rb.1
  rw [ex] at ra H1 hp1 hp0 HR
  rw [ey] at rb H2 hp1 hp0 HR
  have hx : x < 18446744073709551616 := by omega
  have hy : y < 18446744073709551616 := by omega
  obtain ⟨bd, bt, bw, hhi⟩ := Lib.mul64_hi x y hx hy
  have ba := Lib.half_mul_le (a := x / 4294967296) (b := y / 4294967296) (by omega) (by omega)
  have bb := Lib.half_mul_le (a := x / 4294967296) (b := y % 4294967296) (by omega) (by omega)
  have bc := Lib.half_mul_le (a := x % 4294967296) (b := y / 4294967296) (by omega) (by omega)
  have HX : Hid (IntKind.u64.wrap (IntKind.u64.wrap (IntKind.u64.wrap ((x : Int) / 4294967296 * ((y : Int) / 4294967296)) + IntKind.u64.wrap (IntKind.u64.wrap ((x : Int) / 4294967296 * bits BinOp.and IntKind.u64 (y : Int) 4294967295) + IntKind.u64.wrap (bits BinOp.and IntKind.u64 (x : Int) 4294967295 * bits BinOp.and IntKind.u64 (y : Int) 4294967295) / 4294967296) / 4294967296) + IntKind.u64.wrap (IntKind.u64.wrap (bits BinOp.and IntKind.u64 (x : Int) 4294967295 * ((y : Int) / 4294967296)) + bits BinOp.and IntKind.u64 (IntKind.u64.wrap (IntKind.u64.wrap ((x : Int) / 4294967296 * bits BinOp.and IntKind.u64 (y : Int) 4294967295) + IntKind.u64.wrap (bits BinOp.and IntKind.u64 (x : Int) 4294967295 * bits BinOp.and IntKind.u64 (y : Int) 4294967295) / 4294967296)) 4294967295) / 4294967296) = hiZ ((x : Int) * (y : Int))) := by
    have ba' : x / 4294967296 * (y / 4294967296) < 18446744073709551616 := by omega
    have bb' : x / 4294967296 * (y % 4294967296) < 18446744073709551616 := by omega
    have bc' : x % 4294967296 * (y / 4294967296) < 18446744073709551616 := by omega
    have bw' : x % 4294967296 * (y / 4294967296) + (x / 4294967296 * (y % 4294967296) + x % 4294967296 * (y % 4294967296) / 4294967296) % 4294967296 < 18446744073709551616 := by omega
    have hp : x * y / 18446744073709551616 < 18446744073709551616 := by
      have h1 : x * y < 18446744073709551616 * 18446744073709551616 := Nat.mul_lt_mul_of_lt_of_le hx (by omega) (by omega)
      exact (Nat.div_lt_iff_lt_mul (by omega)).2 h1
    rw [Nat.add_comm ((x / 4294967296 * (y % 4294967296) + x % 4294967296 * (y % 4294967296) / 4294967296) % 4294967296)] at hhi
    have bh1 : x / 4294967296 * (y / 4294967296) + (x / 4294967296 * (y % 4294967296) + x % 4294967296 * (y % 4294967296) / 4294967296) / 4294967296 < 18446744073709551616 := by omega
    have bh : x / 4294967296 * (y / 4294967296) + (x / 4294967296 * (y % 4294967296) + x % 4294967296 * (y % 4294967296) / 4294967296) / 4294967296 + (x % 4294967296 * (y / 4294967296) + (x / 4294967296 * (y % 4294967296) + x % 4294967296 * (y % 4294967296) / 4294967296) % 4294967296) / 4294967296 < 18446744073709551616 := by omega
    rw [Hid]
    simp only [Mul64.maskN x hx, Mul64.maskN y hy, Mul64.divN, Mul64.mulN, Mul64.addN, Mul64.wrapN _ bd, Mul64.wrapN _ bb', Mul64.wrapN _ bt, Mul64.maskN _ bt, Mul64.wrapN _ bc', Mul64.wrapN _ bw', Mul64.wrapN _ ba', Mul64.wrapN _ bh1, Mul64.wrapN _ bh]
    rw [hhi]
    unfold hiZ
    omega
  have HY : Hid (IntKind.u64.wrap ((x : Int) * (y : Int)) = loZ ((x : Int) * (y : Int))) := by rw [Hid, IntKind.wrap_u64]; rfl
  clear bd bt bw hhi ba bb bc hp0 hp1
  go_enter Tryz.func51, Tryz.ntmps51
  go_wp2_with fail
  go_at_call 44
  refine Calls.mono (H1.out _) ?_
  rintro e w1 ⟨rfl, hw⟩
  obtain rfl := hw.symm
  go_wp2_with fail
  go_at_call 44
  refine Calls.mono (H2.out _) ?_
  rintro e w1 ⟨rfl, hw⟩
  obtain rfl := hw.symm
  go_wp2_with fail
  go_at_call 69
  rw [HX.out, HY.out]
  refine Calls.mono (HR.out _) ?_
  rintro e w2 ⟨rfl, b2⟩
  obtain ⟨hc, hf⟩ := bcell b2
  unfold nv
  go_wp2_with fail
  exact bodyPost_ret (v := nv (a * b)) (by simp [results, Tryz.results51, go_sem, hc, nv]) rfl ⟨rfl, (((bup (bel1 _ _) b2).setCell (by simp) _).setCell (by simp) _).setCell (by simp) _⟩
end Go.Proofs.YtdikfcnbkckinaaGreatDoor

/- The contract of surtitleref3.divided: long division by bits. -/
namespace Go.Proofs.YtdikfcnbkckinaaGreatDoor
open Go.RowKit Go.Shelf
attribute [local go_sem] Oper.semAt_some

/-- A number of the reference in a block. -/
def Tri (V : World) (R : Nat) (n : Bool) (h l : Int) : Prop := R < V.heap.size ∧ V.cell? ⟨R, 0, none⟩ = some (.bool n) ∧ V.cell? ⟨R, 1, none⟩ = some (.int .u64 h) ∧ V.cell? ⟨R, 2, none⟩ = some (.int .u64 l) ∧ V.frozen? ⟨R, 0, none⟩ = false ∧ V.frozen? ⟨R, 1, none⟩ = false ∧ V.frozen? ⟨R, 2, none⟩ = false
theorem Tri.new (W : World) (n : Bool) (h l : Int) (t : TypeId) : Tri (W.alloc (.cells #[.bool n, .int .u64 h, .int .u64 l] t)) W.heap.size n h l :=
  ⟨by simp, by go_simp, by go_simp, by go_simp, by go_simp, by go_simp, by go_simp⟩
theorem Tri.keep {V V2 : World} {R : Nat} {n : Bool} {h l : Int} (t : Tri V R n h l) (b : Below V.heap.size V V2) : Tri V2 R n h l :=
  ⟨Nat.lt_of_lt_of_le t.1 b.size, (b.cell (p := ⟨R, 0, none⟩) t.1).trans t.2.1, (b.cell (p := ⟨R, 1, none⟩) t.1).trans t.2.2.1, (b.cell (p := ⟨R, 2, none⟩) t.1).trans t.2.2.2.1, (b.frozen (p := ⟨R, 0, none⟩) t.1).trans t.2.2.2.2.1, (b.frozen (p := ⟨R, 1, none⟩) t.1).trans t.2.2.2.2.2.1, (b.frozen (p := ⟨R, 2, none⟩) t.1).trans t.2.2.2.2.2.2⟩
/-- The six variables of a division. -/
def Six (B : Nat) (na nb : Bool) (ah al bh bl qh ql rh rl : Int) (V : World) : Prop :=
  Tri V B na ah al ∧ Tri V (B + 1) nb bh bl ∧ Tri V (B + 1 + 1) false 0 0 ∧ Tri V (B + 1 + 1 + 1) false 0 0 ∧ Tri V (B + 1 + 1 + 1 + 1) false qh ql ∧ Tri V (B + 1 + 1 + 1 + 1 + 1) false rh rl
theorem Tri.other {V : World} {R S i : Nat} {n : Bool} {h l : Int} {x : Value} (t : Tri V R n h l) (ne : S ≠ R) : Tri (V.setCell ⟨S, i, none⟩ x) R n h l := by
  obtain ⟨z, c0, c1, c2, f0, f1, f2⟩ := t
  have n2 : R ≠ S := fun e => ne e.symm
  exact ⟨by simpa using z, by go_simp, by go_simp, by go_simp, by go_simp, by go_simp, by go_simp⟩
theorem Tri.set1 {V : World} {R : Nat} {n : Bool} {h l h2 : Int} (t : Tri V R n h l) : Tri (V.setCell ⟨R, 1, none⟩ (.int .u64 h2)) R n h2 l := by
  obtain ⟨z, c0, c1, c2, f0, f1, f2⟩ := t
  exact ⟨by simpa using z, by go_simp, by go_simp, by go_simp, by go_simp, by go_simp, by go_simp⟩
theorem Tri.set2 {V : World} {R : Nat} {n : Bool} {h l l2 : Int} (t : Tri V R n h l) : Tri (V.setCell ⟨R, 2, none⟩ (.int .u64 l2)) R n h l2 := by
  obtain ⟨z, c0, c1, c2, f0, f1, f2⟩ := t
  exact ⟨by simpa using z, by go_simp, by go_simp, by go_simp, by go_simp, by go_simp, by go_simp⟩
theorem Tri.set0 {V : World} {R : Nat} {n n2 : Bool} {h l : Int} (t : Tri V R n h l) : Tri (V.setCell ⟨R, 0, none⟩ (.bool n2)) R n2 h l := by
  obtain ⟨z, c0, c1, c2, f0, f1, f2⟩ := t
  exact ⟨by simpa using z, by go_simp, by go_simp, by go_simp, by go_simp, by go_simp, by go_simp⟩
theorem Six.keep {B : Nat} {na nb : Bool} {ah al bh bl qh ql rh rl : Int} {V V2 : World} (h : Six B na nb ah al bh bl qh ql rh rl V) (b : Below V.heap.size V V2) : Six B na nb ah al bh bl qh ql rh rl V2 :=
  ⟨h.1.keep b, h.2.1.keep b, h.2.2.1.keep b, h.2.2.2.1.keep b, h.2.2.2.2.1.keep b, h.2.2.2.2.2.keep b⟩
/-- what the round's shifts leave -/
theorem Six.shift {w wr : World} {na nb : Bool} {ah al bh bl qh ql rh rl xh2 xl2 rh2 rl2 qh2 ql2 : Int} (h : Six w.heap.size na nb ah al bh bl qh ql rh rl wr) :
    Six w.heap.size na nb xh2 xl2 bh bl qh2 ql2 rh2 rl2 ((((((wr.setCell ⟨w.heap.size, 1, none⟩ (.int .u64 xh2)).setCell ⟨w.heap.size, 2, none⟩ (.int .u64 xl2)).setCell ⟨w.heap.size + 1 + 1 + 1 + 1 + 1, 1, none⟩ (.int .u64 rh2)).setCell ⟨w.heap.size + 1 + 1 + 1 + 1 + 1, 2, none⟩ (.int .u64 rl2)).setCell ⟨w.heap.size + 1 + 1 + 1 + 1, 1, none⟩ (.int .u64 qh2)).setCell ⟨w.heap.size + 1 + 1 + 1 + 1, 2, none⟩ (.int .u64 ql2)) := by
  obtain ⟨ta, tb, tc, td, tq, tr⟩ := h
  refine ⟨?_, ?_, ?_, ?_, ?_, ?_⟩
  · exact (((((ta.set1).set2).other (by omega)).other (by omega)).other (by omega)).other (by omega)
  · exact (((((tb.other (by omega)).other (by omega)).other (by omega)).other (by omega)).other (by omega)).other (by omega)
  · exact (((((tc.other (by omega)).other (by omega)).other (by omega)).other (by omega)).other (by omega)).other (by omega)
  · exact (((((td.other (by omega)).other (by omega)).other (by omega)).other (by omega)).other (by omega)).other (by omega)
  · exact (((((tq.other (by omega)).other (by omega)).other (by omega)).other (by omega)).set1).set2
  · exact (((((tr.other (by omega)).other (by omega)).set1).set2).other (by omega)).other (by omega)
/-- what the round's subtraction leaves -/
theorem Six.less {w V : World} {na nb : Bool} {ah al bh bl qh ql rh rl rh2 rl2 ql2 : Int} (h : Six w.heap.size na nb ah al bh bl qh ql rh rl V) :
    Six w.heap.size na nb ah al bh bl qh ql2 rh2 rl2 ((((V.setCell ⟨w.heap.size + 1 + 1 + 1 + 1 + 1, 0, none⟩ (.bool false)).setCell ⟨w.heap.size + 1 + 1 + 1 + 1 + 1, 1, none⟩ (.int .u64 rh2)).setCell ⟨w.heap.size + 1 + 1 + 1 + 1 + 1, 2, none⟩ (.int .u64 rl2)).setCell ⟨w.heap.size + 1 + 1 + 1 + 1, 2, none⟩ (.int .u64 ql2)) := by
  obtain ⟨ta, tb, tc, td, tq, tr⟩ := h
  refine ⟨?_, ?_, ?_, ?_, ?_, ?_⟩
  · exact (((ta.other (by omega)).other (by omega)).other (by omega)).other (by omega)
  · exact (((tb.other (by omega)).other (by omega)).other (by omega)).other (by omega)
  · exact (((tc.other (by omega)).other (by omega)).other (by omega)).other (by omega)
  · exact (((td.other (by omega)).other (by omega)).other (by omega)).other (by omega)
  · exact (((tq.other (by omega)).other (by omega)).other (by omega)).set2
  · exact (((tr.set0).set1).set2).other (by omega)

/-! halves, shifted -/
theorem or_even (t b : Nat) (ht : 2 * t < 18446744073709551616) (hb : b < 2) : bits .or .u64 ((2 * t : Nat) : Int) (b : Int) = ((2 * t + b : Nat) : Int) := by
  rw [bits_or_u64_nat _ _ ht (by omega)]
  have := Nat.two_pow_add_eq_or_of_lt (i := 1) (b := b) (by omega) t
  rw [Nat.pow_one] at this
  rw [this]
theorem hi_shift (m b : Nat) (hb : b < 2) : bits .or .u64 (IntKind.u64.wrap (hiZ (m : Int) * 2)) (loZ (m : Int) / 9223372036854775808) = hiZ ((2 * m + b : Nat) : Int) := by
  have e1 : IntKind.u64.wrap (hiZ (m : Int) * 2) = ((2 * (m / 18446744073709551616 % 9223372036854775808) : Nat) : Int) := by rw [IntKind.wrap_u64]; unfold hiZ; omega
  have e2 : loZ (m : Int) / 9223372036854775808 = ((m % 18446744073709551616 / 9223372036854775808 : Nat) : Int) := by unfold loZ; omega
  rw [e1, e2, or_even _ _ (by omega) (by omega)]
  unfold hiZ
  omega
theorem hi_double (m : Nat) : bits .or .u64 (IntKind.u64.wrap (hiZ (m : Int) * 2)) (loZ (m : Int) / 9223372036854775808) = hiZ ((2 * m : Nat) : Int) := hi_shift m 0 (by omega)
theorem lo_shift (m b : Nat) (hb : b < 2) : bits .or .u64 (IntKind.u64.wrap (loZ (m : Int) * 2)) (b : Int) = loZ ((2 * m + b : Nat) : Int) := by
  have e1 : IntKind.u64.wrap (loZ (m : Int) * 2) = ((2 * (m % 9223372036854775808) : Nat) : Int) := by rw [IntKind.wrap_u64]; unfold loZ; omega
  rw [e1, or_even _ _ (by omega) hb]
  unfold loZ
  omega
theorem lo_double (m : Nat) : IntKind.u64.wrap (loZ (m : Int) * 2) = loZ ((2 * m : Nat) : Int) := by rw [IntKind.wrap_u64]; unfold loZ; omega
theorem lo_one (m : Nat) : bits .or .u64 (loZ ((2 * m : Nat) : Int)) 1 = loZ ((2 * m + 1 : Nat) : Int) := by
  have e1 : loZ ((2 * m : Nat) : Int) = ((2 * (m % 9223372036854775808) : Nat) : Int) := by unfold loZ; omega
  have := or_even (m % 9223372036854775808) 1 (by omega) (by omega)
  rw [e1]
  refine Eq.trans this ?_
  unfold loZ
  omega
theorem top_bit (m : Nat) (hm : m < 340282366920938463463374607431768211456) : hiZ (m : Int) / 9223372036854775808 = ((m / 170141183460469231731687303715884105728 : Nat) : Int) := by unfold hiZ; omega
theorem above_iff (r b : Nat) (hr : r < 340282366920938463463374607431768211456) (hb : b < 340282366920938463463374607431768211456) : (hiZ (r : Int) < hiZ (b : Int) ∨ (hiZ (b : Int) = hiZ (r : Int) ∧ loZ (r : Int) < loZ (b : Int))) ↔ r < b := by unfold hiZ loZ; omega
theorem less_lo (r b : Nat) (h : b ≤ r) : IntKind.u64.wrap (loZ (r : Int) - loZ (b : Int)) = loZ ((r - b : Nat) : Int) := by rw [IntKind.wrap_u64]; unfold loZ; omega
theorem less_hi1 (r b : Nat) (h : b ≤ r) (hr : r < 340282366920938463463374607431768211456) (hl : loZ (r : Int) < loZ (b : Int)) : IntKind.u64.wrap (IntKind.u64.wrap (hiZ (r : Int) - hiZ (b : Int)) - 1) = hiZ ((r - b : Nat) : Int) := by rw [IntKind.wrap_u64, IntKind.wrap_u64]; unfold hiZ loZ at *; omega
theorem less_hi0 (r b : Nat) (h : b ≤ r) (hr : r < 340282366920938463463374607431768211456) (hl : ¬ loZ (r : Int) < loZ (b : Int)) : IntKind.u64.wrap (hiZ (r : Int) - hiZ (b : Int)) = hiZ ((r - b : Nat) : Int) := by rw [IntKind.wrap_u64]; unfold hiZ loZ at *; omega

/-- A size, as the reference holds it. -/
def uv (m : Nat) : Value := .agg #[.bool false, .int .u64 (hiZ m), .int .u64 (loZ m)]
/-- Where the division stands behind k rounds. -/
def DivAt (A k N P S X : Nat) : Prop := k ≤ 128 ∧ N * 2 ^ k = 340282366920938463463374607431768211456 ∧ A = P * N + S ∧ S < N ∧ X * N = S * 340282366920938463463374607431768211456 ∧ P < 340282366920938463463374607431768211456

theorem Tri.alloc {V : World} {R : Nat} {n : Bool} {h l : Int} (t : Tri V R n h l) (o : Obj) : Tri (V.alloc o) R n h l := t.keep (bel1 V o)
theorem Tri.at {V : World} {R R2 : Nat} {n : Bool} {h l : Int} (t : Tri V R n h l) (e : R = R2) : Tri V R2 n h l := e ▸ t
theorem six_new (na nb : Bool) (A b : Nat) (w : World) : Six w.heap.size na nb (hiZ A) (loZ A) (hiZ b) (loZ b) (hiZ (0 / b : Nat)) (loZ (0 / b : Nat)) (hiZ (0 % b : Nat)) (loZ (0 % b : Nat))
    ((((((w.alloc (.cells #[.bool na, .int .u64 (hiZ A), .int .u64 (loZ A)] 110)).alloc (.cells #[.bool nb, .int .u64 (hiZ b), .int .u64 (loZ b)] 110)).alloc (.cells #[.bool false, .int .u64 0, .int .u64 0] 110)).alloc (.cells #[.bool false, .int .u64 0, .int .u64 0] 110)).alloc (.cells #[.bool false, .int .u64 0, .int .u64 0] 110)).alloc (.cells #[.bool false, .int .u64 0, .int .u64 0] 110)) := by
  rw [Nat.zero_div, Nat.zero_mod, show hiZ ((0 : Nat) : Int) = 0 from rfl, show loZ ((0 : Nat) : Int) = 0 from rfl]
  refine ⟨?_, ?_, ?_, ?_, ?_, ?_⟩
  · exact (((((Tri.new _ _ _ _ _).alloc _).alloc _).alloc _).alloc _).alloc _
  · exact (((((Tri.new _ _ _ _ _).at (by simp)).alloc _).alloc _).alloc _).alloc _
  · exact ((((Tri.new _ _ _ _ _).at (by simp)).alloc _).alloc _).alloc _
  · exact (((Tri.new _ _ _ _ _).at (by simp)).alloc _).alloc _
  · exact ((Tri.new _ _ _ _ _).at (by simp)).alloc _
  · exact (Tri.new _ _ _ _ _).at (by simp)

end Go.Proofs.YtdikfcnbkckinaaGreatDoor

/- Contracts of surtitleref3: fits, number. -/
namespace Go.Proofs.YtdikfcnbkckinaaGreatDoor
open Go.RowKit Go.Shelf
attribute [local go_sem] Oper.semAt_some

end Go.Proofs.YtdikfcnbkckinaaGreatDoor

/- The contract of surtitleref3.lowest. -/
namespace Go.Proofs.YtdikfcnbkckinaaGreatDoor
open Go.RowKit Go.Shelf
attribute [local go_sem] Oper.semAt_some

/-- The variables of lowest. -/
def Low5 (B : Nat) (ng nd : Bool) (H L : Int) (D x y : Nat) (V : World) : Prop :=
  Tri V B ng H L ∧ Tri V (B + 1) nd (hiZ D) (loZ D) ∧ Two V (B + 1 + 1) (.int .i64 0) (.int .i64 0) ∧ (∃ na, Tri V (B + 1 + 1 + 1) na (hiZ x) (loZ x)) ∧ (∃ nb, Tri V (B + 1 + 1 + 1 + 1) nb (hiZ y) (loZ y))
/-- The size that lies in a block. -/
def sizeAt (R : Nat) (V : World) : Nat := match V.cell? ⟨R, 1, none⟩, V.cell? ⟨R, 2, none⟩ with
  | some (.int _ h), some (.int _ l) => (h * 18446744073709551616 + l).toNat
  | _, _ => 0
theorem sizeAt_tri {V : World} {R y : Nat} {n : Bool} (hy : y < 340282366920938463463374607431768211456) (t : Tri V R n (hiZ y) (loZ y)) : sizeAt R V = y := by
  unfold sizeAt
  rw [t.2.2.1, t.2.2.2.1]
  simp only
  unfold hiZ loZ
  omega
theorem Two.one {V : World} {R S i : Nat} {x y v : Value} (h : Two V R x y) (n : S ≠ R) : Two (V.setCell ⟨S, i, none⟩ v) R x y := by
  obtain ⟨z, c0, c1, f0, f1⟩ := h
  have n2 : R ≠ S := fun e => n e.symm
  exact ⟨by simpa using z, by go_simp, by go_simp, by go_simp, by go_simp⟩
theorem Low5.step {V : World} {B : Nat} {ng nd na nb na2 nb2 : Bool} {H L : Int} {D x2 y2 : Nat} {ah al bh bl xh xl yh yl : Int} (Tn : Tri V B ng H L) (Td : Tri V (B + 1) nd (hiZ D) (loZ D)) (Tr : Two V (B + 1 + 1) (.int .i64 0) (.int .i64 0)) (Ta : Tri V (B + 1 + 1 + 1) na ah al) (Tb : Tri V (B + 1 + 1 + 1 + 1) nb bh bl)
    (e1 : hiZ x2 = xh) (e2 : loZ x2 = xl) (e3 : hiZ y2 = yh) (e4 : loZ y2 = yl) :
    Low5 B ng nd H L D x2 y2 ((((((V.setCell ⟨B + 1 + 1 + 1, 0, none⟩ (.bool na2)).setCell ⟨B + 1 + 1 + 1, 1, none⟩ (.int .u64 xh)).setCell ⟨B + 1 + 1 + 1, 2, none⟩ (.int .u64 xl)).setCell ⟨B + 1 + 1 + 1 + 1, 0, none⟩ (.bool nb2)).setCell ⟨B + 1 + 1 + 1 + 1, 1, none⟩ (.int .u64 yh)).setCell ⟨B + 1 + 1 + 1 + 1, 2, none⟩ (.int .u64 yl)) := by
  subst e1 e2 e3 e4
  refine ⟨?_, ?_, ?_, ⟨na2, ?_⟩, ⟨nb2, ?_⟩⟩
  · exact (((((Tn.other (by omega)).other (by omega)).other (by omega)).other (by omega)).other (by omega)).other (by omega)
  · exact (((((Td.other (by omega)).other (by omega)).other (by omega)).other (by omega)).other (by omega)).other (by omega)
  · exact (((((Tr.one (by omega)).one (by omega)).one (by omega)).one (by omega)).one (by omega)).one (by omega)
  · exact (((((Ta.set0).set1).set2).other (by omega)).other (by omega)).other (by omega)
  · exact (((((Tb.other (by omega)).other (by omega)).other (by omega)).set0).set1).set2
theorem low5_new (w : World) (ng nd : Bool) (H L : Int) (m D : Nat) (e1 : hiZ m = H) (e2 : loZ m = L) :
    Low5 w.heap.size ng nd H L D m D (((((w.alloc (.cells #[.bool ng, .int .u64 H, .int .u64 L] 110)).alloc (.cells #[.bool nd, .int .u64 (hiZ D), .int .u64 (loZ D)] 110)).alloc (.cells #[.int .i64 0, .int .i64 0] 23)).alloc (.cells #[.bool false, .int .u64 H, .int .u64 L] 110)).alloc (.cells #[.bool nd, .int .u64 (hiZ D), .int .u64 (loZ D)] 110)) := by
  subst e1 e2
  have t1 := ((((Tri.new w ng (hiZ m) (loZ m) 110).alloc (.cells #[.bool nd, .int .u64 (hiZ D), .int .u64 (loZ D)] 110)).alloc (.cells #[.int .i64 0, .int .i64 0] 23)).alloc (.cells #[.bool false, .int .u64 (hiZ m), .int .u64 (loZ m)] 110)).alloc (.cells #[.bool nd, .int .u64 (hiZ D), .int .u64 (loZ D)] 110)
  have t2 := (((Tri.new (w.alloc (.cells #[.bool ng, .int .u64 (hiZ m), .int .u64 (loZ m)] 110)) nd (hiZ D) (loZ D) 110).alloc (.cells #[.int .i64 0, .int .i64 0] 23)).alloc (.cells #[.bool false, .int .u64 (hiZ m), .int .u64 (loZ m)] 110)).alloc (.cells #[.bool nd, .int .u64 (hiZ D), .int .u64 (loZ D)] 110)
  have t3 := ((Two.new ((w.alloc (.cells #[.bool ng, .int .u64 (hiZ m), .int .u64 (loZ m)] 110)).alloc (.cells #[.bool nd, .int .u64 (hiZ D), .int .u64 (loZ D)] 110)) (.int .i64 0) (.int .i64 0) 23).alloc (.cells #[.bool false, .int .u64 (hiZ m), .int .u64 (loZ m)] 110)).alloc (.cells #[.bool nd, .int .u64 (hiZ D), .int .u64 (loZ D)] 110)
  have t4 := (Tri.new (((w.alloc (.cells #[.bool ng, .int .u64 (hiZ m), .int .u64 (loZ m)] 110)).alloc (.cells #[.bool nd, .int .u64 (hiZ D), .int .u64 (loZ D)] 110)).alloc (.cells #[.int .i64 0, .int .i64 0] 23)) false (hiZ m) (loZ m) 110).alloc (.cells #[.bool nd, .int .u64 (hiZ D), .int .u64 (loZ D)] 110)
  have t5 := Tri.new ((((w.alloc (.cells #[.bool ng, .int .u64 (hiZ m), .int .u64 (loZ m)] 110)).alloc (.cells #[.bool nd, .int .u64 (hiZ D), .int .u64 (loZ D)] 110)).alloc (.cells #[.int .i64 0, .int .i64 0] 23)).alloc (.cells #[.bool false, .int .u64 (hiZ m), .int .u64 (loZ m)] 110)) nd (hiZ D) (loZ D) 110
  exact ⟨t1, t2.at (by simp), (by have := t3; rwa [show ((w.alloc (.cells #[.bool ng, .int .u64 (hiZ m), .int .u64 (loZ m)] 110)).alloc (.cells #[.bool nd, .int .u64 (hiZ D), .int .u64 (loZ D)] 110)).heap.size = w.heap.size + 1 + 1 by simp] at this), ⟨false, t4.at (by simp)⟩, ⟨nd, t5.at (by simp)⟩⟩
theorem Tri.drew {V : World} {R : Nat} {n : Bool} {h l : Int} (t : Tri V R n h l) : Tri V.drew R n h l := t
theorem sN {V : World} {A B : Nat} {n n2 : Bool} {h l h2 l2 : Int} (t : Tri V A n h l) (u : Tri V B n2 h2 l2) : V.cell? ⟨A, 0, none⟩ = some (.bool n) ∧ V.cell? ⟨A, 1, none⟩ = some (.int .u64 h) ∧ V.cell? ⟨A, 2, none⟩ = some (.int .u64 l) ∧ V.cell? ⟨B, 2, none⟩ = some (.int .u64 l2) :=
  ⟨t.2.1, t.2.2.1, t.2.2.2.1, u.2.2.2.1⟩
theorem low_ref (ng : Bool) (m D g : Nat) (hD : 0 < D) (hg : g = m.gcd D) :
    low (Rat.divInt (sgnQ ng m) D) = if m / g ≤ 4611686018427387904 ∧ D / g ≤ 2147483648 then (⟨sgnQ ng (m / g : Nat), (D / g : Nat)⟩, 0) else (⟨0, 0⟩, 12) := by
  have hg0 : 0 < g := by rw [hg]; exact Nat.gcd_pos_of_pos_right _ hD
  have hgm : (g : Int) ∣ m := by rw [hg]; exact Int.ofNat_dvd.2 (Nat.gcd_dvd_left m D)
  have ea : (sgnQ ng m).natAbs = m := by unfold sgnQ; split <;> omega
  have e0 : (g : Int) = (((sgnQ ng m) % (D : Int)).toNat.gcd (D : Int).toNat : Nat) := by
    rw [gcd_rest _ _ (by omega), ea, hg]
    rfl
  have e1 : sgnQ ng m / g = sgnQ ng (m / g : Nat) := by
    unfold sgnQ
    split
    · rw [Int.neg_ediv_of_dvd hgm, Int.natCast_ediv]
    · rw [Int.natCast_ediv]
  rw [low_eq (sgnQ ng m) D g (by omega) e0, e1, ← Int.natCast_ediv]
  generalize m / g = P
  generalize D / g = Q
  have e2 : (-4611686018427387904 ≤ sgnQ ng (P : Nat) ∧ sgnQ ng (P : Nat) ≤ 4611686018427387904 ∧ ((Q : Nat) : Int) ≤ 2147483648) ↔ (P ≤ 4611686018427387904 ∧ Q ≤ 2147483648) := by
    unfold sgnQ
    split <;> omega
  by_cases h : P ≤ 4611686018427387904 ∧ Q ≤ 2147483648
  · rw [if_pos h, if_pos (e2.2 h)]
  · rw [if_neg h, if_neg (fun k => h (e2.1 k))]
theorem low_zero (D : Int) : low (Rat.divInt 0 D) = (⟨0, 1⟩, 0) := by
  have : Rat.divInt 0 D = 0 := Rat.zero_divInt D
  rw [this]
  rfl
end Go.Proofs.YtdikfcnbkckinaaGreatDoor

/- The contract of surtitleref3.lowest, where the first half is not 0. -/
namespace Go.Proofs.YtdikfcnbkckinaaGreatDoor
open Go.RowKit Go.Shelf
attribute [local go_sem] Oper.semAt_some

end Go.Proofs.YtdikfcnbkckinaaGreatDoor

/- The contract of surtitleref3.lowest, where the first half is 0. -/
namespace Go.Proofs.YtdikfcnbkckinaaGreatDoor
open Go.RowKit Go.Shelf
attribute [local go_sem] Oper.semAt_some

end Go.Proofs.YtdikfcnbkckinaaGreatDoor

/- Contracts of surtitleref3: Right, both. -/
namespace Go.Proofs.YtdikfcnbkckinaaGreatDoor
open Go.RowKit Go.Shelf
attribute [local go_sem] Oper.semAt_some

set_option maxRecDepth 100000 in
set_option maxHeartbeats 1000000 in
theorem rright_walk (n d g : Int) (b : Bool) (hN : I64 n) (hD : I64 d)
    (HM : 1 ≤ d → ∀ w, Calls Tryz.prog 68 #[.int .u64 (sz n), .int .u64 d] w fun e w' => e = .returned (.int .u64 g) ∧ ∃ m, w' = w.drewN m)
    (hres : (d < 1 ∧ b = false) ∨ (1 ≤ d ∧ 2147483648 < d ∧ b = false) ∨ (1 ≤ d ∧ d ≤ 2147483648 ∧ n < -4611686018427387904 ∧ b = false) ∨ (1 ≤ d ∧ d ≤ 2147483648 ∧ -4611686018427387904 ≤ n ∧ 4611686018427387904 < n ∧ b = false) ∨ (1 ≤ d ∧ d ≤ 2147483648 ∧ -4611686018427387904 ≤ n ∧ n ≤ 4611686018427387904 ∧ b = (g == 1))) (w : World) :
    Calls Tryz.prog 50 #[.agg #[.int .i64 n, .int .i64 d]] w fun e w' => e = .returned (.bool b) ∧ Below w.heap.size w w' := by
  have HM := hideR HM
  have HS := hideR (rsize_any n hN)
  have hs := sz_range n hN
  unfold I64 at hN hD
  generalize sz n = s at *
  rcases hres with ⟨h1, rfl⟩ | ⟨h1, h2, rfl⟩ | ⟨h1, h2, h3, rfl⟩ | ⟨h1, h2, h3, h4, rfl⟩ | ⟨h1, h2, h3, h4, rfl⟩
  all_goals (
    go_enter Tryz.func50, Tryz.ntmps50
    go_wp2_with fail)
  · have q1 : ¬ 1 ≤ d := by omega
    go_quiet (fail)
    go_wp2_with fail
    go_ret
    exact ⟨rfl, below_drewN (bel1 _ _) _⟩
  · have q1 : ¬ d ≤ 2147483648 := by omega
    go_quiet (fail)
    go_wp2_with fail
    go_ret
    exact ⟨rfl, below_drewN (bel1 _ _) _⟩
  · have q1 : ¬ -4611686018427387904 ≤ n := by omega
    go_quiet (fail)
    go_wp2_with fail
    go_ret
    exact ⟨rfl, below_drewN (bel1 _ _) _⟩
  · have q1 : ¬ n ≤ 4611686018427387904 := by omega
    go_quiet (fail)
    go_wp2_with fail
    go_ret
    exact ⟨rfl, below_drewN (bel1 _ _) _⟩
  · have HM := hideR (HM.out h1)
    go_quiet (first | (go_at_call 44; exact Calls.quiet_of_same (HS.out _)) | (go_at_call 68; exact Calls.quiet_of (HM.out _)))
    go_wp2_with fail
    go_ret
    exact ⟨rfl, below_drewN (bel1 _ _) _⟩

theorem rright_r (r : Rt) (h : RtIn r) (w : World) :
    Calls Tryz.prog 50 #[rtv r] w fun e w' => e = .returned (.bool (rightB r)) ∧ Below w.heap.size w w' := by
  have hs := sz_range r.N h.1
  obtain ⟨x, ex⟩ := Int.eq_ofNat_of_zero_le hs.1
  refine rright_walk r.N r.D ((sz r.N).toNat.gcd r.D.toNat : Nat) (rightB r) h.1 h.2 (fun hd w => ?_) ?_ w
  · obtain ⟨y, ey⟩ := Int.eq_ofNat_of_zero_le (show 0 ≤ r.D by omega)
    have h2 := h.2.2
    rw [ex, ey]
    exact rcommon_any x y (by omega) (by omega) w
  · by_cases h1 : r.D < 1
    · exact .inl ⟨h1, by unfold rightB; rw [decide_eq_false]; omega⟩
    · by_cases h2 : 2147483648 < r.D
      · exact .inr (.inl ⟨by omega, h2, by unfold rightB; rw [decide_eq_false]; omega⟩)
      · by_cases h3 : r.N < -4611686018427387904
        · exact .inr (.inr (.inl ⟨by omega, by omega, h3, by unfold rightB; rw [decide_eq_false]; omega⟩))
        · by_cases h4 : 4611686018427387904 < r.N
          · exact .inr (.inr (.inr (.inl ⟨by omega, by omega, by omega, h4, by unfold rightB; rw [decide_eq_false]; omega⟩)))
          · exact .inr (.inr (.inr (.inr ⟨by omega, by omega, by omega, by omega, right_sz r _ (by omega) rfl (by omega) (by unfold sz; omega)⟩)))

end Go.Proofs.YtdikfcnbkckinaaGreatDoor

/- Contracts of surtitleref3: Plus, Less. -/
namespace Go.Proofs.YtdikfcnbkckinaaGreatDoor
open Go.RowKit Go.Shelf
attribute [local go_sem] Oper.semAt_some

/-- The three blocks of Plus. -/
def Tri3 (B : Nat) (na nb : Bool) (ah al bh bl : Int) (V : World) : Prop := Tri V B na ah al ∧ Tri V (B + 1) nb bh bl ∧ Tri V (B + 1 + 1) false 0 0
theorem Tri3.keep {B : Nat} {na nb : Bool} {ah al bh bl : Int} {V V2 : World} (h : Tri3 B na nb ah al bh bl V) (b : Below V.heap.size V V2) : Tri3 B na nb ah al bh bl V2 := ⟨h.1.keep b, h.2.1.keep b, h.2.2.keep b⟩
theorem tri3_new (na nb : Bool) (ah al bh bl : Int) (w : World) : Tri3 w.heap.size na nb ah al bh bl (((w.alloc (.cells #[.bool na, .int .u64 ah, .int .u64 al] 110)).alloc (.cells #[.bool nb, .int .u64 bh, .int .u64 bl] 110)).alloc (.cells #[.bool false, .int .u64 0, .int .u64 0] 110)) := by
  have t1 := ((Tri.new w na ah al 110).alloc (.cells #[.bool nb, .int .u64 bh, .int .u64 bl] 110)).alloc (.cells #[.bool false, .int .u64 0, .int .u64 0] 110)
  have t2 := (Tri.new (w.alloc (.cells #[.bool na, .int .u64 ah, .int .u64 al] 110)) nb bh bl 110).alloc (.cells #[.bool false, .int .u64 0, .int .u64 0] 110)
  have t3 := Tri.new ((w.alloc (.cells #[.bool na, .int .u64 ah, .int .u64 al] 110)).alloc (.cells #[.bool nb, .int .u64 bh, .int .u64 bl] 110)) false 0 0 110
  exact ⟨t1, t2.at (by simp), t3.at (by simp)⟩

theorem above_dec (x y : Int) (hx : 0 ≤ x ∧ x < 340282366920938463463374607431768211456) (hy : 0 ≤ y ∧ y < 340282366920938463463374607431768211456) : decide (hiZ y < hiZ x ∨ (hiZ x = hiZ y ∧ loZ y < loZ x)) = decide (y < x) :=
  decide_eq_decide.2 (by unfold hiZ loZ; omega)
theorem above_i (na nb : Bool) (x y : Int) (hx : 0 ≤ x ∧ x < 340282366920938463463374607431768211456) (hy : 0 ≤ y ∧ y < 340282366920938463463374607431768211456) (w : World) :
    Calls Tryz.prog 70 #[.agg #[.bool na, .int .u64 (hiZ x), .int .u64 (loZ x)], .agg #[.bool nb, .int .u64 (hiZ y), .int .u64 (loZ y)]] w fun e w' => e = .returned (.bool (decide (y < x))) ∧ Below w.heap.size w w' := by
  rw [← above_dec x y hx hy]
  exact rabove_any _ _ _ _ _ _ _
theorem sz_nonneg (a : Int) : 0 ≤ sz a := by unfold sz; omega
set_option maxRecDepth 100000 in
set_option maxHeartbeats 1000000 in
theorem rless_walk (na nb x y : Bool) (ah al bh bl : Int)
    (HA : ∀ w, Calls Tryz.prog 70 #[.agg #[.bool na, .int .u64 ah, .int .u64 al], .agg #[.bool nb, .int .u64 bh, .int .u64 bl]] w fun e w' => e = .returned (.bool x) ∧ Below w.heap.size w w')
    (HB : ∀ w, Calls Tryz.prog 70 #[.agg #[.bool nb, .int .u64 bh, .int .u64 bl], .agg #[.bool na, .int .u64 ah, .int .u64 al]] w fun e w' => e = .returned (.bool y) ∧ Below w.heap.size w w') (w : World) :
    Calls Tryz.prog 52 #[.agg #[.bool na, .int .u64 ah, .int .u64 al], .agg #[.bool nb, .int .u64 bh, .int .u64 bl]] w fun e w' => e = .returned (.bool (if na = nb then (if na = true then x else y) else na)) ∧ Below w.heap.size w w' := by
  have HA := hideR HA
  have HB := hideR HB
  cases na <;> cases nb
  all_goals (
    go_enter Tryz.func52, Tryz.ntmps52
    go_wp2_with fail)
  · go_at_call 70
    refine Calls.mono (HB.out _) ?_
    rintro e w1 ⟨rfl, b1⟩
    go_wp2_with fail
    go_ret
    exact ⟨rfl, bup (bel2 w _ _) b1⟩
  · go_ret
    exact ⟨rfl, bel2 w _ _⟩
  · go_ret
    exact ⟨rfl, bel2 w _ _⟩
  · go_at_call 70
    refine Calls.mono (HA.out _) ?_
    rintro e w1 ⟨rfl, b1⟩
    go_wp2_with fail
    go_ret
    exact ⟨rfl, bup (bel2 w _ _) b1⟩
theorem rless_any (a b : Int) (ha : sz a < 340282366920938463463374607431768211456) (hb : sz b < 340282366920938463463374607431768211456) (w : World) :
    Calls Tryz.prog 52 #[nv a, nv b] w fun e w' => e = .returned (.bool (decide (a < b))) ∧ Below w.heap.size w w' := by
  have na := sz_nonneg a
  have nb := sz_nonneg b
  have := rless_walk (decide (a < 0)) (decide (b < 0)) _ _ (hiZ (sz a)) (loZ (sz a)) (hiZ (sz b)) (loZ (sz b)) (above_i _ _ (sz a) (sz b) ⟨na, ha⟩ ⟨nb, hb⟩) (above_i _ _ (sz b) (sz a) ⟨nb, hb⟩ ⟨na, ha⟩) w
  have e : (if decide (a < 0) = decide (b < 0) then (if decide (a < 0) = true then decide (sz b < sz a) else decide (sz a < sz b)) else decide (a < 0)) = decide (a < b) := by
    unfold sz
    by_cases h1 : a < 0 <;> by_cases h2 : b < 0 <;> simp only [h1, h2, decide_true, decide_false, if_true, if_false, Bool.true_eq_false, Bool.false_eq_true] <;> first | (rw [decide_eq_decide]; omega) | (symm; rw [decide_eq_true_iff]; omega) | (symm; rw [decide_eq_false_iff_not]; omega)
  rw [e] at this
  exact this
end Go.Proofs.YtdikfcnbkckinaaGreatDoor

/- Walks of surtitleref3: New, Add, Sub, Neg, Mul, Div, over what they call. -/
namespace Go.Proofs.YtdikfcnbkckinaaGreatDoor
open Go.RowKit Go.Shelf
attribute [local go_sem] Oper.semAt_some

theorem Two.put1 {V : World} {R S i : Nat} {x y v : Value} (h : Two V R x y) (n : S ≠ R) : Two (V.setCell ⟨S, i, none⟩ v) R x y := by
  obtain ⟨z, c0, c1, f0, f1⟩ := h
  have n2 : R ≠ S := fun e => n e.symm
  exact ⟨by simpa using z, by go_simp, by go_simp, by go_simp, by go_simp⟩

end Go.Proofs.YtdikfcnbkckinaaGreatDoor

/- Contracts of surtitleref3: lowest, New, Add, Sub, Neg, Mul, as numbers. -/
namespace Go.Proofs.YtdikfcnbkckinaaGreatDoor
open Go.RowKit Go.Shelf
attribute [local go_sem] Oper.semAt_some

theorem sgn_sz (n : Int) : sgnQ (decide (n < 0)) (sz n) = n := by
  unfold sgnQ sz
  by_cases h : n < 0
  · rw [if_pos (decide_eq_true h)]; omega
  · rw [if_neg (by simpa using h)]; omega
theorem sz_le {z : Int} {M : Int} (h : -M ≤ z ∧ z ≤ M) : sz z ≤ M := by unfold sz; omega
end Go.Proofs.YtdikfcnbkckinaaGreatDoor

/- The contracts of surtitleref3.Cmp, surtitleref3.Time and ratio.Time. -/
namespace Go.Proofs.YtdikfcnbkckinaaGreatDoor
open Go.RowKit Go.Shelf
attribute [local go_sem] Oper.semAt_some

set_option maxRecDepth 100000 in
set_option maxHeartbeats 1000000 in
theorem rcmp_walk (an ad bn bd c : Int) (pn qn x y : Bool) (ph pl qh ql : Int) (hc : (x = true ∧ c = -1) ∨ (x = false ∧ y = true ∧ c = 1) ∨ (x = false ∧ y = false ∧ c = 0))
    (HP : ∀ w, Calls Tryz.prog 51 #[.int .i64 an, .int .i64 bd] w fun e w' => e = .returned (.agg #[.bool pn, .int .u64 ph, .int .u64 pl]) ∧ Below w.heap.size w w')
    (HQ : ∀ w, Calls Tryz.prog 51 #[.int .i64 bn, .int .i64 ad] w fun e w' => e = .returned (.agg #[.bool qn, .int .u64 qh, .int .u64 ql]) ∧ Below w.heap.size w w')
    (HX : ∀ w, Calls Tryz.prog 52 #[.agg #[.bool pn, .int .u64 ph, .int .u64 pl], .agg #[.bool qn, .int .u64 qh, .int .u64 ql]] w fun e w' => e = .returned (.bool x) ∧ Below w.heap.size w w')
    (HY : ∀ w, Calls Tryz.prog 52 #[.agg #[.bool qn, .int .u64 qh, .int .u64 ql], .agg #[.bool pn, .int .u64 ph, .int .u64 pl]] w fun e w' => e = .returned (.bool y) ∧ Below w.heap.size w w') (w : World) :
    Calls Tryz.prog 31 #[.agg #[.int .i64 an, .int .i64 ad], .agg #[.int .i64 bn, .int .i64 bd]] w fun e w' => e = .returned (.int .i64 c) ∧ Below w.heap.size w w' := by
  have HP := hideR HP
  have HQ := hideR HQ
  have HX := hideR HX
  have HY := hideR HY
  rcases hc with ⟨rfl, rfl⟩ | ⟨rfl, rfl, rfl⟩ | ⟨rfl, rfl, rfl⟩
  all_goals (
    go_enter Tryz.func31, Tryz.ntmps31
    go_wp2_with fail
    go_at_call 51
    refine Calls.mono (HP.out _) ?_
    rintro e w1 ⟨rfl, b1⟩
    have A1 := (((Two.new w (.int .i64 an) (.int .i64 ad) 23).alloc (.cells #[.int .i64 bn, .int .i64 bd] 23)).keep b1).alloc (.cells #[.bool pn, .int .u64 ph, .int .u64 pl] 110)
    have D1 := ((Two.new (w.alloc (.cells #[.int .i64 an, .int .i64 ad] 23)) (.int .i64 bn) (.int .i64 bd) 23).keep b1).alloc (.cells #[.bool pn, .int .u64 ph, .int .u64 pl] 110)
    rw [show (w.alloc (.cells #[.int .i64 an, .int .i64 ad] 23)).heap.size = w.heap.size + 1 by simp] at D1
    have X1 := Tri.new w1 pn ph pl 110
    have B1 := bup (bup (bel2 w _ _) b1) (bel1 w1 (.cells #[.bool pn, .int .u64 ph, .int .u64 pl] 110))
    clear b1
    obtain ⟨_, a0, a1, _, _⟩ := id A1
    obtain ⟨_, d0, d1, _, _⟩ := id D1
    go_wp2_with fail
    go_at_call 51
    refine Calls.mono (HQ.out _) ?_
    rintro e w2 ⟨rfl, b2⟩
    have X2 := (X1.keep b2).alloc (.cells #[.bool qn, .int .u64 qh, .int .u64 ql] 110)
    have Y2 := Tri.new w2 qn qh ql 110
    have B2 := bup (bup B1 b2) (bel1 w2 (.cells #[.bool qn, .int .u64 qh, .int .u64 ql] 110))
    clear A1 D1 X1 B1 b2 a0 a1 d0 d1
    obtain ⟨_, x0, x1, x2, _, _, _⟩ := id X2
    obtain ⟨_, y0, y1, y2, _, _, _⟩ := id Y2
    go_wp2_with fail
    go_at_call 52
    refine Calls.mono (HX.out _) ?_
    rintro e w3 ⟨rfl, b3⟩
    have X3 := X2.keep b3
    have Y3 := Y2.keep b3
    have B3 := bup B2 b3
    clear X2 Y2 B2 b3 x0 x1 x2 y0 y1 y2
    obtain ⟨_, x0, x1, x2, _, _, _⟩ := id X3
    obtain ⟨_, y0, y1, y2, _, _, _⟩ := id Y3
    go_wp2_with fail)
  · go_ret
    exact ⟨rfl, B3⟩
  · go_at_call 52
    refine Calls.mono (HY.out _) ?_
    rintro e w4 ⟨rfl, b4⟩
    go_wp2_with fail
    go_ret
    exact ⟨rfl, bup B3 b4⟩
  · go_at_call 52
    refine Calls.mono (HY.out _) ?_
    rintro e w4 ⟨rfl, b4⟩
    go_wp2_with fail
    go_ret
    exact ⟨rfl, bup B3 b4⟩
theorem mul64_sz {x y : Int} (hx : I64 x) (hy : I64 y) : sz (x * y) < 340282366920938463463374607431768211456 := by
  unfold I64 at hx hy
  have := mul_bounds (x := x) (y := y) (X := 9223372036854775808) (Y := 9223372036854775808) ⟨by omega, by omega⟩ ⟨by omega, by omega⟩
  unfold sz
  omega
theorem rcmp_any (a b : Rt) (ha : RtIn a) (hb : RtIn b) (w : World) :
    Calls Tryz.prog 31 #[rtv a, rtv b] w fun e w' => e = .returned (.int .i64 (cmpI a b)) ∧ Below w.heap.size w w' := by
  have s1 := mul64_sz ha.1 hb.2
  have s2 := mul64_sz hb.1 ha.2
  refine rcmp_walk a.N a.D b.N b.D _ _ _ _ _ _ _ _ _ ?_ (rtimes_any _ _ ha.1 hb.2) (rtimes_any _ _ hb.1 ha.2) (rless_any _ _ s1 s2) (rless_any _ _ s2 s1) w
  unfold cmpI
  by_cases h1 : a.N * b.D < b.N * a.D
  · exact .inl ⟨decide_eq_true h1, if_pos h1⟩
  · by_cases h2 : b.N * a.D < a.N * b.D
    · exact .inr (.inl ⟨decide_eq_false h1, decide_eq_true h2, by rw [if_neg h1, if_pos h2]⟩)
    · exact .inr (.inr ⟨decide_eq_false h1, decide_eq_false h2, by rw [if_neg h1, if_neg h2]⟩)

/-- What Time tells. -/
def timeA (r : Rt) : Int := if rightB r = true ∧ r.D ≤ 1048576 then (if r.N < 0 ∨ 0 < cmpI r ⟨360000, 1⟩ then 31 else 0) else 12

set_option maxRecDepth 100000 in
set_option maxHeartbeats 1000000 in
theorem rtime_walk (an ad c e : Int) (ok : Bool) (hr : (ok = false ∧ e = 12) ∨ (ok = true ∧ 1048576 < ad ∧ e = 12) ∨ (ok = true ∧ ¬ 1048576 < ad ∧ an < 0 ∧ e = 31) ∨ (ok = true ∧ ¬ 1048576 < ad ∧ ¬ an < 0 ∧ 0 < c ∧ e = 31) ∨ (ok = true ∧ ¬ 1048576 < ad ∧ ¬ an < 0 ∧ ¬ 0 < c ∧ e = 0))
    (HR : ∀ w, Calls Tryz.prog 50 #[.agg #[.int .i64 an, .int .i64 ad]] w fun e w' => e = .returned (.bool ok) ∧ Below w.heap.size w w')
    (HC : ∀ w, Calls Tryz.prog 31 #[.agg #[.int .i64 an, .int .i64 ad], .agg #[.int .i64 360000, .int .i64 1]] w fun e w' => e = .returned (.int .i64 c) ∧ Below w.heap.size w w') (w : World) :
    Calls Tryz.prog 30 #[.agg #[.int .i64 an, .int .i64 ad]] w fun e' w' => e' = .returned (.int .i64 e) ∧ Below w.heap.size w w' := by
  have HR := hideR HR
  have HC := hideR HC
  rcases hr with ⟨rfl, rfl⟩ | ⟨rfl, h1, rfl⟩ | ⟨rfl, h1, h2, rfl⟩ | ⟨rfl, h1, h2, h3, rfl⟩ | ⟨rfl, h1, h2, h3, rfl⟩
  all_goals (
    go_enter Tryz.func30, Tryz.ntmps30
    go_wp2_with fail
    go_at_call 50
    refine Calls.mono (HR.out _) ?_
    rintro e w1 ⟨rfl, b1⟩
    have A1 := (Two.new w (.int .i64 an) (.int .i64 ad) 23).keep b1
    have B1 := bup (bel1 w _) b1
    clear b1
    obtain ⟨_, a0, a1, _, _⟩ := id A1
    go_wp2_with fail)
  · go_ret
    exact ⟨rfl, B1⟩
  · go_ret
    exact ⟨rfl, B1⟩
  · go_ret
    exact ⟨rfl, B1⟩
  all_goals (
    go_at_call 31
    refine Calls.mono (HC.out _) ?_
    rintro e w2 ⟨rfl, b2⟩
    go_wp2_with fail
    go_ret
    exact ⟨rfl, bup B1 b2⟩)

set_option maxRecDepth 100000 in
set_option maxHeartbeats 1000000 in
theorem time_walk (an ad c e : Int) (ok : Bool) (hr : (ok = false ∧ e = 12) ∨ (ok = true ∧ 1048576 < ad ∧ e = 12) ∨ (ok = true ∧ ¬ 1048576 < ad ∧ an < 0 ∧ e = 31) ∨ (ok = true ∧ ¬ 1048576 < ad ∧ ¬ an < 0 ∧ 0 < c ∧ e = 31) ∨ (ok = true ∧ ¬ 1048576 < ad ∧ ¬ an < 0 ∧ ¬ 0 < c ∧ e = 0))
    (HR : ∀ w, Calls Tryz.prog 34 #[.agg #[.int .i64 an, .int .i64 ad]] w fun e w' => e = .returned (.bool ok) ∧ Below w.heap.size w w')
    (HC : ∀ w, Calls Tryz.prog 18 #[.agg #[.int .i64 an, .int .i64 ad], .agg #[.int .i64 360000, .int .i64 1]] w fun e w' => e = .returned (.int .i64 c) ∧ Below w.heap.size w w') (w : World) :
    Calls Tryz.prog 17 #[.agg #[.int .i64 an, .int .i64 ad]] w fun e' w' => e' = .returned (.int .i64 e) ∧ Below w.heap.size w w' := by
  have HR := hideR HR
  have HC := hideR HC
  rcases hr with ⟨rfl, rfl⟩ | ⟨rfl, h1, rfl⟩ | ⟨rfl, h1, h2, rfl⟩ | ⟨rfl, h1, h2, h3, rfl⟩ | ⟨rfl, h1, h2, h3, rfl⟩
  all_goals (
    go_enter Tryz.func17, Tryz.ntmps17
    go_wp2_with fail
    go_at_call 34
    refine Calls.mono (HR.out _) ?_
    rintro e w1 ⟨rfl, b1⟩
    have A1 := (Two.new w (.int .i64 an) (.int .i64 ad) 23).keep b1
    have B1 := bup (bel1 w _) b1
    clear b1
    obtain ⟨_, a0, a1, _, _⟩ := id A1
    go_wp2_with fail)
  · go_ret
    exact ⟨rfl, B1⟩
  · go_ret
    exact ⟨rfl, B1⟩
  · go_ret
    exact ⟨rfl, B1⟩
  all_goals (
    go_at_call 18
    refine Calls.mono (HC.out _) ?_
    rintro e w2 ⟨rfl, b2⟩
    go_wp2_with fail
    go_ret
    exact ⟨rfl, bup B1 b2⟩)

theorem timeA_cases (r : Rt) : (rightB r = false ∧ timeA r = 12) ∨ (rightB r = true ∧ 1048576 < r.D ∧ timeA r = 12) ∨ (rightB r = true ∧ ¬ 1048576 < r.D ∧ r.N < 0 ∧ timeA r = 31) ∨ (rightB r = true ∧ ¬ 1048576 < r.D ∧ ¬ r.N < 0 ∧ 0 < cmpI r ⟨360000, 1⟩ ∧ timeA r = 31) ∨ (rightB r = true ∧ ¬ 1048576 < r.D ∧ ¬ r.N < 0 ∧ ¬ 0 < cmpI r ⟨360000, 1⟩ ∧ timeA r = 0) := by
  unfold timeA
  by_cases h0 : rightB r = true
  · by_cases h1 : 1048576 < r.D
    · exact .inr (.inl ⟨h0, h1, if_neg (by omega)⟩)
    · rw [if_pos ⟨h0, by omega⟩]
      by_cases h2 : r.N < 0
      · exact .inr (.inr (.inl ⟨h0, h1, h2, if_pos (.inl h2)⟩))
      · by_cases h3 : 0 < cmpI r ⟨360000, 1⟩
        · exact .inr (.inr (.inr (.inl ⟨h0, h1, h2, h3, if_pos (.inr h3)⟩)))
        · exact .inr (.inr (.inr (.inr ⟨h0, h1, h2, h3, if_neg (by omega)⟩)))
  · rw [if_neg (fun h => h0 h.1)]
    exact .inl ⟨by simpa using h0, rfl⟩
theorem rtime_any (a : Rt) (ha : RtIn a) (w : World) :
    Calls Tryz.prog 30 #[rtv a] w fun e w' => e = .returned (.int .i64 (timeA a)) ∧ Below w.heap.size w w' :=
  rtime_walk a.N a.D _ _ _ (timeA_cases a) (rright_r a ha) (rcmp_any a ⟨360000, 1⟩ ha ⟨⟨by simp, by simp⟩, ⟨by simp, by simp⟩⟩) w
theorem time_any (a : Rt) (ha : RtIn a) (w : World) :
    Calls Tryz.prog 17 #[rtv a] w fun e w' => e = .returned (.int .i64 (timeA a)) ∧ Below w.heap.size w w' :=
  time_walk a.N a.D _ _ _ (timeA_cases a) (right_any a ha) (cmp_any a ⟨360000, 1⟩ ha ⟨⟨by simp, by simp⟩, ⟨by simp, by simp⟩⟩) w
end Go.Proofs.YtdikfcnbkckinaaGreatDoor
