/- Contracts of surtitleref3's numbers of 128 bits with a sign: size, right, above, Times, Plus, Less, fits, number, common. -/
import Derived.Test.YteekkbhgphbblaaRatT
import Derived.Test.YteekkbhgphbblaaRatW9
namespace Go.Proofs.Yteekkbhgphbblaa
open Go.RowKit Go.Shelf
attribute [local go_sem] Oper.semAt_some

/-- A number with its sign apart, as the reference holds it. -/
def nv (z : Int) : Value := .agg #[.bool (decide (z < 0)), .int .u64 (hiZ (sz z)), .int .u64 (loZ (sz z))]

/-- A size and a sign as the number that they are. -/
def sgnQ (ng : Bool) (m : Int) : Int := if ng = true then -m else m
theorem nv_sgn (ng : Bool) (m : Int) (h0 : 0 ≤ m) (h1 : m < 340282366920938463463374607431768211456) :
    (.agg #[.bool (ng && !(hiZ m == 0 && loZ m == 0)), .int .u64 (hiZ m), .int .u64 (loZ m)] : Value) = nv (sgnQ ng m) := by
  have e1 : sz (sgnQ ng m) = m := by unfold sz sgnQ; split <;> omega
  have e2 : (ng && !(hiZ m == 0 && loZ m == 0)) = decide (sgnQ ng m < 0) := by
    have e3 : (hiZ m == 0 && loZ m == 0) = decide (m = 0) := by
      rw [Bool.eq_iff_iff]
      simp only [Bool.and_eq_true, beq_iff_eq, decide_eq_true_eq]
      unfold hiZ loZ
      omega
    rw [e3]
    unfold sgnQ
    cases ng
    · rw [Bool.false_and, if_neg (by simp), eq_comm, decide_eq_false_iff_not]
      omega
    · rw [Bool.true_and, if_pos rfl, Bool.eq_iff_iff]
      simp only [Bool.not_eq_true', decide_eq_false_iff_not, decide_eq_true_eq]
      omega
  unfold nv
  rw [e1, e2]
theorem ret_bool {p q : Prop} [Decidable p] [Decidable q] (h : p ↔ q) : Ending.returned (.bool (decide p)) = .returned (.bool (decide q)) := by rw [decide_eq_decide.2 h]
theorem times_sign (a b : Int) : sgnQ (!decide (a < 0) == decide (b < 0)) (sz a * sz b) = a * b := by
  unfold sgnQ
  cases h : (decide (a < 0) != decide (b < 0))
  · rw [if_neg (by revert h; cases decide (a < 0) <;> cases decide (b < 0) <;> simp), sz_mul_same a b h]
  · rw [if_pos (by revert h; cases decide (a < 0) <;> cases decide (b < 0) <;> simp), sz_mul_other a b h]

end Go.Proofs.Yteekkbhgphbblaa
