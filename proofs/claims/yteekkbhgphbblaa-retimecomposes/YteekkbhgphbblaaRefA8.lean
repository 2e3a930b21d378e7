/- Contracts of surtitleref3: lowest, New, Add, Sub, Neg, Mul, as numbers. -/
import Derived.Test.YteekkbhgphbblaaRefLa
import Derived.Test.YteekkbhgphbblaaRefLb
import Derived.Test.YteekkbhgphbblaaRefA7
namespace Go.Proofs.Yteekkbhgphbblaa
open Go.RowKit Go.Shelf
attribute [local go_sem] Oper.semAt_some

theorem sgn_sz (n : Int) : sgnQ (decide (n < 0)) (sz n) = n := by
  unfold sgnQ sz
  by_cases h : n < 0
  · rw [if_pos (decide_eq_true h)]; omega
  · rw [if_neg (by simpa using h)]; omega
theorem sz_le {z : Int} {M : Int} (h : -M ≤ z ∧ z ≤ M) : sz z ≤ M := by unfold sz; omega
end Go.Proofs.Yteekkbhgphbblaa
