/- The contracts of surtitleref3.Cmp, surtitleref3.Time and ratio.Time. -/
import Derived.Test.YteekkbhgphbblaaRefA5
import Derived.Test.YteekkbhgphbblaaRefA6
namespace Go.Proofs.Yteekkbhgphbblaa
open Go.RowKit Go.Shelf
attribute [local go_sem] Oper.semAt_some

theorem mul64_sz {x y : Int} (hx : I64 x) (hy : I64 y) : sz (x * y) < 340282366920938463463374607431768211456 := by
  unfold I64 at hx hy
  have := mul_bounds (x := x) (y := y) (X := 9223372036854775808) (Y := 9223372036854775808) ⟨by omega, by omega⟩ ⟨by omega, by omega⟩
  unfold sz
  omega
/-- What Time tells. -/
def timeA (r : Rt) : Int := if rightB r = true ∧ r.D ≤ 1048576 then (if r.N < 0 ∨ 0 < cmpI r ⟨360000, 1⟩ then 31 else 0) else 12

theorem timeA_cases (r : Rt) : (rightB r = false ∧ timeA r = 12) ∨ (rightB r = true ∧ 1048576 < r.D ∧ timeA r = 12) ∨ (rightB r = true ∧ ¬ 1048576 < r.D ∧ r.N < 0 ∧ timeA r = 31) ∨ (rightB r = true ∧ ¬ 1048576 < r.D ∧ ¬ r.N < 0 ∧ 0 < cmpI r ⟨360000, 1⟩ ∧ timeA r = 31) ∨ (rightB r = true ∧ ¬ 1048576 < r.D ∧ ¬ r.N < 0 ∧ ¬ 0 < cmpI r ⟨360000, 1⟩ ∧ timeA r = 0) := by
  unfold timeA
  by_cases h0 : rightB r = true
  · by_cases h1 : 1048576 < r.D
    · exact .inr (.inl ⟨h0, h1, if_neg (by omega)⟩)
    · rw [if_pos ⟨h0, by omega⟩]
      by_cases h2 : r.N < 0
      · exact .inr (.inr (.inl ⟨h0, h1, h2, if_pos (.inl h2)⟩))
      · by_cases h3 : 0 < cmpI r ⟨360000, 1⟩
        · exact .inr (.inr (.inr (.inl ⟨h0, h1, h2, h3, if_pos (.inr h3)⟩)))
        · exact .inr (.inr (.inr (.inr ⟨h0, h1, h2, h3, if_neg (by omega)⟩)))
  · rw [if_neg (fun h => h0 h.1)]
    exact .inl ⟨by simpa using h0, rfl⟩
end Go.Proofs.Yteekkbhgphbblaa
