/- Walks of surtitleref3: New, Add, Sub, Neg, Mul, Div, over what they call. -/
import Derived.Test.YteekkbhgphbblaaRefA5
import Derived.Test.YteekkbhgphbblaaRefA6
namespace Go.Proofs.Yteekkbhgphbblaa
open Go.RowKit Go.Shelf
attribute [local go_sem] Oper.semAt_some

theorem Two.put1 {V : World} {R S i : Nat} {x y v : Value} (h : Two V R x y) (n : S ≠ R) : Two (V.setCell ⟨S, i, none⟩ v) R x y := by
  obtain ⟨z, c0, c1, f0, f1⟩ := h
  have n2 : R ≠ S := fun e => n e.symm
  exact ⟨by simpa using z, by go_simp, by go_simp, by go_simp, by go_simp⟩

end Go.Proofs.Yteekkbhgphbblaa
