/- Contracts of package ratio: Div. -/
import Derived.Test.YtpbedjabbehhgaaRatT
namespace Go.Proofs.Ytpbedjabbehhgaa
open Go.RowKit Go.Shelf
attribute [local go_sem] Oper.semAt_some

theorem set_apart {V : World} {A B i j : Nat} {x : Value} (h : A ≠ B) : (V.setCell ⟨A, i, none⟩ x).cell? ⟨B, j, none⟩ = V.cell? ⟨B, j, none⟩ :=
  World.cell?_setCell_other _ _ _ _ (fun e => h (congrArg Addr.block e))
theorem keep4o {A B R : Nat} {V : World} {a0 a1 b0 b1 x y : Value} (nA : R ≠ A) (nB : R ≠ B)
    (h : V.cell? ⟨A, 0, none⟩ = some a0 ∧ V.cell? ⟨A, 1, none⟩ = some a1 ∧ V.cell? ⟨B, 0, none⟩ = some b0 ∧ V.cell? ⟨B, 1, none⟩ = some b1) :
    ((V.setCell ⟨R, 0, none⟩ x).setCell ⟨R, 1, none⟩ y).cell? ⟨A, 0, none⟩ = some a0 ∧ ((V.setCell ⟨R, 0, none⟩ x).setCell ⟨R, 1, none⟩ y).cell? ⟨A, 1, none⟩ = some a1 ∧ ((V.setCell ⟨R, 0, none⟩ x).setCell ⟨R, 1, none⟩ y).cell? ⟨B, 0, none⟩ = some b0 ∧ ((V.setCell ⟨R, 0, none⟩ x).setCell ⟨R, 1, none⟩ y).cell? ⟨B, 1, none⟩ = some b1 := by
  simp only [set_apart nA, set_apart nB]
  exact h

end Go.Proofs.Ytpbedjabbehhgaa
