/- Contracts of package ratio: made, Whole. -/
import Derived.Test.YtaipdckakgohjaaGreatDoorRatT
namespace Go.Proofs.YtaipdckakgohjaaGreatDoor
open Go.RowKit Go.Shelf
attribute [local go_sem] Oper.semAt_some

theorem Two.two {V : World} {R : Nat} {x y : Value} (h : Two V R x y) : V.cell? ⟨R, 0, none⟩ = some x ∧ V.cell? ⟨R, 1, none⟩ = some y := ⟨h.2.1, h.2.2.1⟩
theorem set_apart2 {V : World} {A B i j : Nat} {x : Value} (h : A ≠ B) : (V.setCell ⟨A, i, none⟩ x).cell? ⟨B, j, none⟩ = V.cell? ⟨B, j, none⟩ :=
  World.cell?_setCell_other _ _ _ _ (fun e => h (congrArg Addr.block e))

/-- what made tells -/
def madeA (z dd how : Int) : Int × Int := if howB how = true then (if inNum (wholeI how z dd) = true then (wholeI how z dd, 0) else (0, 12)) else (0, 1)
theorem madeA_in (z dd how : Int) (h : howB how = true) : (inNum (wholeI how z dd) = true ∧ madeA z dd how = (if inNum (wholeI how z dd) = true then wholeI how z dd else 0, 0)) ∨ (inNum (wholeI how z dd) = false ∧ madeA z dd how = (0, 12)) := by
  unfold madeA
  rw [if_pos h]
  cases hi : inNum (wholeI how z dd)
  · exact .inr ⟨rfl, if_neg (by simp)⟩
  · exact .inl ⟨rfl, by rw [if_pos rfl, if_pos rfl]⟩
theorem In128.add1 {a : Int} (h0 : -21267647932558653966460912964485513216 ≤ a) (h1 : a ≤ 21267647932558653966460912964485513216) : In128 (a + 1) := by unfold In128; omega
theorem ediv_bounds (a d B : Int) (hd : 0 < d) (hB : 0 ≤ B) (h0 : -B ≤ a) (h1 : a ≤ B) : -B ≤ a / d ∧ a / d ≤ B := by
  constructor
  · apply Int.le_ediv_of_mul_le hd
    have : -B * d ≤ -B * 1 := Int.mul_le_mul_of_nonpos_left (by omega) (by omega)
    omega
  · have : a / d ≤ B / d := Int.ediv_le_ediv hd h1
    have : B / d ≤ B := Int.ediv_le_self _ hB
    omega

end Go.Proofs.YtaipdckakgohjaaGreatDoor
