/- Contracts of package ratio: Add, Sub, Mul, Neg, Cmp. -/
import Derived.Test.YtiebmglbnlhdpaaGreatDoorRatW7
namespace Go.Proofs.YtiebmglbnlhdpaaGreatDoor
open Go.RowKit Go.Shelf
attribute [local go_sem] Oper.semAt_some

theorem keep8 {B : Nat} {V V2 : World} {a0 a1 b0 b1 r0 r1 : Value} (b : Below V.heap.size V V2)
    (h : B + 1 + 1 < V.heap.size ∧ V.cell? ⟨B, 0, none⟩ = some a0 ∧ V.cell? ⟨B, 1, none⟩ = some a1 ∧ V.cell? ⟨B + 1, 0, none⟩ = some b0 ∧ V.cell? ⟨B + 1, 1, none⟩ = some b1 ∧ V.cell? ⟨B + 1 + 1, 0, none⟩ = some r0 ∧ V.cell? ⟨B + 1 + 1, 1, none⟩ = some r1 ∧ V.frozen? ⟨B + 1 + 1, 0, none⟩ = false ∧ V.frozen? ⟨B + 1 + 1, 1, none⟩ = false) :
    B + 1 + 1 < V2.heap.size ∧ V2.cell? ⟨B, 0, none⟩ = some a0 ∧ V2.cell? ⟨B, 1, none⟩ = some a1 ∧ V2.cell? ⟨B + 1, 0, none⟩ = some b0 ∧ V2.cell? ⟨B + 1, 1, none⟩ = some b1 ∧ V2.cell? ⟨B + 1 + 1, 0, none⟩ = some r0 ∧ V2.cell? ⟨B + 1 + 1, 1, none⟩ = some r1 ∧ V2.frozen? ⟨B + 1 + 1, 0, none⟩ = false ∧ V2.frozen? ⟨B + 1 + 1, 1, none⟩ = false := by
  obtain ⟨z, h0, h1, h2, h3, h4, h5, h6, h7⟩ := h
  exact ⟨Nat.lt_of_lt_of_le z b.size, (b.cell (p := ⟨B, 0, none⟩) (by show B < _; omega)).trans h0, (b.cell (p := ⟨B, 1, none⟩) (by show B < _; omega)).trans h1, (b.cell (p := ⟨B + 1, 0, none⟩) (by show B + 1 < _; omega)).trans h2, (b.cell (p := ⟨B + 1, 1, none⟩) (by show B + 1 < _; omega)).trans h3, (b.cell (p := ⟨B + 1 + 1, 0, none⟩) z).trans h4, (b.cell (p := ⟨B + 1 + 1, 1, none⟩) z).trans h5, (b.frozen (p := ⟨B + 1 + 1, 0, none⟩) z).trans h6, (b.frozen (p := ⟨B + 1 + 1, 1, none⟩) z).trans h7⟩

theorem keep4 {A B : Nat} {V V2 : World} {a0 a1 b0 b1 : Value} (b : Below V.heap.size V V2) (zA : A < V.heap.size) (zB : B < V.heap.size)
    (h : V.cell? ⟨A, 0, none⟩ = some a0 ∧ V.cell? ⟨A, 1, none⟩ = some a1 ∧ V.cell? ⟨B, 0, none⟩ = some b0 ∧ V.cell? ⟨B, 1, none⟩ = some b1) :
    V2.cell? ⟨A, 0, none⟩ = some a0 ∧ V2.cell? ⟨A, 1, none⟩ = some a1 ∧ V2.cell? ⟨B, 0, none⟩ = some b0 ∧ V2.cell? ⟨B, 1, none⟩ = some b1 :=
  ⟨(b.cell (p := ⟨A, 0, none⟩) zA).trans h.1, (b.cell (p := ⟨A, 1, none⟩) zA).trans h.2.1, (b.cell (p := ⟨B, 0, none⟩) zB).trans h.2.2.1, (b.cell (p := ⟨B, 1, none⟩) zB).trans h.2.2.2⟩

theorem keep4s {B : Nat} {V : World} {a0 a1 b0 b1 x y : Value} (h : V.cell? ⟨B, 0, none⟩ = some a0 ∧ V.cell? ⟨B, 1, none⟩ = some a1 ∧ V.cell? ⟨B + 1, 0, none⟩ = some b0 ∧ V.cell? ⟨B + 1, 1, none⟩ = some b1) :
    ((V.setCell ⟨B + 1 + 1, 0, none⟩ x).setCell ⟨B + 1 + 1, 1, none⟩ y).cell? ⟨B, 0, none⟩ = some a0 ∧ ((V.setCell ⟨B + 1 + 1, 0, none⟩ x).setCell ⟨B + 1 + 1, 1, none⟩ y).cell? ⟨B, 1, none⟩ = some a1 ∧ ((V.setCell ⟨B + 1 + 1, 0, none⟩ x).setCell ⟨B + 1 + 1, 1, none⟩ y).cell? ⟨B + 1, 0, none⟩ = some b0 ∧ ((V.setCell ⟨B + 1 + 1, 0, none⟩ x).setCell ⟨B + 1 + 1, 1, none⟩ y).cell? ⟨B + 1, 1, none⟩ = some b1 := by
  have ne : ∀ (o j : Nat) (c : Nat), c < B + 1 + 1 → (⟨B + 1 + 1, o, none⟩ : Addr) ≠ ⟨c, j, none⟩ := fun o j c hc e => by
    have := congrArg Addr.block e
    simp only at this
    omega
  obtain ⟨h0, h1, h2, h3⟩ := h
  refine ⟨?_, ?_, ?_, ?_⟩
  · rw [World.cell?_setCell_other _ _ _ _ (ne _ _ _ (by omega)), World.cell?_setCell_other _ _ _ _ (ne _ _ _ (by omega)), h0]
  · rw [World.cell?_setCell_other _ _ _ _ (ne _ _ _ (by omega)), World.cell?_setCell_other _ _ _ _ (ne _ _ _ (by omega)), h1]
  · rw [World.cell?_setCell_other _ _ _ _ (ne _ _ _ (by omega)), World.cell?_setCell_other _ _ _ _ (ne _ _ _ (by omega)), h2]
  · rw [World.cell?_setCell_other _ _ _ _ (ne _ _ _ (by omega)), World.cell?_setCell_other _ _ _ _ (ne _ _ _ (by omega)), h3]

theorem den_bounds {a b : Rt} (ha : rightB a = true) (hb : rightB b = true) : 1 ≤ a.D * b.D ∧ a.D * b.D ≤ 4611686018427387904 := by
  have h1 := (right_iff a).1 ha
  have h2 := (right_iff b).1 hb
  constructor
  · have := Int.mul_le_mul h1.1 h2.1 (by omega) (by omega); omega
  · have := Int.mul_le_mul h1.2.1 h2.2.1 (by omega) (by omega); omega
theorem mul_bounds {x y X Y : Int} (hx : -X ≤ x ∧ x ≤ X) (hy : -Y ≤ y ∧ y ≤ Y) : -(X * Y) ≤ x * y ∧ x * y ≤ X * Y := by
  have h1 : (x * y).natAbs ≤ X.natAbs * Y.natAbs := by rw [Int.natAbs_mul]; exact Nat.mul_le_mul (by omega) (by omega)
  have h2 : ((X.natAbs * Y.natAbs : Nat) : Int) = X * Y := by rw [Int.natCast_mul, show (X.natAbs : Int) = X by omega, show (Y.natAbs : Int) = Y by omega]
  omega
theorem top_bounds {a b : Rt} (ha : rightB a = true) (hb : rightB b = true) : -9903520314283042199192993792 ≤ a.N * b.D ∧ a.N * b.D ≤ 9903520314283042199192993792 := by
  have h1 := (right_iff a).1 ha
  have h2 := (right_iff b).1 hb
  have := mul_bounds (x := a.N) (y := b.D) (X := 4611686018427387904) (Y := 2147483648) ⟨by omega, by omega⟩ ⟨by omega, by omega⟩
  omega
theorem nums_bounds {a b : Rt} (ha : rightB a = true) (hb : rightB b = true) : -21267647932558653966460912964485513216 ≤ a.N * b.N ∧ a.N * b.N ≤ 21267647932558653966460912964485513216 := by
  have h1 := (right_iff a).1 ha
  have h2 := (right_iff b).1 hb
  have := mul_bounds (x := a.N) (y := b.N) (X := 4611686018427387904) (Y := 4611686018427387904) ⟨by omega, by omega⟩ ⟨by omega, by omega⟩
  omega

end Go.Proofs.YtiebmglbnlhdpaaGreatDoor
