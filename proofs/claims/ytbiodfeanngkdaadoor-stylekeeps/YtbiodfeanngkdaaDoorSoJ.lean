/- Stretches in order, merged two by two: the mathematics of slices.stableCmpFunc. -/
import Derived.Test.YtbiodfeanngkdaaDoorSoI
namespace Go.Proofs.YtbiodfeanngkdaaDoor
open Go.RowKit Go.Shelf

theorem blk_step {B : Nat} {D X M : List Sp} {k a c : Nat} (h : Blk B D X k) (ha : k * B = a) (han : a ≤ D.length) (hc : c = min B (D.length - a)) (hM : M = isort ltS ((D.drop a).take B)) :
    Blk B D (X.take a ++ (M ++ X.drop (a + c))) (k + 1) ∧ (X.take a ++ (M ++ X.drop (a + c))).drop (a + c) = X.drop (a + c) := by
  have hl := h.len
  have hMl : M.length = c := by rw [hM, isort_length, List.length_take, List.length_drop, hc]
  have hP : (X.take a).length = a := by rw [List.length_take]; omega
  have e1 : (X.take a ++ (M ++ X.drop (a + c))).drop a = M ++ X.drop (a + c) := by
    conv => lhs; rw [show a = (X.take a).length from hP.symm]
    rw [hP, List.drop_append_of_le_length (by omega), List.drop_eq_nil_of_le (by omega), List.nil_append]
  refine ⟨blk_next h ha ?_ ?_ ?_, ?_⟩
  · rw [List.length_append, List.length_append, hP, hMl, List.length_drop]; omega
  · rw [List.take_append_of_le_length (by omega), List.take_of_length_le (by omega)]
  · rw [e1, ← hM]
    by_cases hB : c = B
    · rw [List.take_append_of_le_length (by omega), List.take_of_length_le (by omega)]
    · rw [List.drop_eq_nil_of_le (by omega : X.length ≤ a + c), List.append_nil, List.take_of_length_le (by omega)]
  · rw [← List.drop_drop, e1, List.drop_append_of_le_length (by omega), List.drop_eq_nil_of_le (by omega), List.nil_append]
theorem blk_full {B : Nat} {D Y : List Sp} {k : Nat} (h : Blk B D Y k) (hk : D.length ≤ k * B) (j : Nat) : (Y.drop (j * B)).take B = isort ltS ((D.drop (j * B)).take B) := by
  by_cases hj : j < k
  · exact h.done j hj
  · have h1 := Nat.mul_le_mul_right B (show k ≤ j by omega)
    rw [List.drop_eq_nil_of_le (by rw [h.len]; omega), List.drop_eq_nil_of_le (by omega), List.take_nil]
    rfl
theorem blk_two {B : Nat} {D Y : List Sp} (F : ∀ j, (Y.drop (j * B)).take B = isort ltS ((D.drop (j * B)).take B)) (k a : Nat) (ha : k * (2 * B) = a) :
    mg ltS ((Y.drop a).take B) ((Y.drop (a + B)).take B) = isort ltS ((D.drop a).take (2 * B)) := by
  have e1 : (2 * k) * B = a := by rw [← ha, Nat.mul_comm 2 k, Nat.mul_assoc]
  have e2 : (2 * k + 1) * B = a + B := by rw [Nat.add_mul, e1, Nat.one_mul]
  have f1 := F (2 * k)
  have f2 := F (2 * k + 1)
  rw [e1] at f1
  rw [e2] at f2
  rw [f1, f2, ← isort_append swoS, Nat.two_mul, List.take_add, List.drop_drop]
theorem blk_srt {B : Nat} {D Y : List Sp} (F : ∀ j, (Y.drop (j * B)).take B = isort ltS ((D.drop (j * B)).take B)) (k a : Nat) (ha : k * (2 * B) = a) :
    Srt ltS ((Y.drop a).take B) ∧ Srt ltS ((Y.drop (a + B)).take B) := by
  have e1 : (2 * k) * B = a := by rw [← ha, Nat.mul_comm 2 k, Nat.mul_assoc]
  have e2 : (2 * k + 1) * B = a + B := by rw [Nat.add_mul, e1, Nat.one_mul]
  have f1 := F (2 * k)
  have f2 := F (2 * k + 1)
  rw [e1] at f1
  rw [e2] at f2
  exact ⟨by rw [f1]; exact isort_sorted swoS _, by rw [f2]; exact isort_sorted swoS _⟩
theorem cut3 {α : Type} (Z : List α) (a c d : Nat) : Z = Z.take a ++ ((Z.drop a).take c ++ ((Z.drop (a + c)).take d ++ Z.drop (a + c + d))) := by
  rw [← List.drop_drop (i := d), List.take_append_drop, ← List.drop_drop (i := c), List.take_append_drop, List.take_append_drop]
end Go.Proofs.YtbiodfeanngkdaaDoor
