/- slices.symMergeCmpFunc over spans, at every length. -/
import Derived.Test.YtbiodfeanngkdaaDoorSoH
namespace Go.Proofs.YtbiodfeanngkdaaDoor
open Go.RowKit Go.Shelf
variable {κ : Nat}

theorem sym_all (G cap ln : Nat) (hl : ln ≤ 5000) : ∀ k, SymOK κ G cap ln k
  | 0 => fun _ _ _ _ _ _ _ _ _ _ _ h1 h2 hk => by omega
  | k + 1 => fun P L R Q a m b ha hm hb hln h1 h2 hk hsl hsr w hS => by
    by_cases hL : L.length = 1
    · obtain ⟨x, rfl⟩ := List.length_eq_one_iff.1 hL
      exact sym_one P R Q x G cap a m b ln ha (by rw [← hm]; rfl) hb hln hl hsr w (by simpa [rowI] using hS)
    · by_cases hR : R.length = 1
      · obtain ⟨y, rfl⟩ := List.length_eq_one_iff.1 hR
        exact sym_last P L Q y G cap a m b ln ha hm (by rw [← hb]; rfl) hln hl (by omega) hsl w (by simpa [rowI] using hS)
      · exact sym_gen G cap ln k hl (sym_all G cap ln hl k) P L R Q a m b ha hm hb hln (by omega) (by omega) hk hsl hsr w hS

/-- X is D with every stretch of B put in order, in place. -/
structure Blk (B : Nat) (D X : List Sp) (k0 : Nat) : Prop where
  len : X.length = D.length
  done : ∀ k, k < k0 → (X.drop (k * B)).take B = isort ltS ((D.drop (k * B)).take B)
theorem blk_whole {B : Nat} {D X : List Sp} {k0 : Nat} (h : Blk B D X k0) (h0 : 0 < k0) (hB : D.length ≤ B) : X = isort ltS D := by
  have := h.done 0 h0
  rw [Nat.zero_mul, List.drop_zero, List.drop_zero, List.take_of_length_le (by rw [h.len]; exact hB), List.take_of_length_le hB] at this
  exact this
/-- What stands ahead of a is not touched where X is cut at a. -/
theorem take_same {α : Type} (X Y : List α) (a k B : Nat) (h : X.take a = Y.take a) (hk : k * B + B ≤ a) : (X.drop (k * B)).take B = (Y.drop (k * B)).take B := by
  have e : ∀ Z : List α, (Z.drop (k * B)).take B = ((Z.take a).drop (k * B)).take B := fun Z => by
    rw [List.drop_take, List.take_take, Nat.min_eq_left (by omega)]
  rw [e X, e Y, h]
/-- One stretch more is in order. -/
theorem blk_next {B : Nat} {D X Y : List Sp} {k0 a : Nat} (h : Blk B D X k0) (ha : k0 * B = a) (hY : Y.length = D.length) (ht : Y.take a = X.take a) (hn : (Y.drop a).take B = isort ltS ((D.drop a).take B)) : Blk B D Y (k0 + 1) := by
  refine ⟨hY, fun k hk => ?_⟩
  by_cases hk0 : k = k0
  · subst hk0
    rw [ha]
    exact hn
  · have hle : k * B + B ≤ a := by
      have := Nat.mul_le_mul_right B (show k + 1 ≤ k0 by omega)
      rw [Nat.add_mul, Nat.one_mul, ha] at this
      exact this
    rw [take_same Y X a k B ht hle]
    exact h.done k (by omega)
end Go.Proofs.YtbiodfeanngkdaaDoor
