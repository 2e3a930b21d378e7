/- The digits of a number, read again. -/
import Derived.Test.YtmofjkfghidlnaaDoorRatP2
import Derived.Lib.ItoaMem
namespace Go.Proofs.YtmofjkfghidlnaaDoor
open Go.Lib (decDigits)

theorem dig_of (d : Nat) (h : d < 10) : isDig (UInt8.ofNat (48 + d)) = true ∧ (UInt8.ofNat (48 + d)).toNat = 48 + d := by
  have e : (UInt8.ofNat (48 + d)).toNat = 48 + d := by rw [UInt8.toNat_ofNat']; omega
  exact ⟨by unfold isDig; rw [e]; exact decide_eq_true ⟨by omega, by omega⟩, e⟩
theorem dd_all (u : Nat) : (decDigits u).all isDig = true := by
  induction u using Nat.strongRecOn with
  | _ u ih =>
    rw [decDigits]
    split
    · rename_i h
      rw [List.all_cons, List.all_nil, (dig_of u h).1]
      rfl
    · rw [List.all_append, ih (u / 10) (by omega), List.all_cons, List.all_nil, (dig_of (u % 10) (by omega)).1]
      rfl
theorem dd_val (u : Nat) : valN (decDigits u) = u := by
  induction u using Nat.strongRecOn with
  | _ u ih =>
    rw [decDigits]
    split
    · rename_i h
      show 0 * 10 + ((UInt8.ofNat (48 + u)).toNat - 48) = u
      rw [(dig_of u h).2]
      omega
    · rename_i h
      have := ih (u / 10) (by omega)
      unfold valN at this ⊢
      rw [List.foldl_append, this]
      simp only [List.foldl_cons, List.foldl_nil]
      rw [(dig_of (u % 10) (by omega)).2]
      omega
theorem dd_ne (u : Nat) : decDigits u ≠ [] := by
  rw [decDigits]
  split <;> simp
theorem dd_head (u : Nat) (h0 : 0 < u) : (decDigits u).head? ≠ some 48 := by
  induction u using Nat.strongRecOn with
  | _ u ih =>
    rw [decDigits]
    split
    · rename_i h
      intro e
      have e2 := congrArg UInt8.toNat (Option.some.inj (show some (UInt8.ofNat (48 + u)) = some 48 from e))
      rw [(dig_of u h).2, show (48 : UInt8).toNat = 48 from rfl] at e2
      omega
    · rename_i h
      have := ih (u / 10) (by omega) (by omega)
      cases hd : decDigits (u / 10) with
      | nil => exact absurd hd (dd_ne _)
      | cons x t =>
        rw [hd] at this
        exact this
theorem dd_len : ∀ (k u : Nat), u < 10 ^ (k + 1) → (decDigits u).length ≤ k + 1
  | 0, u, h => by rw [decDigits, dif_pos (by simpa using h)]; simp
  | k + 1, u, h => by
    rw [decDigits]
    split
    · simp
    · have := dd_len k (u / 10) (by rw [Nat.pow_succ] at h; omega)
      simp
      omega
theorem dd_num (u : Nat) : numB (decDigits u) = true := by
  unfold numB digB
  rw [dd_all]
  have h1 : (decDigits u != []) = true := by simpa using dd_ne u
  rw [h1]
  by_cases h : 0 < u
  · have := dd_head u h
    simp [this]
  · obtain rfl : u = 0 := by omega
    rw [decDigits, dif_pos (by omega)]
    rfl
theorem ib_not (l : List UInt8) (c : UInt8) (h : c ∉ l) : Go.Lib.indexByte l c = -1 := by
  induction l with
  | nil => rfl
  | cons b l ih =>
    have h1 : (b == c) = false := by
      rw [beq_eq_false_iff_ne]
      intro e
      exact h (by rw [e]; exact List.mem_cons_self)
    have h2 := ih (fun m => h (List.mem_cons_of_mem _ m))
    unfold Go.Lib.indexByte
    rw [h1, h2]
    rfl
theorem ib_at (l m : List UInt8) (c : UInt8) (h : c ∉ l) : Go.Lib.indexByte (l ++ c :: m) c = (l.length : Int) := by
  induction l with
  | nil => simp [Go.Lib.indexByte]
  | cons b l ih =>
    have h1 : (b == c) = false := by
      rw [beq_eq_false_iff_ne]
      intro e
      exact h (by rw [e]; exact List.mem_cons_self)
    have h2 := ih (fun m => h (List.mem_cons_of_mem _ m))
    rw [List.cons_append]
    unfold Go.Lib.indexByte
    rw [h1, h2, if_neg (by simp), if_neg (by simp)]
    simp
theorem cut_not (l : List UInt8) (c : UInt8) (h : c ∉ l) : Go.Lib.cut l [c] = (l, [], false) := by
  unfold Go.Lib.cut
  rw [Go.Lib.index_one, ib_not l c h]
  rfl
theorem cut_at (l m : List UInt8) (c : UInt8) (h : c ∉ l) : Go.Lib.cut (l ++ c :: m) [c] = (l, m, true) := by
  unfold Go.Lib.cut
  rw [Go.Lib.index_one, ib_at l m c h, if_pos (by omega)]
  simp
theorem dd_not (u : Nat) (c : UInt8) (h : isDig c = false) : c ∉ decDigits u := fun hm => by
  have := List.all_eq_true.1 (dd_all u) c hm
  rw [h] at this
  cases this
end Go.Proofs.YtmofjkfghidlnaaDoor
