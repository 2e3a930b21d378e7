/- Contracts of package ratio: lowest terms; New, Right, Add, Sub, Mul, Neg, Cmp. -/
import Derived.Test.YtdikfcnbkckinaaGreatDoorRatW5
namespace Go.Proofs.YtdikfcnbkckinaaGreatDoor
open Go.RowKit Go.Shelf
attribute [local go_sem] Oper.semAt_some

theorem low_cases (n d g : Int) (hd : 0 < d) (hg : g = ((n % d).toNat.gcd d.toNat : Nat)) :
    (inNum (n / g) = false → low (Rat.divInt n d) = (⟨0, 0⟩, 12)) ∧ (inNum (n / g) = true → 2147483648 < d / g → low (Rat.divInt n d) = (⟨0, 0⟩, 12)) ∧ (inNum (n / g) = true → d / g ≤ 2147483648 → low (Rat.divInt n d) = (⟨n / g, d / g⟩, 0)) := by
  rw [low_eq n d g hd hg]
  unfold inNum
  refine ⟨fun h => if_neg ?_, fun h k => if_neg ?_, fun h k => if_pos ?_⟩
  · have := of_decide_eq_false h; omega
  · omega
  · have := of_decide_eq_true h; omega
theorem gcd_range (n d : Int) (hd : 0 < d) : 0 < (((n % d).toNat.gcd d.toNat : Nat) : Int) ∧ (((n % d).toNat.gcd d.toNat : Nat) : Int) ≤ d := by
  have h1 : 0 < (n % d).toNat.gcd d.toNat := Nat.gcd_pos_of_pos_right _ (by omega)
  have h2 : (n % d).toNat.gcd d.toNat ≤ d.toNat := Nat.gcd_le_right _ (by omega)
  omega
theorem inNum_wf (k : Int) (h : inNum k = true) : -4611686018427387904 ≤ k ∧ k ≤ 4611686018427387904 := of_decide_eq_true h

end Go.Proofs.YtdikfcnbkckinaaGreatDoor
