/- Contracts of package cell's small functions: widths, controls, flag letters; a cluster that grows. -/
import Derived.WalkKit
import Derived.WalkSpells
import Derived.WalkLawsBesides
import Derived.Test.YtdikfcnbkckinaaGreatDoorProg
import Derived.Test.YtdikfcnbkckinaaGreatDoorCellM
namespace Go.Proofs.YtdikfcnbkckinaaGreatDoor
open Go.RowKit

/-- What the table's front up to i has told: nothing. -/
def missed (l : List (Int × Int)) (i : Nat) (r : Int) : Prop := ∀ p ∈ l.take i, ¬ (p.1 ≤ r ∧ r ≤ p.2)
theorem missed_all {l : List (Int × Int)} {r : Int} (h : missed l l.length r) : inTab l r = false := by
  unfold missed at h
  rw [List.take_length] at h
  unfold inTab
  rw [List.any_eq_false]
  intro p hp
  have := h p hp
  simp
  omega
theorem missed_step {l : List (Int × Int)} {i : Nat} {r : Int} {p : Int × Int} (h : missed l i r) (hp : l[i]? = some p) (hn : ¬ (p.1 ≤ r ∧ r ≤ p.2)) : missed l (i + 1) r := by
  unfold missed at *
  intro q hq
  rw [List.take_add_one, hp] at hq
  simp at hq
  rcases hq with hq | rfl
  · exact h q hq
  · exact hn
theorem hit {l : List (Int × Int)} {i : Nat} {r : Int} {p : Int × Int} (hp : l[i]? = some p) (h : p.1 ≤ r ∧ r ≤ p.2) : inTab l r = true := by
  unfold inTab
  rw [List.any_eq_true]
  exact ⟨p, List.mem_of_getElem? hp, by simp [h.1, h.2]⟩

theorem add_next (a : Addr) (n : Nat) : a.add (n + 1) = ⟨(a.add n).block, (a.add n).off + 1, none⟩ := by
  unfold Addr.add
  by_cases h : n = 0
  · subst h; rfl
  · simp [h]; omega

end Go.Proofs.YtdikfcnbkckinaaGreatDoor
