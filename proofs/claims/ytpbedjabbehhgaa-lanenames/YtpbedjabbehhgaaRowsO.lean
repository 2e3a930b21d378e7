/- The contracts of ratio.outermost, Least, Most. -/
import Derived.Test.YtpbedjabbehhgaaRowsM
namespace Go.Proofs.Ytpbedjabbehhgaa
open Go.RowKit Go.Shelf
attribute [local go_sem] Oper.semAt_some

theorem addr_tail (a : Addr) (i : Nat) : (⟨a.block, a.off + 2, none⟩ : Addr).add (i * 2) = a.add ((i + 1) * 2) ∧ (⟨a.block, a.off + 2, none⟩ : Addr).add (i * 2 + 1) = a.add ((i + 1) * 2 + 1) := by
  unfold Addr.add
  constructor
  · by_cases h : i = 0
    · subst h; rfl
    · rw [if_neg (by omega), if_neg (by omega)]; simp only [Addr.mk.injEq, and_true, true_and]; omega
  · rw [if_neg (by omega), if_neg (by omega)]; simp only [Addr.mk.injEq, and_true, true_and]; omega
theorem addr_flat (b o n : Nat) : (⟨b, o, none⟩ : Addr).add n = ⟨b, o + n, none⟩ := by
  unfold Addr.add
  by_cases h : n = 0
  · subst h; rfl
  · rw [if_neg h]
theorem RowAt.tail {l : List Rt} {a : Addr} {V : World} (h : RowAt l a V) : RowAt (l.drop 1) ⟨a.block, a.off + 2, none⟩ V := by
  refine ⟨h.1, fun i p hp => ?_⟩
  rw [List.getElem?_drop] at hp
  rw [(addr_tail a i).1, (addr_tail a i).2, Nat.add_comm i 1]
  exact h.2 (1 + i) p hp

end Go.Proofs.Ytpbedjabbehhgaa
