/- The contract of surtitleref3.Sum. -/
import Derived.Test.YtifkoffjmdpgkaaDoorRowsM
import Derived.Deep.RegionHeld3
namespace Go.Proofs.YtifkoffjmdpgkaaDoor
open Go.RowKit Go.Shelf
attribute [local go_sem] Oper.semAt_some

theorem RowAt.put {l : List Rt} {a : Addr} {V : World} {S i : Nat} {v : Value} (h : RowAt l a V) (n : S ≠ a.block) : RowAt l a (V.setCell ⟨S, i, none⟩ v) := by
  refine ⟨by simpa using h.1, fun j p hp => ?_⟩
  have ne : ∀ m, (⟨S, i, none⟩ : Addr) ≠ a.add m := fun m e => n ((congrArg Addr.block e).trans (addr_block a m))
  rw [World.cell?_setCell_other _ _ _ _ (ne _), World.cell?_setCell_other _ _ _ _ (ne _)]
  exact h.2 j p hp
theorem RowAt.drew {l : List Rt} {a : Addr} {V : World} (h : RowAt l a V) : RowAt l a V.drew := h
theorem c4 {l : List Rt} {a : Addr} {V : World} {A k : Nat} {x y : Value} {p : Rt} (t : Two V A x y) (h : RowAt l a V) (hp : l[k]? = some p) : V.cell? ⟨A, 0, none⟩ = some x ∧ V.cell? ⟨A, 1, none⟩ = some y ∧ V.cell? (a.add (k * 2)) = some (.int .i64 p.N) ∧ V.cell? ⟨(a.add (k * 2)).block, (a.add (k * 2)).off + 1, none⟩ = some (.int .i64 p.D) := ⟨t.2.1, t.2.2.1, (h.pair hp).1, (h.pair hp).2⟩
theorem two_put {V : World} {R S i : Nat} {x y v : Value} (h : Two V R x y) (n : S ≠ R) : Two (V.setCell ⟨S, i, none⟩ v) R x y := by
  obtain ⟨z, c0, c1, f0, f1⟩ := h
  have n2 : R ≠ S := fun e => n e.symm
  exact ⟨by simpa using z, by go_simp, by go_simp, by go_simp, by go_simp⟩

end Go.Proofs.YtifkoffjmdpgkaaDoor
