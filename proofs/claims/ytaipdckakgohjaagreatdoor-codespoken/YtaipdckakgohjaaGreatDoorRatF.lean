/- The contract of strconv.FormatInt, at base 10. -/
import Derived.Test.YtaipdckakgohjaaGreatDoorRatL3
import Derived.Test.YtaipdckakgohjaaGreatDoorRatP0
import Derived.Test.YtaipdckakgohjaaGreatDoorRatT
namespace Go.Proofs.YtaipdckakgohjaaGreatDoor
open Go.RowKit Go.Shelf Go.Sort
open Go.Lib (decDigits)

theorem below_grow (w : World) (k : Nat) (os : Array Obj) : Below w.heap.size w (grow (w.drewN k) os) := by
  have b := below_drewN (Below.refl w.heap.size w) k
  refine ⟨b.os, b.tape, b.output, ?_, fun j hj => ?_⟩
  · have := b.size
    simp
  · rw [heap_grow_old _ _ (Nat.lt_of_lt_of_le hj b.size)]
    exact b.block j hj
/-- The table of powers lies in memory. -/
def PowAt (w : World) : Prop := Lib.TabIs Tryz.prog w "internal/strconv.uint64pow10" .u64 Lib.pow10Tab
theorem PowAt.keep {w w2 : World} (h : PowAt w) (b : Below w.heap.size w w2) : PowAt w2 := by
  unfold PowAt Lib.TabIs World.var? at *
  have hg : Tryz.prog.globalNamed "internal/strconv.uint64pow10" = some 3 := by kernel_rfl
  rw [hg] at h ⊢
  simp only [Option.bind_some] at h ⊢
  have hz : 3 < w.heap.size := by
    refine Nat.lt_of_not_le fun e => ?_
    have e2 : w.heap[3]? = none := Array.getElem?_eq_none e
    rw [e2] at h
    simp at h
  rw [b.block _ hz]
  exact h
theorem format_any (n : Int) (hn : I64 n) (w : World) (hp : PowAt w) :
    Calls Tryz.prog 98 #[.int .i64 n, .int .i64 10] w fun e w' => e = .returned (.string (bs (Lib.itoa n))) ∧ Below w.heap.size w w' :=
  (Any.strconv_FormatInt_10 (ρ := lay173Ren) lay173M n hn.1 hn.2 w hp).mono fun e w' ⟨he, k, os, hw⟩ => ⟨he, by rw [hw]; exact below_grow w k os⟩
end Go.Proofs.YtaipdckakgohjaaGreatDoor
