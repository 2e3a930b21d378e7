/- Contracts of speed.Count: the signs that are read. -/
import Derived.RangeFuncNested
import Derived.RangeFuncBound
import Derived.RangeFuncCalls
import Derived.RangeFuncLeaves
import Derived.Shelf.Abstract
import Derived.Test.YtpbedjabbehhgaaW1
import Derived.Test.YtpbedjabbehhgaaCellW1
import Derived.Test.YtpbedjabbehhgaaLawL
namespace Go.Proofs.Ytpbedjabbehhgaa
open Go.RowKit Go.Shelf

def blankR (r : Int) : Bool := decide (r = 32 ∨ r = 160 ∨ r = 12288)
/-- Is a sign read? -/
def readB (r : Int) : Bool := decide (0 < widthI r) && !blankR r
/-- How many signs are read. -/
def readN (l : List Sg) : Nat := (l.filter fun x => readB x.rune).length
theorem readN_snoc (l : List Sg) (x : Sg) : readN (l ++ [x]) = readN l + if readB x.rune then 1 else 0 := by
  unfold readN
  rw [List.filter_append, List.length_append]
  cases h : readB x.rune <;> simp [List.filter, h]

theorem cell_four_new2 (w : World) (a b c d : Value) (t : TypeId) : (w.alloc (.cells #[a, b, c, d] t)).cell? ⟨w.heap.size, 2, none⟩ = some c := by
  unfold World.cell?
  rw [show (w.alloc (.cells #[a, b, c, d] t)).heap[w.heap.size]? = _ from World.alloc_heap_new w _]
  rfl

theorem grownBy_iterAtS (W : World) (k : Nat) (s : ByteArray) (p : Nat) : W.grownBy (W.iterAt k s p) (some k) :=
  ⟨rfl, rfl, rfl, by rw [Lib.iterAt_size]; exact Nat.le_refl _, fun i _ hi => Lib.iterAt_other W k i s p (fun e => hi (by rw [e]))⟩
theorem readN_le (l : List Sg) : readN l ≤ l.length := List.length_filter_le _ _

end Go.Proofs.Ytpbedjabbehhgaa
