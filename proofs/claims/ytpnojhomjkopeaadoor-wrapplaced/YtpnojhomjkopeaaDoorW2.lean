/- The contract of the sequence that utf.Signs tells: it goes over the signs of its text, in their order, and stops where a round says so. -/
import Derived.RangeFuncNested
import Derived.RangeFuncBound
import Derived.RangeFuncCalls
import Derived.RangeFuncLeaves
import Derived.Shelf.Abstract
import Derived.Shelf.RegionOpen
import Derived.WalkKit
import Derived.OwnWalkIn
import Derived.TacticsInMore
import Derived.LoopNIn
import Derived.LoopIn
import Derived.Test.YtpnojhomjkopeaaDoorW1
namespace Go.Proofs.YtpnojhomjkopeaaDoor
open Go.RowKit Go.Shelf
attribute [local go_sem] Oper.semAt_some

/-- What a round over Signs keeps: the text's own box, and whatever a walk leans on that was laid since. -/
def Kp (bx : Nat) (A B : World) : Prop := B.cell? ⟨bx, 0, none⟩ = A.cell? ⟨bx, 0, none⟩ ∧ ∀ k o, bx ≤ k → A.heap[k]? = some o → o.isWalk = true → B.heap[k]? = some o
theorem Kp_t {bx : Nat} {A B C : World} (h : Kp bx A B) (k : Kp bx B C) : Kp bx A C := ⟨k.1.trans h.1, fun i o hi ha ho => k.2 i o hi (h.2 i o hi ha ho) ho⟩
theorem Kp_b {bx : Nat} {w : World} (hb : bx < w.heap.size) (W : World) (l : Nat) (o o' : Obj) (hl : w.heap.size ≤ l) (h : W.heap[l]? = some o) (_ : o.isCells = false) (hw : o.isWalk = false) : Kp bx W (W.putObj l o') :=
  ⟨World.cell?_of_block (World.putObj_heap_other (by show bx ≠ l; omega)), fun k q _ hk hq => by
    by_cases e : k = l
    · subst e; rw [h] at hk; cases hk; rw [hw] at hq; cases hq
    · exact (World.putObj_heap_other e).trans hk⟩
theorem Kp_of {bx : Nat} {A B : World} (h : ∀ k, bx ≤ k → k < A.heap.size → B.heap[k]? = A.heap[k]?) (hb : bx < A.heap.size) : Kp bx A B :=
  ⟨World.cell?_of_block (h bx (Nat.le_refl _) hb), fun k _ hk ha _ => (h k hk (Array.getElem?_eq_some_iff.1 ha).1).trans ha⟩

theorem grownBy_iterAt (W : World) (k : Nat) (s : ByteArray) (p : Nat) : W.grownBy (W.iterAt k s p) (some k) :=
  ⟨rfl, rfl, rfl, by rw [Lib.iterAt_size]; exact Nat.le_refl _, fun i _ hi => Lib.iterAt_other W k i s p (fun e => hi (by rw [e]))⟩

end Go.Proofs.YtpnojhomjkopeaaDoor
