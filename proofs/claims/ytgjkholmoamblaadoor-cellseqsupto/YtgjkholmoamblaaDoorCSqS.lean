/- cell.Clusters's sequence, also for a loop inside of a round. -/
import Derived.Test.YtgjkholmoamblaaDoorLawN
import Derived.Test.YtgjkholmoamblaaDoorCellW4
namespace Go.Proofs.YtgjkholmoamblaaDoor
open Go.RowKit Go.Shelf

/-- cell.Clusters's sequence over the text in the box bx. -/
theorem clus_seqS (n bx N : Nat) (hn : 1 ≤ n) (s : ByteArray) (hs : s.size ≤ 140737488355328) (w : World) (hbx : bx < w.heap.size) (hc : w.cell? ⟨bx, 0, none⟩ = some (.string s)) (hT : Tabs N w) :
    SeqS n 2 Tryd.prog 32 #[.pointer (some ⟨bx, 0, none⟩)] (fun x : Cl => #[x.val]) (clusters s) (fun k => N ≤ k ∧ k ≠ bx) w :=
  fun M l J Jx W hM hW hl hlW hJ hY h0 => clus1_in n l bx N hn s hs M J Jx W (fun k hk => by obtain ⟨a, b, c⟩ := hM k hk; exact ⟨by omega, c, b⟩) (by omega) (by have := hT.room; omega) hlW hJ hY (hT.below hW) ((hW.cell (p := ⟨bx, 0, none⟩) hbx).trans hc) h0

end Go.Proofs.YtgjkholmoamblaaDoor
