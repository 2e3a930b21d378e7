/- The walk of CellSeqs, the reference's clusters and 'as' filled in. -/
import Derived.Test.YtgjkholmoamblaaDoorCSqW
import Derived.Test.YtgjkholmoamblaaDoorRefOf
namespace Go.Proofs.YtgjkholmoamblaaDoor
open Go.RowKit Go.Shelf

theorem lawSeqs_any (s : ByteArray) (hs : s.size ≤ 1048576) (z : Int) (h1 : -9223372036854775808 ≤ z) (h2 : z ≤ 9223372036854775807) (N : Nat) (w : World) (hT : Tabs N w) :
    Calls Tryd.prog 9 #[.string s, .int .i64 z] w fun e w' => e = .returned (.bool true) ∧ Below w.heap.size w w' := by
  have HR := refClusters_any s hs
  rw [rcl_clusters] at HR
  exact lawSeqs_walk s hs (fun w => (HR w).mono fun e w' ⟨v, he, ho, hb⟩ => ⟨v, he, listR_of ho, hb⟩) as_any z h1 h2 N w hT

end Go.Proofs.YtgjkholmoamblaaDoor
