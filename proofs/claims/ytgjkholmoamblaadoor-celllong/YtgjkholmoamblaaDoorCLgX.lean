/- The walk of CellLong, whatever the kind. -/
import Derived.Test.YtgjkholmoamblaaDoorCLgA
import Derived.Test.YtgjkholmoamblaaDoorCLgB
namespace Go.Proofs.YtgjkholmoamblaaDoor
open Go.RowKit

theorem lawLong_any (kd : Int) (k1 : -9223372036854775808 ≤ kd) (k2 : kd ≤ 9223372036854775807) (m : Int) (m1 : -9223372036854775808 ≤ m) (m2 : m ≤ 9223372036854775807) (ct : Int) (c1 : -9223372036854775808 ≤ ct) (c2 : ct ≤ 9223372036854775807)
    (N : Nat) (w : World) (hT : Tabs N w) :
    Calls Tryd.prog 8 #[.int .i64 kd, .int .i64 m, .int .i64 ct] w fun e w' => e = .returned (.bool true) ∧ Below w.heap.size w w' := by
  obtain ⟨hm1, hm2⟩ := withinI_bd m 40000 (by omega)
  obtain ⟨hk1, hk2⟩ := withinI_bd kd 6 (by omega)
  obtain ⟨n, hn⟩ : ∃ n : Nat, withinI m 40000 = n := ⟨(withinI m 40000).toNat, by omega⟩
  have hn4 : n < 40000 := by omega
  obtain h | h | h | h | h | h : withinI kd 6 = 0 ∨ withinI kd 6 = 1 ∨ withinI kd 6 = 2 ∨ withinI kd 6 = 3 ∨ withinI kd 6 = 4 ∨ withinI kd 6 = 5 := by omega
  · exact long0_any kd k1 k2 m m1 m2 ct c1 c2 n hn hn4 h N w hT
  · exact long1_any kd k1 k2 m m1 m2 ct c1 c2 n hn hn4 h N w hT
  · exact long2_any kd k1 k2 m m1 m2 ct c1 c2 n hn hn4 h N w hT
  · exact long3_any kd k1 k2 m m1 m2 ct c1 c2 n hn hn4 h N w hT
  · exact long4_any kd k1 k2 m m1 m2 ct c1 c2 n hn hn4 h N w hT
  · exact long5_any kd k1 k2 m m1 m2 ct c1 c2 n hn hn4 h N w hT

end Go.Proofs.YtgjkholmoamblaaDoor
