/- The walk of surtitlelaw2.CellRange. -/
import Derived.Test.YtfmofjjcgjogjaaDoorRefW
import Derived.Test.YtfmofjjcgjogjaaDoorCellK
namespace Go.Proofs.YtfmofjjcgjogjaaDoor
open Go.RowKit

set_option maxRecDepth 100000 in
set_option maxHeartbeats 2000000 in
theorem range_any (fr : Int) (_h1 : -9223372036854775808 ≤ fr) (_h2 : fr ≤ 9223372036854775807) (n : Int) (_h3 : -9223372036854775808 ≤ n) (_h4 : n ≤ 9223372036854775807) (N : Nat) (w : World) (hT : Tabs N w) :
    Calls Tryd.prog 4 #[.int .i64 fr, .int .i64 n] w fun e w' => e = .returned (.bool true) ∧ Below w.heap.size w w' := by
  go_enter Tryd.func4, Tryd.ntmps4
  go_wp2_with fail
  refine (known_any N _ hT).mono ?_
  rintro e w1 ⟨rfl, hb1⟩
  go_wp2
  go_loopw [5] (fun i wq => ∃ k : Nat, i = .int .i64 k ∧ k ≤ 5000 ∧ Below w.heap.size w wq) (fun i _ => 5000 - (intOf i).toNat)
  case atStart => exact ⟨0, rfl, by omega, hb1⟩
  case round =>
    obtain ⟨k, rfl, hk, hb⟩ := hrel
    have hTq := hT.below hb
    by_cases hkn : (k : Int) < n
    · by_cases hk5 : k < 5000
      · go_wp2_with fail
        refine (width_any _ N _ hTq).mono ?_
        rintro e w2 ⟨rfl, hb2⟩
        go_wp2_with fail
        refine (refWidth_any _ _).mono ?_
        rintro e w3 ⟨rfl, rfl⟩
        go_wp2
        go_roundw
        case rel => exact ⟨k + 1, by go_num, by omega, hb.trans (hb2.mono hb.size)⟩
        case measure => simp [intOf]; omega
      · go_wp2
        go_ret
        exact ⟨rfl, hb⟩
    · go_wp2
      go_ret
      exact ⟨rfl, hb⟩

end Go.Proofs.YtfmofjjcgjogjaaDoor
