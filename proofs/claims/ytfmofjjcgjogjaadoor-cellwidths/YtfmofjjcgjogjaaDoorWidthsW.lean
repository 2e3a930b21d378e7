/- The walk of surtitlelaw2.CellWidths. -/
import Derived.Test.YtfmofjjcgjogjaaDoorRefW
import Derived.Test.YtfmofjjcgjogjaaDoorCellK
namespace Go.Proofs.YtfmofjjcgjogjaaDoor
open Go.RowKit

set_option maxRecDepth 100000 in
set_option maxHeartbeats 2000000 in
theorem widths_nil (N : Nat) (w : World) (hT : Tabs N w) : Calls Tryd.prog 3 #[.slice none 0 0] w fun e w' => e = .returned (.bool true) ∧ Below w.heap.size w w' := by
  go_enter Tryd.func3, Tryd.ntmps3
  go_wp2_with fail
  refine (known_any N _ hT).mono ?_
  rintro e w1 ⟨rfl, hb1⟩
  go_wp2
  go_loopw [3] (fun i wq => i = .int .i64 0 ∧ wq = w1) (fun _ _ => 0)
  case atStart => exact ⟨rfl, rfl⟩
  case round =>
    obtain ⟨rfl, rfl⟩ := hrel
    go_wp2
    go_ret
    exact ⟨rfl, hb1⟩

set_option maxRecDepth 100000 in
set_option maxHeartbeats 2000000 in
theorem widths_any (a : Addr) (len cap : Nat) (zs : List Int) (hlc : len ≤ cap) (hzl : zs.length = cap) (hcm : cap ≤ 9223372036854775807) (N : Nat) (w : World) (hT : Tabs N w) (ha : len = 0 ∨ a.block < w.heap.size)
    (hcell : ∀ i, i < zs.length → w.cell? (a.add i) = some (.int .i64 (zs.getD i 0))) :
    Calls Tryd.prog 3 #[.slice (some a) len cap] w fun e w' => e = .returned (.bool true) ∧ Below w.heap.size w w' := by
  go_enter Tryd.func3, Tryd.ntmps3
  go_wp2_with fail
  refine (known_any N _ hT).mono ?_
  rintro e w1 ⟨rfl, hb1⟩
  go_wp2
  go_loopw [3] (fun i wq => ∃ k : Nat, i = .int .i64 k ∧ k ≤ len ∧ Below w.heap.size w wq) (fun i _ => len - (intOf i).toNat)
  case atStart => exact ⟨0, rfl, by omega, hb1⟩
  case round =>
    obtain ⟨k, rfl, hk, hb⟩ := hrel
    have hTq := hT.below hb
    by_cases hkn : k < len
    · have hc := (hb.cell (p := a.add k) (by rw [add_block]; omega)).trans (hcell k (by omega))
      generalize zs.getD k 0 = z at hc
      go_wp2_with fail
      refine (width_any _ N _ hTq).mono ?_
      rintro e w2 ⟨rfl, hb2⟩
      go_wp2_with fail
      refine (refWidth_any _ _).mono ?_
      rintro e w3 ⟨rfl, rfl⟩
      go_wp2
      go_roundw
      case rel => exact ⟨k + 1, by go_num, by omega, hb.trans (hb2.mono hb.size)⟩
      case measure => simp [intOf]; omega
    · go_wp2
      go_ret
      exact ⟨rfl, hb⟩

end Go.Proofs.YtfmofjjcgjogjaaDoor
