/- The contract of the document's own Cut (surtitleref1) by signs, from one to another. -/
import Derived.Test.YtdikfcnbkckinaaGreatDoorRPla
namespace Go.Proofs.YtdikfcnbkckinaaGreatDoor
open Go.RowKit

set_option maxHeartbeats 400000 in
theorem rcountR (s : ByteArray) (hs : s.size ≤ 1048576) (w : World) :
    Calls Tryz.prog 53 #[.string s] w fun e w' => e = .returned (.int .i64 (signs s).length) ∧ Below w.heap.size w w' := by
  go_enter Tryz.func53, Tryz.ntmps53
  go_wp2_with fail
  refine (rsigns_any s hs _).mono ?_
  rintro e w1 ⟨lv, rfl, hown, hB1⟩
  obtain ⟨oa, cap, rfl, hcell⟩ := rows_at hown
  clear hcell hown
  go_wp2
  go_ret
  exact ⟨rfl, hB1⟩
theorem find_spot (s : ByteArray) (k : Nat) (hk : k ≤ (signs s).length) : findS s 2 (k : Int) = (spotAt s k, 0) := by
  unfold findS
  rw [if_neg (by omega)]
  have h := findL_mem 2 (spots_rise s) (spotAt_mem s k)
  have hc : (spotAt s k).get 2 = (k : Int) := spotAt_c s k hk
  rw [hc] at h
  exact h
end Go.Proofs.YtdikfcnbkckinaaGreatDoor
