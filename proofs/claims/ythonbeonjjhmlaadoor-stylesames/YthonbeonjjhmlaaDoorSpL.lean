/- The head of the statements of chapter 7: its first example. -/
import Derived.Test.YthonbeonjjhmlaaDoorSpJ
import Derived.Test.YthonbeonjjhmlaaDoorSpK
namespace Go.Proofs.YthonbeonjjhmlaaDoor
open Go.RowKit Go.Shelf
attribute [local go_sem] Oper.semAt_some

def hdS : ByteArray := ⟨#[97, 98, 99, 100]⟩
def hdU : ByteArray := ⟨#[120]⟩
def hdD : List Sp := [⟨0, 4, 1, 0⟩, ⟨1, 3, 2, 0⟩]
theorem hd_sort : isort ltS hdD = hdD := by first | rfl | kernel_rfl | decide
theorem hd_cross : crB hdD = false := by unfold crB; rw [hd_sort]; first | rfl | kernel_rfl | decide
theorem hd_signs : (signs hdS).length = 4 := by kernel_rfl
theorem hd_check : chkT hdS hdD = 0 := by
  unfold chkT
  rw [hd_cross, hd_signs]
  kernel_rfl
theorem hd_checku : chkT hdU [] = 0 := by kernel_rfl
theorem hd_bnds : bndS 4 hdD = [0, 0, 1, 3, 4, 4] := by
  unfold bndS
  simp [bndL, hdD, List.mergeSort]
theorem hd_runs : runsM 4 hdD = [⟨0, 1, ⟨true, false, false, false, 0⟩⟩, ⟨1, 3, ⟨true, true, false, false, 0⟩⟩, ⟨3, 4, ⟨true, false, false, false, 0⟩⟩] := by
  unfold runsM bndM bndC
  rw [hd_bnds]
  kernel_rfl
theorem hd_glue : glueM [cutM hdS 0 1, hdU, cutM hdS 1 4] = (⟨#[97, 120, 98, 99, 100]⟩, 0) := by kernel_rfl
theorem hd_splice : splM hdS hdD 1 1 hdU [] = (0, ⟨#[97, 120, 98, 99, 100]⟩, [⟨0, 5, 1, 0⟩, ⟨2, 4, 2, 0⟩]) := by
  unfold splM
  rw [hd_check, hd_checku, hd_sort, hd_signs]
  have e1 : (1 : Int).toNat = 1 := rfl
  rw [e1, hd_glue, if_neg (by simp), if_neg (by simp), if_neg (by simp [betB]), if_neg (by simp)]
  have e2 : aroundM 1 1 ((signs hdU).length : Nat) hdD ++ List.map (mvS 1) [] = [⟨0, 5, 1, 0⟩, ⟨2, 4, 2, 0⟩] := by kernel_rfl
  rw [e2, if_neg (by simp)]
theorem hd_run_eq (W : World) : (binOp .eql 64 (.agg #[.int .i64 1, .int .i64 3, .bool true, .bool true, .bool false, .bool false, .int .i64 0]) (.agg #[.int .i64 1, .int .i64 3, .bool true, .bool true, .bool false, .bool false, .int .i64 0])).run Tryd.prog W = .ok (.bool true) W := by kernel_rfl
theorem run_guard : Tryd.prog.eqGuardType Tryd.prog.depth 64 = false := by kernel_rfl
set_option maxRecDepth 100000 in
set_option maxHeartbeats 4000000 in
theorem head7 (w : World) (hw : 2 ≤ w.heap.size) (hT : Lib.Utf8Tabs 0 1 w) : Calls Tryd.prog 13 #[] w fun e w' => e = .returned (.bool true) ∧ Below w.heap.size w w' := by
  have HT := hideS hT
  clear hT
  go_enter Tryd.func13, Tryd.ntmps13
  go_wp2_with fail
  obtain ⟨W0, hW0⟩ : ∃ W0, (w.alloc (.cells #[.int .i64 0, .int .i64 4, .int .i64 1, .int .i64 0, .int .i64 1, .int .i64 3, .int .i64 2, .int .i64 0] 55)).alloc (.cells #[.string ⟨#[97, 98, 99, 100]⟩, .slice (some ⟨w.heap.size, 0, none⟩) 2 2] 24) = W0 := ⟨_, rfl⟩
  have n0 : W0.heap[w.heap.size]? = some (.cells #[.int .i64 0, .int .i64 4, .int .i64 1, .int .i64 0, .int .i64 1, .int .i64 3, .int .i64 2, .int .i64 0] 55 (0, 0)) := by rw [← hW0]; exact (Below.heap_alloc _ _ _ (by simp)).trans (World.alloc_heap_new w _)
  have n1 : Tx W0 (w.heap.size + 1) (.string ⟨#[97, 98, 99, 100]⟩) (.slice (some ⟨w.heap.size, 0, none⟩) 2 2) := by
    rw [← hW0]
    have h9 := Tx.new (w.alloc (.cells #[.int .i64 0, .int .i64 4, .int .i64 1, .int .i64 0, .int .i64 1, .int .i64 3, .int .i64 2, .int .i64 0] 55)) (.string ⟨#[97, 98, 99, 100]⟩) (.slice (some ⟨w.heap.size, 0, none⟩) 2 2)
    rw [World.size_alloc] at h9
    exact h9
  have b0 : Below w.heap.size w W0 := by rw [← hW0]; exact bupS (bel1S _ _) (bel1S _ _)
  have sp0 : SpO W0 (some ⟨w.heap.size, 0, none⟩) hdD := SC.spo ⟨_, n0, fun i p hp => by
    match i, hp with
    | 0, hp =>
      obtain rfl : (⟨0, 4, 1, 0⟩ : Sp) = p := by simpa [hdD] using hp
      exact ⟨rfl, rfl, rfl, rfl⟩
    | 1, hp =>
      obtain rfl : (⟨1, 3, 2, 0⟩ : Sp) = p := by simpa [hdD] using hp
      exact ⟨rfl, rfl, rfl, rfl⟩
    | n + 2, hp => simp [hdD] at hp⟩
  rw [hW0]
  have hmx : (2 : Nat) ≤ maxLen := by decide
  have HRn : Hid (Calls Tryd.prog 8 #[.agg #[.string ⟨#[97, 98, 99, 100]⟩, .slice (some ⟨w.heap.size, 0, none⟩) 2 2]] W0 (RunAns W0 hdS hdD)) := hideS (runs_any hdS hdD (some ⟨w.heap.size, 0, none⟩) 2 (by decide) ⟨by decide, hmx⟩ (fun e => nomatch e) W0 sp0)
  have H0 := hideS (And.intro n1 (And.intro b0 sp0))
  clear hW0 n0 n1 b0 sp0
  refine HRn.out.mono ?_
  rintro e w1 ⟨b1, ⟨h, _⟩ | ⟨_, v, rfl, own⟩⟩
  · exact absurd hd_check h
  rw [hd_signs, hd_sort] at own
  change w1.ownsRow W0.heap.size 64 7 v (runsM 4 hdD).length (flat7 (runsM 4 hdD)) at own
  rw [hd_runs] at own
  obtain ⟨gr, cp, rfl⟩ : ∃ gr cp, v = .slice (some ⟨gr, 0, none⟩) 3 cp := by
    rcases own.2 with ⟨_, e0⟩ | ⟨gr, cp, cur, e0, _⟩
    · simp at e0
    · exact ⟨gr, cp, e0⟩
  have H1 := hideS (And.intro own (And.intro (H0.out.1.keep b1) (And.intro (bupS H0.out.2.1 b1) (H0.out.2.2.keep b1))))
  clear own b1 H0 HRn
  obtain ⟨k0, k1, _, _⟩ := H1.out.2.1.cells
  have HSp : Hid (Calls Tryd.prog 31 #[.agg #[.string ⟨#[97, 98, 99, 100]⟩, .slice (some ⟨w.heap.size, 0, none⟩) 2 2], .int .i64 1, .int .i64 1, .agg #[.string ⟨#[120]⟩, .slice none 0 0]] w1 (SplAns w1 (splM hdS hdD 1 1 hdU []))) := hideS (splice_any hdS hdU hdD [] (some ⟨w.heap.size, 0, none⟩) none 2 0 1 1 (by decide) (by decide) ⟨by decide, hmx⟩ ⟨by decide, by decide⟩ (fun e => nomatch e) (fun _ => ⟨rfl, rfl⟩) w1 (Nat.le_trans hw H1.out.2.2.1.size) (tabs_below hw HT.out H1.out.2.2.1) H1.out.2.2.2 (SpO.nil _ _))
  go_wp2_with fail
  refine HSp.out.mono ?_
  rw [hd_splice]
  rintro e w2 ⟨v2, rfl, own2, b2⟩
  simp only at own2 ⊢
  obtain ⟨g2, cp2, rfl⟩ : ∃ g2 cp2, v2 = .slice (some ⟨g2, 0, none⟩) 2 cp2 := by
    rcases own2.2 with ⟨_, e0⟩ | ⟨g2, cp2, cur, e0, _⟩
    · simp at e0
    · exact ⟨g2, cp2, e0⟩
  have own1 := own_keep H1.out.1 b2
  obtain ⟨r0, _, hgr, _⟩ := own_cells own1 7 (.int .i64 1) rfl
  have r1 := (own_cells own1 8 (.int .i64 3) rfl).1
  have r2 := (own_cells own1 9 (.bool true) rfl).1
  have r3 := (own_cells own1 10 (.bool true) rfl).1
  have r4 := (own_cells own1 11 (.bool false) rfl).1
  have r5 := (own_cells own1 12 (.bool false) rfl).1
  have r6 := (own_cells own1 13 (.int .i64 0) rfl).1
  obtain ⟨q0, _, hg2, _⟩ := own_cells own2 4 (.int .i64 2) rfl
  have H2 := hideS (bupS H1.out.2.2.1 b2)
  have hgd := run_guard
  have hre := hd_run_eq
  clear own1 own2 b2 H1 HSp k0 k1
  go_wp2_with fail
  go_ret
  exact ⟨rfl, bupS H2.out (bel1S _ _)⟩
end Go.Proofs.YthonbeonjjhmlaaDoor
