/- The contract of the statements' own head (the chapter's first example): it returns true. -/
import Derived.Test.YtofhmecbcmahaaaDoorW7
namespace Go.Proofs.YtofhmecbcmahaaaDoor
open Go.RowKit

def ex1 : ByteArray := ⟨#[97, 195, 169, 195, 240, 159, 152, 128]⟩
set_option maxRecDepth 100000 in
theorem ex1_count : (signs ex1).length = 4 := by kernel_rfl
set_option maxRecDepth 100000 in
theorem ex1_pairs : pairsFrom ex1 ex1.size 0 = 5 := by kernel_rfl
set_option maxRecDepth 100000 in
theorem ex1_place : findS ex1 3 5 = (⟨8, 4, 5⟩, 0) := by kernel_rfl
set_option maxRecDepth 100000 in
theorem ex1_melts : meltsB ⟨#[195]⟩ ⟨#[169]⟩ = true := by kernel_rfl
set_option maxRecDepth 100000 in
theorem ex1_apart : meltsB ⟨#[97]⟩ ⟨#[169]⟩ = false := by kernel_rfl

set_option maxRecDepth 100000 in
set_option maxHeartbeats 1000000 in
theorem head_any (w : World) (hw : 2 ≤ w.heap.size) (hT : Lib.Utf8Tabs 0 1 w) : Calls Tryd.prog 18 #[] w fun e w' => e = .returned (.bool true) ∧ Below w.heap.size w w' := by
  have HP := hide (place_any ex1 (by decide) 5 3 2 (by omega) (by omega))
  rw [ex1_place] at HP
  have HC := hide (fun w => count_any ex1 w (by decide))
  rw [ex1_count] at HC
  have HQ := hide (fun w => pairs_any ex1 w (by decide))
  rw [ex1_pairs] at HQ
  have HM := hide (fun w => melts_any ⟨#[195]⟩ ⟨#[169]⟩ w (by decide) (by decide))
  rw [ex1_melts] at HM
  have HN := hide (fun w => melts_any ⟨#[97]⟩ ⟨#[169]⟩ w (by decide) (by decide))
  rw [ex1_apart] at HN
  simp only [ex1, Spot.get] at HP HC HQ
  go_enter Tryd.func18, Tryd.ntmps18
  go_wp2_with fail
  refine (HP.out _).mono ?_
  rintro e w1 ⟨rfl, hB1⟩
  go_wp2_with fail
  refine (HC.out _).mono ?_
  rintro e w2 ⟨rfl, hB2⟩
  go_wp2_with fail
  refine (HQ.out _).mono ?_
  rintro e w3 ⟨rfl, hB3⟩
  have s1 := hB1.size
  have s2 := hB2.size
  have s3 := hB3.size
  have b3 := (hB1.trans (hB2.mono hB1.size)).trans (hB3.mono (by omega))
  go_wp2_with fail
  refine (HM.out _ (by omega) (tabs_below hw hT b3)).mono ?_
  rintro e w4 ⟨rfl, hB4⟩
  have s4 := hB4.size
  have b4 := b3.trans (hB4.mono (by omega))
  go_wp2_with fail
  refine (HN.out _ (by omega) (tabs_below hw hT b4)).mono ?_
  rintro e w5 ⟨rfl, hB5⟩
  have b5 := b4.trans (hB5.mono (by omega))
  go_wp2
  go_ret
  exact ⟨rfl, b5⟩

end Go.Proofs.YtofhmecbcmahaaaDoor
