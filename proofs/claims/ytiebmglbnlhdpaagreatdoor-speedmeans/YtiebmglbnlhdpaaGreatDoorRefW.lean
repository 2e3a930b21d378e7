/- The contract of the document's own Width (surtitleref2). -/
import Derived.Test.YtiebmglbnlhdpaaGreatDoorRefNone
import Derived.Test.YtiebmglbnlhdpaaGreatDoorRefWide
namespace Go.Proofs.YtiebmglbnlhdpaaGreatDoor
open Go.RowKit

theorem plain_none (r : Int) (h1 : 32 ≤ r) (h2 : r ≤ 126) : inTab tab0 r = false := by
  simp only [inTab, tab0, List.any_cons, List.any_nil, Bool.or_eq_false_iff, Bool.and_eq_false_iff, decide_eq_false_iff_not, and_true]
  omega
theorem plain_wide (r : Int) (h1 : 32 ≤ r) (h2 : r ≤ 126) : inTab tab2 r = false := by
  simp only [inTab, tab2, List.any_cons, List.any_nil, Bool.or_eq_false_iff, Bool.and_eq_false_iff, decide_eq_false_iff_not, and_true]
  omega
theorem widthI_eq (r : Int) : widthI r = if inTab tab0 r = true then 0 else if inTab tab2 r = true then 2 else 1 := by
  unfold widthI
  split
  · rename_i h
    rw [plain_none r h.1 h.2, plain_wide r h.1 h.2]
    rfl
  · rfl

set_option maxRecDepth 100000 in
set_option maxHeartbeats 1000000 in
theorem refWidth_any (r : Int) (w : World) : Calls Tryz.prog 28 #[.int .i32 r] w fun e w' => e = .returned (.int .i64 (widthI r)) ∧ w' = w := by
  rw [widthI_eq]
  have H0 := hideC (fun w => none_any r w)
  have H2 := hideC (fun w => wide_any r w)
  cases h0 : inTab tab0 r
  · rw [h0] at H0
    cases h2 : inTab tab2 r
    · rw [h2] at H2
      clear h0 h2
      go_enter Tryz.func28, Tryz.ntmps28
      go_wp2_with fail
      refine (H0.out _).mono ?_
      rintro e w1 ⟨rfl, rfl⟩
      go_wp2_with fail
      refine (H2.out _).mono ?_
      rintro e w2 ⟨rfl, rfl⟩
      go_wp2
      go_ret
      exact ⟨rfl, rfl⟩
    · rw [h2] at H2
      clear h0 h2
      go_enter Tryz.func28, Tryz.ntmps28
      go_wp2_with fail
      refine (H0.out _).mono ?_
      rintro e w1 ⟨rfl, rfl⟩
      go_wp2_with fail
      refine (H2.out _).mono ?_
      rintro e w2 ⟨rfl, rfl⟩
      go_wp2
      go_ret
      exact ⟨rfl, rfl⟩
  · rw [h0] at H0
    clear h0
    go_enter Tryz.func28, Tryz.ntmps28
    go_wp2_with fail
    refine (H0.out _).mono ?_
    rintro e w1 ⟨rfl, rfl⟩
    go_wp2
    go_ret
    exact ⟨rfl, rfl⟩

end Go.Proofs.YtiebmglbnlhdpaaGreatDoor
