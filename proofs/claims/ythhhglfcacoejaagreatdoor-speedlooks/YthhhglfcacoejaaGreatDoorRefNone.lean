/- The contract of the document's own table tab0: whether a rune lies in it. -/
import Derived.Test.YthhhglfcacoejaaGreatDoorCellW1
namespace Go.Proofs.YthhhglfcacoejaaGreatDoor
open Go.RowKit

set_option maxRecDepth 100000 in
set_option maxHeartbeats 4000000 in
theorem none_any_0_173 (w : World) : Calls Tryz.prog 100 #[.int .i32 173] w fun e w' => e = .returned (.bool true) ∧ w' = w := by
  go_enter Tryz.func100, Tryz.ntmps100
  go_wp2
  go_ret
  exact ⟨rfl, rfl⟩

set_option maxRecDepth 100000 in
set_option maxHeartbeats 4000000 in
theorem none_any_0 (r : Int) (w : World) (h2 : r ≤ 1161) (n173 : r ≠ 173) : Calls Tryz.prog 100 #[.int .i32 r] w fun e w' => e = .returned (.bool (inTab tab0 r)) ∧ w' = w := by
  generalize hv : inTab tab0 r = v
  have HV := hideC hv
  clear hv
  have q173 : (r == 173) = false := beq_eq_false_iff_ne.2 (by omega)
  have q1471 : (r == 1471) = false := beq_eq_false_iff_ne.2 (by omega)
  have q1479 : (r == 1479) = false := beq_eq_false_iff_ne.2 (by omega)
  have q1564 : (r == 1564) = false := beq_eq_false_iff_ne.2 (by omega)
  have q1648 : (r == 1648) = false := beq_eq_false_iff_ne.2 (by omega)
  have q3633 : (r == 3633) = false := beq_eq_false_iff_ne.2 (by omega)
  have q65279 : (r == 65279) = false := beq_eq_false_iff_ne.2 (by omega)
  go_enter Tryz.func100, Tryz.ntmps100
  go_wp2
  all_goals go_ret
  all_goals refine ⟨?_, rfl⟩
  all_goals rw [← HV.out]
  all_goals first
    | (rw [show inTab tab0 r = true from by simp only [inTab, tab0, List.any_cons, List.any_nil, Bool.or_eq_true, Bool.and_eq_true, decide_eq_true_eq, Bool.false_eq_true, or_false]; omega]; rfl)
    | (rw [show inTab tab0 r = false from by simp only [inTab, tab0, List.any_cons, List.any_nil, Bool.or_eq_false_iff, Bool.and_eq_false_iff, decide_eq_false_iff_not, and_true]; omega]; rfl)

set_option maxRecDepth 100000 in
set_option maxHeartbeats 4000000 in
theorem none_any_1_1471 (w : World) : Calls Tryz.prog 100 #[.int .i32 1471] w fun e w' => e = .returned (.bool true) ∧ w' = w := by
  go_enter Tryz.func100, Tryz.ntmps100
  go_wp2
  go_ret
  exact ⟨rfl, rfl⟩

set_option maxRecDepth 100000 in
set_option maxHeartbeats 4000000 in
theorem none_any_1_1479 (w : World) : Calls Tryz.prog 100 #[.int .i32 1479] w fun e w' => e = .returned (.bool true) ∧ w' = w := by
  go_enter Tryz.func100, Tryz.ntmps100
  go_wp2
  go_ret
  exact ⟨rfl, rfl⟩

set_option maxRecDepth 100000 in
set_option maxHeartbeats 4000000 in
theorem none_any_1 (r : Int) (w : World) (h1 : 1162 ≤ r) (h2 : r ≤ 1479) (n1471 : r ≠ 1471) (n1479 : r ≠ 1479) : Calls Tryz.prog 100 #[.int .i32 r] w fun e w' => e = .returned (.bool (inTab tab0 r)) ∧ w' = w := by
  generalize hv : inTab tab0 r = v
  have HV := hideC hv
  clear hv
  have q173 : (r == 173) = false := beq_eq_false_iff_ne.2 (by omega)
  have q1471 : (r == 1471) = false := beq_eq_false_iff_ne.2 (by omega)
  have q1479 : (r == 1479) = false := beq_eq_false_iff_ne.2 (by omega)
  have q1564 : (r == 1564) = false := beq_eq_false_iff_ne.2 (by omega)
  have q1648 : (r == 1648) = false := beq_eq_false_iff_ne.2 (by omega)
  have q3633 : (r == 3633) = false := beq_eq_false_iff_ne.2 (by omega)
  have q65279 : (r == 65279) = false := beq_eq_false_iff_ne.2 (by omega)
  go_enter Tryz.func100, Tryz.ntmps100
  go_wp2
  all_goals go_ret
  all_goals refine ⟨?_, rfl⟩
  all_goals rw [← HV.out]
  all_goals first
    | (rw [show inTab tab0 r = true from by simp only [inTab, tab0, List.any_cons, List.any_nil, Bool.or_eq_true, Bool.and_eq_true, decide_eq_true_eq, Bool.false_eq_true, or_false]; omega]; rfl)
    | (rw [show inTab tab0 r = false from by simp only [inTab, tab0, List.any_cons, List.any_nil, Bool.or_eq_false_iff, Bool.and_eq_false_iff, decide_eq_false_iff_not, and_true]; omega]; rfl)

set_option maxRecDepth 100000 in
set_option maxHeartbeats 4000000 in
theorem none_any_2_1564 (w : World) : Calls Tryz.prog 100 #[.int .i32 1564] w fun e w' => e = .returned (.bool true) ∧ w' = w := by
  go_enter Tryz.func100, Tryz.ntmps100
  go_wp2
  go_ret
  exact ⟨rfl, rfl⟩

set_option maxRecDepth 100000 in
set_option maxHeartbeats 4000000 in
theorem none_any_2_1648 (w : World) : Calls Tryz.prog 100 #[.int .i32 1648] w fun e w' => e = .returned (.bool true) ∧ w' = w := by
  go_enter Tryz.func100, Tryz.ntmps100
  go_wp2
  go_ret
  exact ⟨rfl, rfl⟩

set_option maxRecDepth 100000 in
set_option maxHeartbeats 4000000 in
theorem none_any_2 (r : Int) (w : World) (h1 : 1480 ≤ r) (h2 : r ≤ 1756) (n1564 : r ≠ 1564) (n1648 : r ≠ 1648) : Calls Tryz.prog 100 #[.int .i32 r] w fun e w' => e = .returned (.bool (inTab tab0 r)) ∧ w' = w := by
  generalize hv : inTab tab0 r = v
  have HV := hideC hv
  clear hv
  have q173 : (r == 173) = false := beq_eq_false_iff_ne.2 (by omega)
  have q1471 : (r == 1471) = false := beq_eq_false_iff_ne.2 (by omega)
  have q1479 : (r == 1479) = false := beq_eq_false_iff_ne.2 (by omega)
  have q1564 : (r == 1564) = false := beq_eq_false_iff_ne.2 (by omega)
  have q1648 : (r == 1648) = false := beq_eq_false_iff_ne.2 (by omega)
  have q3633 : (r == 3633) = false := beq_eq_false_iff_ne.2 (by omega)
  have q65279 : (r == 65279) = false := beq_eq_false_iff_ne.2 (by omega)
  go_enter Tryz.func100, Tryz.ntmps100
  go_wp2
  all_goals go_ret
  all_goals refine ⟨?_, rfl⟩
  all_goals rw [← HV.out]
  all_goals first
    | (rw [show inTab tab0 r = true from by simp only [inTab, tab0, List.any_cons, List.any_nil, Bool.or_eq_true, Bool.and_eq_true, decide_eq_true_eq, Bool.false_eq_true, or_false]; omega]; rfl)
    | (rw [show inTab tab0 r = false from by simp only [inTab, tab0, List.any_cons, List.any_nil, Bool.or_eq_false_iff, Bool.and_eq_false_iff, decide_eq_false_iff_not, and_true]; omega]; rfl)

set_option maxRecDepth 100000 in
set_option maxHeartbeats 4000000 in
theorem none_any_3_3633 (w : World) : Calls Tryz.prog 100 #[.int .i32 3633] w fun e w' => e = .returned (.bool true) ∧ w' = w := by
  go_enter Tryz.func100, Tryz.ntmps100
  go_wp2
  go_ret
  exact ⟨rfl, rfl⟩

set_option maxRecDepth 100000 in
set_option maxHeartbeats 4000000 in
theorem none_any_3 (r : Int) (w : World) (h1 : 1757 ≤ r) (h2 : r ≤ 3642) (n3633 : r ≠ 3633) : Calls Tryz.prog 100 #[.int .i32 r] w fun e w' => e = .returned (.bool (inTab tab0 r)) ∧ w' = w := by
  generalize hv : inTab tab0 r = v
  have HV := hideC hv
  clear hv
  have q173 : (r == 173) = false := beq_eq_false_iff_ne.2 (by omega)
  have q1471 : (r == 1471) = false := beq_eq_false_iff_ne.2 (by omega)
  have q1479 : (r == 1479) = false := beq_eq_false_iff_ne.2 (by omega)
  have q1564 : (r == 1564) = false := beq_eq_false_iff_ne.2 (by omega)
  have q1648 : (r == 1648) = false := beq_eq_false_iff_ne.2 (by omega)
  have q3633 : (r == 3633) = false := beq_eq_false_iff_ne.2 (by omega)
  have q65279 : (r == 65279) = false := beq_eq_false_iff_ne.2 (by omega)
  go_enter Tryz.func100, Tryz.ntmps100
  go_wp2
  all_goals go_ret
  all_goals refine ⟨?_, rfl⟩
  all_goals rw [← HV.out]
  all_goals first
    | (rw [show inTab tab0 r = true from by simp only [inTab, tab0, List.any_cons, List.any_nil, Bool.or_eq_true, Bool.and_eq_true, decide_eq_true_eq, Bool.false_eq_true, or_false]; omega]; rfl)
    | (rw [show inTab tab0 r = false from by simp only [inTab, tab0, List.any_cons, List.any_nil, Bool.or_eq_false_iff, Bool.and_eq_false_iff, decide_eq_false_iff_not, and_true]; omega]; rfl)

set_option maxRecDepth 100000 in
set_option maxHeartbeats 4000000 in
theorem none_any_4 (r : Int) (w : World) (h1 : 3643 ≤ r) (h2 : r ≤ 8207) : Calls Tryz.prog 100 #[.int .i32 r] w fun e w' => e = .returned (.bool (inTab tab0 r)) ∧ w' = w := by
  generalize hv : inTab tab0 r = v
  have HV := hideC hv
  clear hv
  have q173 : (r == 173) = false := beq_eq_false_iff_ne.2 (by omega)
  have q1471 : (r == 1471) = false := beq_eq_false_iff_ne.2 (by omega)
  have q1479 : (r == 1479) = false := beq_eq_false_iff_ne.2 (by omega)
  have q1564 : (r == 1564) = false := beq_eq_false_iff_ne.2 (by omega)
  have q1648 : (r == 1648) = false := beq_eq_false_iff_ne.2 (by omega)
  have q3633 : (r == 3633) = false := beq_eq_false_iff_ne.2 (by omega)
  have q65279 : (r == 65279) = false := beq_eq_false_iff_ne.2 (by omega)
  go_enter Tryz.func100, Tryz.ntmps100
  go_wp2
  all_goals go_ret
  all_goals refine ⟨?_, rfl⟩
  all_goals rw [← HV.out]
  all_goals first
    | (rw [show inTab tab0 r = true from by simp only [inTab, tab0, List.any_cons, List.any_nil, Bool.or_eq_true, Bool.and_eq_true, decide_eq_true_eq, Bool.false_eq_true, or_false]; omega]; rfl)
    | (rw [show inTab tab0 r = false from by simp only [inTab, tab0, List.any_cons, List.any_nil, Bool.or_eq_false_iff, Bool.and_eq_false_iff, decide_eq_false_iff_not, and_true]; omega]; rfl)

set_option maxRecDepth 100000 in
set_option maxHeartbeats 4000000 in
theorem none_any_5 (r : Int) (w : World) (h1 : 8208 ≤ r) (h2 : r ≤ 65039) : Calls Tryz.prog 100 #[.int .i32 r] w fun e w' => e = .returned (.bool (inTab tab0 r)) ∧ w' = w := by
  generalize hv : inTab tab0 r = v
  have HV := hideC hv
  clear hv
  have q173 : (r == 173) = false := beq_eq_false_iff_ne.2 (by omega)
  have q1471 : (r == 1471) = false := beq_eq_false_iff_ne.2 (by omega)
  have q1479 : (r == 1479) = false := beq_eq_false_iff_ne.2 (by omega)
  have q1564 : (r == 1564) = false := beq_eq_false_iff_ne.2 (by omega)
  have q1648 : (r == 1648) = false := beq_eq_false_iff_ne.2 (by omega)
  have q3633 : (r == 3633) = false := beq_eq_false_iff_ne.2 (by omega)
  have q65279 : (r == 65279) = false := beq_eq_false_iff_ne.2 (by omega)
  go_enter Tryz.func100, Tryz.ntmps100
  go_wp2
  all_goals go_ret
  all_goals refine ⟨?_, rfl⟩
  all_goals rw [← HV.out]
  all_goals first
    | (rw [show inTab tab0 r = true from by simp only [inTab, tab0, List.any_cons, List.any_nil, Bool.or_eq_true, Bool.and_eq_true, decide_eq_true_eq, Bool.false_eq_true, or_false]; omega]; rfl)
    | (rw [show inTab tab0 r = false from by simp only [inTab, tab0, List.any_cons, List.any_nil, Bool.or_eq_false_iff, Bool.and_eq_false_iff, decide_eq_false_iff_not, and_true]; omega]; rfl)

set_option maxRecDepth 100000 in
set_option maxHeartbeats 4000000 in
theorem none_any_6_65279 (w : World) : Calls Tryz.prog 100 #[.int .i32 65279] w fun e w' => e = .returned (.bool true) ∧ w' = w := by
  go_enter Tryz.func100, Tryz.ntmps100
  go_wp2
  go_ret
  exact ⟨rfl, rfl⟩

set_option maxRecDepth 100000 in
set_option maxHeartbeats 4000000 in
theorem none_any_6 (r : Int) (w : World) (h1 : 65040 ≤ r) (n65279 : r ≠ 65279) : Calls Tryz.prog 100 #[.int .i32 r] w fun e w' => e = .returned (.bool (inTab tab0 r)) ∧ w' = w := by
  generalize hv : inTab tab0 r = v
  have HV := hideC hv
  clear hv
  have q173 : (r == 173) = false := beq_eq_false_iff_ne.2 (by omega)
  have q1471 : (r == 1471) = false := beq_eq_false_iff_ne.2 (by omega)
  have q1479 : (r == 1479) = false := beq_eq_false_iff_ne.2 (by omega)
  have q1564 : (r == 1564) = false := beq_eq_false_iff_ne.2 (by omega)
  have q1648 : (r == 1648) = false := beq_eq_false_iff_ne.2 (by omega)
  have q3633 : (r == 3633) = false := beq_eq_false_iff_ne.2 (by omega)
  have q65279 : (r == 65279) = false := beq_eq_false_iff_ne.2 (by omega)
  go_enter Tryz.func100, Tryz.ntmps100
  go_wp2
  all_goals go_ret
  all_goals refine ⟨?_, rfl⟩
  all_goals rw [← HV.out]
  all_goals first
    | (rw [show inTab tab0 r = true from by simp only [inTab, tab0, List.any_cons, List.any_nil, Bool.or_eq_true, Bool.and_eq_true, decide_eq_true_eq, Bool.false_eq_true, or_false]; omega]; rfl)
    | (rw [show inTab tab0 r = false from by simp only [inTab, tab0, List.any_cons, List.any_nil, Bool.or_eq_false_iff, Bool.and_eq_false_iff, decide_eq_false_iff_not, and_true]; omega]; rfl)

theorem none_any (r : Int) (w : World) : Calls Tryz.prog 100 #[.int .i32 r] w fun e w' => e = .returned (.bool (inTab tab0 r)) ∧ w' = w := by
  by_cases n173 : r = 173
  · subst n173
    rw [hit (l := tab0) (i := 2) (p := (173, 173)) rfl ⟨by decide, by decide⟩]
    exact none_any_0_173 w
  by_cases h0 : r ≤ 1161
  · exact none_any_0 r w (by omega) n173
  by_cases n1471 : r = 1471
  · subst n1471
    rw [hit (l := tab0) (i := 6) (p := (1471, 1471)) rfl ⟨by decide, by decide⟩]
    exact none_any_1_1471 w
  by_cases n1479 : r = 1479
  · subst n1479
    rw [hit (l := tab0) (i := 9) (p := (1479, 1479)) rfl ⟨by decide, by decide⟩]
    exact none_any_1_1479 w
  by_cases h1 : r ≤ 1479
  · exact none_any_1 r w (by omega) (by omega) n1471 n1479
  by_cases n1564 : r = 1564
  · subst n1564
    rw [hit (l := tab0) (i := 11) (p := (1564, 1564)) rfl ⟨by decide, by decide⟩]
    exact none_any_2_1564 w
  by_cases n1648 : r = 1648
  · subst n1648
    rw [hit (l := tab0) (i := 13) (p := (1648, 1648)) rfl ⟨by decide, by decide⟩]
    exact none_any_2_1648 w
  by_cases h2 : r ≤ 1756
  · exact none_any_2 r w (by omega) (by omega) n1564 n1648
  by_cases n3633 : r = 3633
  · subst n3633
    rw [hit (l := tab0) (i := 18) (p := (3633, 3633)) rfl ⟨by decide, by decide⟩]
    exact none_any_3_3633 w
  by_cases h3 : r ≤ 3642
  · exact none_any_3 r w (by omega) (by omega) n3633
  by_cases h4 : r ≤ 8207
  · exact none_any_4 r w (by omega) (by omega)
  by_cases h5 : r ≤ 65039
  · exact none_any_5 r w (by omega) (by omega)
  by_cases n65279 : r = 65279
  · subst n65279
    rw [hit (l := tab0) (i := 31) (p := (65279, 65279)) rfl ⟨by decide, by decide⟩]
    exact none_any_6_65279 w
  exact none_any_6 r w (by omega) n65279

end Go.Proofs.YthhhglfcacoejaaGreatDoor
