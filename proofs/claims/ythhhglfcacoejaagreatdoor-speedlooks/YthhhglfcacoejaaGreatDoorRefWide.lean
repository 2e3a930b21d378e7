/- The contract of the document's own table tab2: whether a rune lies in it. -/
import Derived.Test.YthhhglfcacoejaaGreatDoorCellW1
namespace Go.Proofs.YthhhglfcacoejaaGreatDoor
open Go.RowKit

set_option maxRecDepth 100000 in
set_option maxHeartbeats 4000000 in
theorem wide_any_0 (r : Int) (w : World) (h2 : r ≤ 9749) : Calls Tryz.prog 101 #[.int .i32 r] w fun e w' => e = .returned (.bool (inTab tab2 r)) ∧ w' = w := by
  generalize hv : inTab tab2 r = v
  have HV := hideC hv
  clear hv
  have q9889 : (r == 9889) = false := beq_eq_false_iff_ne.2 (by omega)
  have q9989 : (r == 9989) = false := beq_eq_false_iff_ne.2 (by omega)
  have q10024 : (r == 10024) = false := beq_eq_false_iff_ne.2 (by omega)
  have q10060 : (r == 10060) = false := beq_eq_false_iff_ne.2 (by omega)
  go_enter Tryz.func101, Tryz.ntmps101
  go_wp2
  all_goals go_ret
  all_goals refine ⟨?_, rfl⟩
  all_goals rw [← HV.out]
  all_goals first
    | (rw [show inTab tab2 r = true from by simp only [inTab, tab2, List.any_cons, List.any_nil, Bool.or_eq_true, Bool.and_eq_true, decide_eq_true_eq, Bool.false_eq_true, or_false]; omega]; rfl)
    | (rw [show inTab tab2 r = false from by simp only [inTab, tab2, List.any_cons, List.any_nil, Bool.or_eq_false_iff, Bool.and_eq_false_iff, decide_eq_false_iff_not, and_true]; omega]; rfl)

set_option maxRecDepth 100000 in
set_option maxHeartbeats 4000000 in
theorem wide_any_1_9889 (w : World) : Calls Tryz.prog 101 #[.int .i32 9889] w fun e w' => e = .returned (.bool true) ∧ w' = w := by
  go_enter Tryz.func101, Tryz.ntmps101
  go_wp2
  go_ret
  exact ⟨rfl, rfl⟩

set_option maxRecDepth 100000 in
set_option maxHeartbeats 4000000 in
theorem wide_any_1_9989 (w : World) : Calls Tryz.prog 101 #[.int .i32 9989] w fun e w' => e = .returned (.bool true) ∧ w' = w := by
  go_enter Tryz.func101, Tryz.ntmps101
  go_wp2
  go_ret
  exact ⟨rfl, rfl⟩

set_option maxRecDepth 100000 in
set_option maxHeartbeats 4000000 in
theorem wide_any_1_10024 (w : World) : Calls Tryz.prog 101 #[.int .i32 10024] w fun e w' => e = .returned (.bool true) ∧ w' = w := by
  go_enter Tryz.func101, Tryz.ntmps101
  go_wp2
  go_ret
  exact ⟨rfl, rfl⟩

set_option maxRecDepth 100000 in
set_option maxHeartbeats 4000000 in
theorem wide_any_1_10060 (w : World) : Calls Tryz.prog 101 #[.int .i32 10060] w fun e w' => e = .returned (.bool true) ∧ w' = w := by
  go_enter Tryz.func101, Tryz.ntmps101
  go_wp2
  go_ret
  exact ⟨rfl, rfl⟩

set_option maxRecDepth 100000 in
set_option maxHeartbeats 4000000 in
theorem wide_any_1 (r : Int) (w : World) (h1 : 9750 ≤ r) (h2 : r ≤ 10069) (n9889 : r ≠ 9889) (n9989 : r ≠ 9989) (n10024 : r ≠ 10024) (n10060 : r ≠ 10060) : Calls Tryz.prog 101 #[.int .i32 r] w fun e w' => e = .returned (.bool (inTab tab2 r)) ∧ w' = w := by
  generalize hv : inTab tab2 r = v
  have HV := hideC hv
  clear hv
  have q9889 : (r == 9889) = false := beq_eq_false_iff_ne.2 (by omega)
  have q9989 : (r == 9989) = false := beq_eq_false_iff_ne.2 (by omega)
  have q10024 : (r == 10024) = false := beq_eq_false_iff_ne.2 (by omega)
  have q10060 : (r == 10060) = false := beq_eq_false_iff_ne.2 (by omega)
  go_enter Tryz.func101, Tryz.ntmps101
  go_wp2
  all_goals go_ret
  all_goals refine ⟨?_, rfl⟩
  all_goals rw [← HV.out]
  all_goals first
    | (rw [show inTab tab2 r = true from by simp only [inTab, tab2, List.any_cons, List.any_nil, Bool.or_eq_true, Bool.and_eq_true, decide_eq_true_eq, Bool.false_eq_true, or_false]; omega]; rfl)
    | (rw [show inTab tab2 r = false from by simp only [inTab, tab2, List.any_cons, List.any_nil, Bool.or_eq_false_iff, Bool.and_eq_false_iff, decide_eq_false_iff_not, and_true]; omega]; rfl)

set_option maxRecDepth 100000 in
set_option maxHeartbeats 4000000 in
theorem wide_any_2 (r : Int) (w : World) (h1 : 10070 ≤ r) (h2 : r ≤ 43391) : Calls Tryz.prog 101 #[.int .i32 r] w fun e w' => e = .returned (.bool (inTab tab2 r)) ∧ w' = w := by
  generalize hv : inTab tab2 r = v
  have HV := hideC hv
  clear hv
  have q9889 : (r == 9889) = false := beq_eq_false_iff_ne.2 (by omega)
  have q9989 : (r == 9989) = false := beq_eq_false_iff_ne.2 (by omega)
  have q10024 : (r == 10024) = false := beq_eq_false_iff_ne.2 (by omega)
  have q10060 : (r == 10060) = false := beq_eq_false_iff_ne.2 (by omega)
  go_enter Tryz.func101, Tryz.ntmps101
  go_wp2
  all_goals go_ret
  all_goals refine ⟨?_, rfl⟩
  all_goals rw [← HV.out]
  all_goals first
    | (rw [show inTab tab2 r = true from by simp only [inTab, tab2, List.any_cons, List.any_nil, Bool.or_eq_true, Bool.and_eq_true, decide_eq_true_eq, Bool.false_eq_true, or_false]; omega]; rfl)
    | (rw [show inTab tab2 r = false from by simp only [inTab, tab2, List.any_cons, List.any_nil, Bool.or_eq_false_iff, Bool.and_eq_false_iff, decide_eq_false_iff_not, and_true]; omega]; rfl)

set_option maxRecDepth 100000 in
set_option maxHeartbeats 4000000 in
theorem wide_any_3 (r : Int) (w : World) (h1 : 43392 ≤ r) (h2 : r ≤ 65510) : Calls Tryz.prog 101 #[.int .i32 r] w fun e w' => e = .returned (.bool (inTab tab2 r)) ∧ w' = w := by
  generalize hv : inTab tab2 r = v
  have HV := hideC hv
  clear hv
  have q9889 : (r == 9889) = false := beq_eq_false_iff_ne.2 (by omega)
  have q9989 : (r == 9989) = false := beq_eq_false_iff_ne.2 (by omega)
  have q10024 : (r == 10024) = false := beq_eq_false_iff_ne.2 (by omega)
  have q10060 : (r == 10060) = false := beq_eq_false_iff_ne.2 (by omega)
  go_enter Tryz.func101, Tryz.ntmps101
  go_wp2
  all_goals go_ret
  all_goals refine ⟨?_, rfl⟩
  all_goals rw [← HV.out]
  all_goals first
    | (rw [show inTab tab2 r = true from by simp only [inTab, tab2, List.any_cons, List.any_nil, Bool.or_eq_true, Bool.and_eq_true, decide_eq_true_eq, Bool.false_eq_true, or_false]; omega]; rfl)
    | (rw [show inTab tab2 r = false from by simp only [inTab, tab2, List.any_cons, List.any_nil, Bool.or_eq_false_iff, Bool.and_eq_false_iff, decide_eq_false_iff_not, and_true]; omega]; rfl)

set_option maxRecDepth 100000 in
set_option maxHeartbeats 4000000 in
theorem wide_any_4 (r : Int) (w : World) (h1 : 65511 ≤ r) : Calls Tryz.prog 101 #[.int .i32 r] w fun e w' => e = .returned (.bool (inTab tab2 r)) ∧ w' = w := by
  generalize hv : inTab tab2 r = v
  have HV := hideC hv
  clear hv
  have q9889 : (r == 9889) = false := beq_eq_false_iff_ne.2 (by omega)
  have q9989 : (r == 9989) = false := beq_eq_false_iff_ne.2 (by omega)
  have q10024 : (r == 10024) = false := beq_eq_false_iff_ne.2 (by omega)
  have q10060 : (r == 10060) = false := beq_eq_false_iff_ne.2 (by omega)
  go_enter Tryz.func101, Tryz.ntmps101
  go_wp2
  all_goals go_ret
  all_goals refine ⟨?_, rfl⟩
  all_goals rw [← HV.out]
  all_goals first
    | (rw [show inTab tab2 r = true from by simp only [inTab, tab2, List.any_cons, List.any_nil, Bool.or_eq_true, Bool.and_eq_true, decide_eq_true_eq, Bool.false_eq_true, or_false]; omega]; rfl)
    | (rw [show inTab tab2 r = false from by simp only [inTab, tab2, List.any_cons, List.any_nil, Bool.or_eq_false_iff, Bool.and_eq_false_iff, decide_eq_false_iff_not, and_true]; omega]; rfl)

theorem wide_any (r : Int) (w : World) : Calls Tryz.prog 101 #[.int .i32 r] w fun e w' => e = .returned (.bool (inTab tab2 r)) ∧ w' = w := by
  by_cases h0 : r ≤ 9749
  · exact wide_any_0 r w (by omega)
  by_cases n9889 : r = 9889
  · subst n9889
    rw [hit (l := tab2) (i := 5) (p := (9889, 9889)) rfl ⟨by decide, by decide⟩]
    exact wide_any_1_9889 w
  by_cases n9989 : r = 9989
  · subst n9989
    rw [hit (l := tab2) (i := 6) (p := (9989, 9989)) rfl ⟨by decide, by decide⟩]
    exact wide_any_1_9989 w
  by_cases n10024 : r = 10024
  · subst n10024
    rw [hit (l := tab2) (i := 7) (p := (10024, 10024)) rfl ⟨by decide, by decide⟩]
    exact wide_any_1_10024 w
  by_cases n10060 : r = 10060
  · subst n10060
    rw [hit (l := tab2) (i := 8) (p := (10060, 10060)) rfl ⟨by decide, by decide⟩]
    exact wide_any_1_10060 w
  by_cases h1 : r ≤ 10069
  · exact wide_any_1 r w (by omega) (by omega) n9889 n9989 n10024 n10060
  by_cases h2 : r ≤ 43391
  · exact wide_any_2 r w (by omega) (by omega)
  by_cases h3 : r ≤ 65510
  · exact wide_any_3 r w (by omega) (by omega)
  exact wide_any_4 r w (by omega)

end Go.Proofs.YthhhglfcacoejaaGreatDoor
