/- Contracts of the document's own small functions on clusters (surtitleref2): control, letter, joins, cells. -/
import Derived.Test.YteignefcijmmeaaDoorRefW
import Derived.Deep.QuietTactic
import Derived.BigQuiet
namespace Go.Proofs.YteignefcijmmeaaDoor
open Go.RowKit

set_option maxHeartbeats 1000000 in
theorem refControl_any (r : Int) (w : World) : Calls Tryd.prog 94 #[.int .i32 r] w fun e w' => e = .returned (.bool (ctlB r)) ∧ w' = w := by
  have hr : r < 0 ∨ (0 ≤ r ∧ r ≤ 31) ∨ (31 < r ∧ r < 127) ∨ (127 ≤ r ∧ r ≤ 159) ∨ (159 < r ∧ r < 1564) ∨ r = 1564 ∨ (1564 < r ∧ r < 8206) ∨ r = 8206 ∨ r = 8207 ∨ (8207 < r ∧ r < 8232) ∨ (8232 ≤ r ∧ r ≤ 8238) ∨ (8238 < r ∧ r < 8294) ∨ (8294 ≤ r ∧ r ≤ 8297) ∨ 8297 < r := by omega
  have e1 : r ≠ 1564 → (r == 1564) = false := fun h => beq_eq_false_iff_ne.2 h
  have e2 : r ≠ 8206 → (r == 8206) = false := fun h => beq_eq_false_iff_ne.2 h
  have e3 : r ≠ 8207 → (r == 8207) = false := fun h => beq_eq_false_iff_ne.2 h
  rcases hr with h | h | h | h | h | rfl | h | rfl | rfl | h | h | h | h | h
  all_goals
    first
    | (have e1 := e1 (by omega); have e2 := e2 (by omega); have e3 := e3 (by omega))
    | (clear e1 e2 e3)
    try obtain ⟨h, h'⟩ := h
    go_enter Tryd.func94, Tryd.ntmps94
    go_wp2
    go_ret
    refine ⟨?_, rfl⟩
    first | rfl | (congr 2; simp [ctlB]; done) | (congr 2; simp [ctlB]; omega) | (show Ending.returned (Value.bool _) = Ending.returned (Value.bool _); congr 2; rw [Bool.eq_iff_iff]; simp [ctlB]; omega)

set_option maxHeartbeats 400000 in
theorem letter_any (r : Int) (w : World) : Calls Tryd.prog 95 #[.int .i32 r] w fun e w' => e = .returned (.bool (flagB r)) ∧ w' = w := by
  unfold flagB
  by_cases h1 : 127462 ≤ r
  all_goals by_cases h2 : r ≤ 127487
  all_goals
    go_enter Tryd.func95, Tryd.ntmps95
    go_wp2
    go_ret
    exact ⟨by simp [h1, h2], rfl⟩

/-- Does the sign r, k signs behind nobody knows what, the one ahead of it being q, belong to the cluster of the sign first that stands d signs ahead of it? -/
def joinB (first q r : Int) (one : Bool) : Bool := (widthI r == 0 && !ctlB r && !ctlB first) || (widthI r == 2 && q == 8205 && widthI first == 2) || (flagB r && one && flagB first)

theorem flag_width (r : Int) (h : flagB r = true) : widthI r = 1 := by
  unfold flagB at h
  simp only [Bool.and_eq_true, decide_eq_true_eq] at h
  have h0 : inTab tab0 r = false := by
    simp only [inTab, tab0, List.any_cons, List.any_nil, Bool.or_eq_false_iff, Bool.and_eq_false_iff, decide_eq_false_iff_not, and_true]
    omega
  have h2 : inTab tab2 r = false := by
    simp only [inTab, tab2, List.any_cons, List.any_nil, Bool.or_eq_false_iff, Bool.and_eq_false_iff, decide_eq_false_iff_not, and_true]
    omega
  rw [widthI_eq, h0, h2]
  rfl

set_option maxRecDepth 100000 in
set_option maxHeartbeats 4000000 in
theorem joins_any (g len cap fr k : Nat) (first q r : Int) (w : World) (hf : fr < len) (hk : k < len) (hk1 : 1 ≤ k) (hl : len ≤ 140737488355328)
    (c0 : w.cell? ⟨g, fr, none⟩ = some (.int .i32 first)) (c1 : w.cell? ⟨g, k, none⟩ = some (.int .i32 r)) (c2 : w.cell? ⟨g, k - 1, none⟩ = some (.int .i32 q)) :
    Calls Tryd.prog 75 #[.slice (some ⟨g, 0, none⟩) len cap, .int .i64 fr, .int .i64 k] w fun e w' => e = .returned (.bool (joinB first q r (k == fr + 1))) ∧ w' = w := by
  have HR := hideC (fun w => refWidth_any r w)
  have HQ := hideC (fun w => refWidth_any first w)
  have hwd := widthI_bd r
  have hkr : ((k : Int) == (fr : Int) + 1) = (k == fr + 1) := by rw [Bool.eq_iff_iff]; simp; omega
  have hkm : ((k : Int) - 1).toNat = k - 1 := by omega
  generalize hone : (k == fr + 1) = one at *
  generalize hv : joinB first q r one = v
  have HV := hideC hv
  clear hv hone
  have fin : ∀ b, joinB first q r one = b → v = b := fun b e => HV.out.symm.trans e
  have HN := hideC fin
  clear fin HV
  have HL := hideC (fun w => letter_any r w)
  by_cases h0 : widthI r = 0
  · rw [h0] at HR
    have hf1 : flagB r = false := by
      cases h : flagB r
      · rfl
      · have := flag_width r h
        omega
    rw [hf1] at HL
    cases hc : ctlB r
    · cases hd : ctlB first
      · have hv := HN.out true (by simp [joinB, h0, hc, hd])
        subst hv
        clear HN
        go_enter Tryd.func75, Tryd.ntmps75
        go_wp2_with fail
        refine (HR.out _).mono ?_
        rintro e w1 ⟨rfl, rfl⟩
        go_wp2_with fail
        refine (refControl_any r _).mono ?_
        rintro e w2 ⟨rfl, rfl⟩
        go_wp2_with fail
        refine (refControl_any first _).mono ?_
        rintro e w3 ⟨rfl, rfl⟩
        go_wp2
        go_ret
        exact ⟨rfl, rfl⟩
      · have hv := HN.out false (by simp [joinB, h0, hd, hf1])
        subst hv
        clear HN
        go_enter Tryd.func75, Tryd.ntmps75
        go_wp2_with fail
        refine (HR.out _).mono ?_
        rintro e w1 ⟨rfl, rfl⟩
        go_wp2_with fail
        refine (refControl_any r _).mono ?_
        rintro e w2 ⟨rfl, rfl⟩
        go_wp2_with fail
        refine (refControl_any first _).mono ?_
        rintro e w3 ⟨rfl, rfl⟩
        go_wp2_with fail
        refine (HR.out _).mono ?_
        rintro e w4 ⟨rfl, rfl⟩
        go_wp2_with fail
        refine (HL.out _).mono ?_
        rintro e w5 ⟨rfl, rfl⟩
        go_wp2
        go_ret
        exact ⟨rfl, rfl⟩
    · have hv := HN.out false (by simp [joinB, h0, hc, hf1])
      subst hv
      clear HN
      go_enter Tryd.func75, Tryd.ntmps75
      go_wp2_with fail
      refine (HR.out _).mono ?_
      rintro e w1 ⟨rfl, rfl⟩
      go_wp2_with fail
      refine (refControl_any r _).mono ?_
      rintro e w2 ⟨rfl, rfl⟩
      go_wp2_with fail
      refine (HR.out _).mono ?_
      rintro e w3 ⟨rfl, rfl⟩
      go_wp2_with fail
      refine (HL.out _).mono ?_
      rintro e w4 ⟨rfl, rfl⟩
      go_wp2
      go_ret
      exact ⟨rfl, rfl⟩
  by_cases h2 : widthI r = 2
  · rw [h2] at HR
    have hf1 : flagB r = false := by
      cases h : flagB r
      · rfl
      · have := flag_width r h
        omega
    rw [hf1] at HL
    cases hj : (q == 8205)
    · have hv := HN.out false (by simp [joinB, h2, hj, hf1])
      subst hv
      clear HN
      go_enter Tryd.func75, Tryd.ntmps75
      go_wp2_with fail
      refine (HR.out _).mono ?_
      rintro e w1 ⟨rfl, rfl⟩
      go_wp2_with fail
      refine (HR.out _).mono ?_
      rintro e w2 ⟨rfl, rfl⟩
      go_wp2_with fail
      refine (HL.out _).mono ?_
      rintro e w3 ⟨rfl, rfl⟩
      go_wp2
      go_ret
      exact ⟨rfl, rfl⟩
    · by_cases hw : widthI first = 2
      · rw [hw] at HQ
        have hv := HN.out true (by simp [joinB, h2, hj, hw])
        subst hv
        clear HN
        go_enter Tryd.func75, Tryd.ntmps75
        go_wp2_with fail
        refine (HR.out _).mono ?_
        rintro e w1 ⟨rfl, rfl⟩
        go_wp2_with fail
        refine (HR.out _).mono ?_
        rintro e w2 ⟨rfl, rfl⟩
        go_wp2_with fail
        refine (HQ.out _).mono ?_
        rintro e w3 ⟨rfl, rfl⟩
        go_wp2
        go_ret
        exact ⟨rfl, rfl⟩
      · have hwb : (widthI first == 2) = false := beq_eq_false_iff_ne.2 hw
        have hv := HN.out false (by simp [joinB, h2, hj, hwb, hf1])
        subst hv
        clear HN
        go_enter Tryd.func75, Tryd.ntmps75
        go_wp2_with fail
        refine (HR.out _).mono ?_
        rintro e w1 ⟨rfl, rfl⟩
        go_wp2_with fail
        refine (HR.out _).mono ?_
        rintro e w2 ⟨rfl, rfl⟩
        go_wp2_with fail
        refine (HQ.out _).mono ?_
        rintro e w3 ⟨rfl, rfl⟩
        go_wp2_with fail
        refine (HL.out _).mono ?_
        rintro e w4 ⟨rfl, rfl⟩
        go_wp2
        go_ret
        exact ⟨rfl, rfl⟩
  · have h1 : widthI r = 1 := by omega
    rw [h1] at HR
    cases hf1 : flagB r
    · rw [hf1] at HL
      have hv := HN.out false (by simp [joinB, h1, hf1])
      subst hv
      clear HN
      go_enter Tryd.func75, Tryd.ntmps75
      go_wp2_with fail
      refine (HR.out _).mono ?_
      rintro e w1 ⟨rfl, rfl⟩
      go_wp2_with fail
      refine (HR.out _).mono ?_
      rintro e w2 ⟨rfl, rfl⟩
      go_wp2_with fail
      refine (HL.out _).mono ?_
      rintro e w3 ⟨rfl, rfl⟩
      go_wp2
      go_ret
      exact ⟨rfl, rfl⟩
    · rw [hf1] at HL
      cases one
      · have hv := HN.out false (by simp [joinB, h1])
        subst hv
        clear HN
        go_enter Tryd.func75, Tryd.ntmps75
        go_wp2_with fail
        refine (HR.out _).mono ?_
        rintro e w1 ⟨rfl, rfl⟩
        go_wp2_with fail
        refine (HR.out _).mono ?_
        rintro e w2 ⟨rfl, rfl⟩
        go_wp2_with fail
        refine (HL.out _).mono ?_
        rintro e w3 ⟨rfl, rfl⟩
        go_wp2
        go_ret
        exact ⟨rfl, rfl⟩
      · have hv := HN.out (flagB first) (by simp [joinB, h1, hf1])
        subst hv
        clear HN
        go_enter Tryd.func75, Tryd.ntmps75
        go_wp2_with fail
        refine (HR.out _).mono ?_
        rintro e w1 ⟨rfl, rfl⟩
        go_wp2_with fail
        refine (HR.out _).mono ?_
        rintro e w2 ⟨rfl, rfl⟩
        go_wp2_with fail
        refine (HL.out _).mono ?_
        rintro e w3 ⟨rfl, rfl⟩
        go_wp2_with fail
        refine (letter_any first _).mono ?_
        rintro e w4 ⟨rfl, rfl⟩
        go_wp2
        go_ret
        exact ⟨rfl, rfl⟩

end Go.Proofs.YteignefcijmmeaaDoor
