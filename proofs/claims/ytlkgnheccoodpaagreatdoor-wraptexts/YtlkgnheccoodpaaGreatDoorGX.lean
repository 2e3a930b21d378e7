import Derived.Deep.QuietTactic
import Derived.BigQuiet
import Derived.Test.YtlkgnheccoodpaaGreatDoorRefNone
import Derived.Test.YtlkgnheccoodpaaGreatDoorRefWide
namespace Go.Proofs.YtlkgnheccoodpaaGreatDoor
open Go.RowKit

theorem plain_none (r : Int) (h1 : 32 ≤ r) (h2 : r ≤ 126) : inTab tab0 r = false := by
  simp only [inTab, tab0, List.any_cons, List.any_nil, Bool.or_eq_false_iff, Bool.and_eq_false_iff, decide_eq_false_iff_not, and_true]
  omega
theorem plain_wide (r : Int) (h1 : 32 ≤ r) (h2 : r ≤ 126) : inTab tab2 r = false := by
  simp only [inTab, tab2, List.any_cons, List.any_nil, Bool.or_eq_false_iff, Bool.and_eq_false_iff, decide_eq_false_iff_not, and_true]
  omega
theorem widthI_eq (r : Int) : widthI r = if inTab tab0 r = true then 0 else if inTab tab2 r = true then 2 else 1 := by
  unfold widthI
  split
  · rename_i h
    rw [plain_none r h.1 h.2, plain_wide r h.1 h.2]
    rfl
  · rfl

set_option maxRecDepth 100000 in
set_option maxHeartbeats 1000000 in
theorem refWidth_any (r : Int) (w : World) : Calls Tryz.prog 102 #[.int .i32 r] w fun e w' => e = .returned (.int .i64 (widthI r)) ∧ w' = w := by
  rw [widthI_eq]
  have H0 := hideC (fun w => none_any r w)
  have H2 := hideC (fun w => wide_any r w)
  cases h0 : inTab tab0 r
  · rw [h0] at H0
    cases h2 : inTab tab2 r
    · rw [h2] at H2
      clear h0 h2
      go_enter Tryz.func102, Tryz.ntmps102
      go_wp2_with fail
      refine (H0.out _).mono ?_
      rintro e w1 ⟨rfl, rfl⟩
      go_wp2_with fail
      refine (H2.out _).mono ?_
      rintro e w2 ⟨rfl, rfl⟩
      go_wp2
      go_ret
      exact ⟨rfl, rfl⟩
    · rw [h2] at H2
      clear h0 h2
      go_enter Tryz.func102, Tryz.ntmps102
      go_wp2_with fail
      refine (H0.out _).mono ?_
      rintro e w1 ⟨rfl, rfl⟩
      go_wp2_with fail
      refine (H2.out _).mono ?_
      rintro e w2 ⟨rfl, rfl⟩
      go_wp2
      go_ret
      exact ⟨rfl, rfl⟩
  · rw [h0] at H0
    clear h0
    go_enter Tryz.func102, Tryz.ntmps102
    go_wp2_with fail
    refine (H0.out _).mono ?_
    rintro e w1 ⟨rfl, rfl⟩
    go_wp2
    go_ret
    exact ⟨rfl, rfl⟩

end Go.Proofs.YtlkgnheccoodpaaGreatDoor
namespace Go.Proofs.YtlkgnheccoodpaaGreatDoor
open Go.RowKit

set_option maxHeartbeats 1000000 in
theorem refControl_any (r : Int) (w : World) : Calls Tryz.prog 103 #[.int .i32 r] w fun e w' => e = .returned (.bool (ctlB r)) ∧ w' = w := by
  have hr : r < 0 ∨ (0 ≤ r ∧ r ≤ 31) ∨ (31 < r ∧ r < 127) ∨ (127 ≤ r ∧ r ≤ 159) ∨ (159 < r ∧ r < 1564) ∨ r = 1564 ∨ (1564 < r ∧ r < 8206) ∨ r = 8206 ∨ r = 8207 ∨ (8207 < r ∧ r < 8232) ∨ (8232 ≤ r ∧ r ≤ 8238) ∨ (8238 < r ∧ r < 8294) ∨ (8294 ≤ r ∧ r ≤ 8297) ∨ 8297 < r := by omega
  have e1 : r ≠ 1564 → (r == 1564) = false := fun h => beq_eq_false_iff_ne.2 h
  have e2 : r ≠ 8206 → (r == 8206) = false := fun h => beq_eq_false_iff_ne.2 h
  have e3 : r ≠ 8207 → (r == 8207) = false := fun h => beq_eq_false_iff_ne.2 h
  rcases hr with h | h | h | h | h | rfl | h | rfl | rfl | h | h | h | h | h
  all_goals
    first
    | (have e1 := e1 (by omega); have e2 := e2 (by omega); have e3 := e3 (by omega))
    | (clear e1 e2 e3)
    try obtain ⟨h, h'⟩ := h
    go_enter Tryz.func103, Tryz.ntmps103
    go_wp2
    go_ret
    refine ⟨?_, rfl⟩
    first | rfl | (congr 2; simp [ctlB]; done) | (congr 2; simp [ctlB]; omega) | (show Ending.returned (Value.bool _) = Ending.returned (Value.bool _); congr 2; rw [Bool.eq_iff_iff]; simp [ctlB]; omega)

set_option maxHeartbeats 400000 in
theorem letter_any (r : Int) (w : World) : Calls Tryz.prog 104 #[.int .i32 r] w fun e w' => e = .returned (.bool (flagB r)) ∧ w' = w := by
  unfold flagB
  by_cases h1 : 127462 ≤ r
  all_goals by_cases h2 : r ≤ 127487
  all_goals
    go_enter Tryz.func104, Tryz.ntmps104
    go_wp2
    go_ret
    exact ⟨by simp [h1, h2], rfl⟩
def joinB (first q r : Int) (one : Bool) : Bool := (widthI r == 0 && !ctlB r && !ctlB first) || (widthI r == 2 && q == 8205 && widthI first == 2) || (flagB r && one && flagB first)

theorem flag_width (r : Int) (h : flagB r = true) : widthI r = 1 := by
  unfold flagB at h
  simp only [Bool.and_eq_true, decide_eq_true_eq] at h
  have h0 : inTab tab0 r = false := by
    simp only [inTab, tab0, List.any_cons, List.any_nil, Bool.or_eq_false_iff, Bool.and_eq_false_iff, decide_eq_false_iff_not, and_true]
    omega
  have h2 : inTab tab2 r = false := by
    simp only [inTab, tab2, List.any_cons, List.any_nil, Bool.or_eq_false_iff, Bool.and_eq_false_iff, decide_eq_false_iff_not, and_true]
    omega
  rw [widthI_eq, h0, h2]
  rfl

set_option maxRecDepth 100000 in
set_option maxHeartbeats 4000000 in
theorem joins_any (g len cap fr k : Nat) (first q r : Int) (w : World) (hf : fr < len) (hk : k < len) (hk1 : 1 ≤ k) (hl : len ≤ 140737488355328)
    (c0 : w.cell? ⟨g, fr, none⟩ = some (.int .i32 first)) (c1 : w.cell? ⟨g, k, none⟩ = some (.int .i32 r)) (c2 : w.cell? ⟨g, k - 1, none⟩ = some (.int .i32 q)) :
    Calls Tryz.prog 76 #[.slice (some ⟨g, 0, none⟩) len cap, .int .i64 fr, .int .i64 k] w fun e w' => e = .returned (.bool (joinB first q r (k == fr + 1))) ∧ w' = w := by
  have HR := hideC (fun w => refWidth_any r w)
  have HQ := hideC (fun w => refWidth_any first w)
  have hwd := widthI_bd r
  have hkr : ((k : Int) == (fr : Int) + 1) = (k == fr + 1) := by rw [Bool.eq_iff_iff]; simp; omega
  have hkm : ((k : Int) - 1).toNat = k - 1 := by omega
  generalize hone : (k == fr + 1) = one at *
  generalize hv : joinB first q r one = v
  have HV := hideC hv
  clear hv hone
  have fin : ∀ b, joinB first q r one = b → v = b := fun b e => HV.out.symm.trans e
  have HN := hideC fin
  clear fin HV
  have HL := hideC (fun w => letter_any r w)
  by_cases h0 : widthI r = 0
  · rw [h0] at HR
    have hf1 : flagB r = false := by
      cases h : flagB r
      · rfl
      · have := flag_width r h
        omega
    rw [hf1] at HL
    cases hc : ctlB r
    · cases hd : ctlB first
      · have hv := HN.out true (by simp [joinB, h0, hc, hd])
        subst hv
        clear HN
        go_enter Tryz.func76, Tryz.ntmps76
        go_wp2_with fail
        refine (HR.out _).mono ?_
        rintro e w1 ⟨rfl, rfl⟩
        go_wp2_with fail
        refine (refControl_any r _).mono ?_
        rintro e w2 ⟨rfl, rfl⟩
        go_wp2_with fail
        refine (refControl_any first _).mono ?_
        rintro e w3 ⟨rfl, rfl⟩
        go_wp2
        go_ret
        exact ⟨rfl, rfl⟩
      · have hv := HN.out false (by simp [joinB, h0, hd, hf1])
        subst hv
        clear HN
        go_enter Tryz.func76, Tryz.ntmps76
        go_wp2_with fail
        refine (HR.out _).mono ?_
        rintro e w1 ⟨rfl, rfl⟩
        go_wp2_with fail
        refine (refControl_any r _).mono ?_
        rintro e w2 ⟨rfl, rfl⟩
        go_wp2_with fail
        refine (refControl_any first _).mono ?_
        rintro e w3 ⟨rfl, rfl⟩
        go_wp2_with fail
        refine (HR.out _).mono ?_
        rintro e w4 ⟨rfl, rfl⟩
        go_wp2_with fail
        refine (HL.out _).mono ?_
        rintro e w5 ⟨rfl, rfl⟩
        go_wp2
        go_ret
        exact ⟨rfl, rfl⟩
    · have hv := HN.out false (by simp [joinB, h0, hc, hf1])
      subst hv
      clear HN
      go_enter Tryz.func76, Tryz.ntmps76
      go_wp2_with fail
      refine (HR.out _).mono ?_
      rintro e w1 ⟨rfl, rfl⟩
      go_wp2_with fail
      refine (refControl_any r _).mono ?_
      rintro e w2 ⟨rfl, rfl⟩
      go_wp2_with fail
      refine (HR.out _).mono ?_
      rintro e w3 ⟨rfl, rfl⟩
      go_wp2_with fail
      refine (HL.out _).mono ?_
      rintro e w4 ⟨rfl, rfl⟩
      go_wp2
      go_ret
      exact ⟨rfl, rfl⟩
  by_cases h2 : widthI r = 2
  · rw [h2] at HR
    have hf1 : flagB r = false := by
      cases h : flagB r
      · rfl
      · have := flag_width r h
        omega
    rw [hf1] at HL
    cases hj : (q == 8205)
    · have hv := HN.out false (by simp [joinB, h2, hj, hf1])
      subst hv
      clear HN
      go_enter Tryz.func76, Tryz.ntmps76
      go_wp2_with fail
      refine (HR.out _).mono ?_
      rintro e w1 ⟨rfl, rfl⟩
      go_wp2_with fail
      refine (HR.out _).mono ?_
      rintro e w2 ⟨rfl, rfl⟩
      go_wp2_with fail
      refine (HL.out _).mono ?_
      rintro e w3 ⟨rfl, rfl⟩
      go_wp2
      go_ret
      exact ⟨rfl, rfl⟩
    · by_cases hw : widthI first = 2
      · rw [hw] at HQ
        have hv := HN.out true (by simp [joinB, h2, hj, hw])
        subst hv
        clear HN
        go_enter Tryz.func76, Tryz.ntmps76
        go_wp2_with fail
        refine (HR.out _).mono ?_
        rintro e w1 ⟨rfl, rfl⟩
        go_wp2_with fail
        refine (HR.out _).mono ?_
        rintro e w2 ⟨rfl, rfl⟩
        go_wp2_with fail
        refine (HQ.out _).mono ?_
        rintro e w3 ⟨rfl, rfl⟩
        go_wp2
        go_ret
        exact ⟨rfl, rfl⟩
      · have hwb : (widthI first == 2) = false := beq_eq_false_iff_ne.2 hw
        have hv := HN.out false (by simp [joinB, h2, hj, hwb, hf1])
        subst hv
        clear HN
        go_enter Tryz.func76, Tryz.ntmps76
        go_wp2_with fail
        refine (HR.out _).mono ?_
        rintro e w1 ⟨rfl, rfl⟩
        go_wp2_with fail
        refine (HR.out _).mono ?_
        rintro e w2 ⟨rfl, rfl⟩
        go_wp2_with fail
        refine (HQ.out _).mono ?_
        rintro e w3 ⟨rfl, rfl⟩
        go_wp2_with fail
        refine (HL.out _).mono ?_
        rintro e w4 ⟨rfl, rfl⟩
        go_wp2
        go_ret
        exact ⟨rfl, rfl⟩
  · have h1 : widthI r = 1 := by omega
    rw [h1] at HR
    cases hf1 : flagB r
    · rw [hf1] at HL
      have hv := HN.out false (by simp [joinB, h1, hf1])
      subst hv
      clear HN
      go_enter Tryz.func76, Tryz.ntmps76
      go_wp2_with fail
      refine (HR.out _).mono ?_
      rintro e w1 ⟨rfl, rfl⟩
      go_wp2_with fail
      refine (HR.out _).mono ?_
      rintro e w2 ⟨rfl, rfl⟩
      go_wp2_with fail
      refine (HL.out _).mono ?_
      rintro e w3 ⟨rfl, rfl⟩
      go_wp2
      go_ret
      exact ⟨rfl, rfl⟩
    · rw [hf1] at HL
      cases one
      · have hv := HN.out false (by simp [joinB, h1])
        subst hv
        clear HN
        go_enter Tryz.func76, Tryz.ntmps76
        go_wp2_with fail
        refine (HR.out _).mono ?_
        rintro e w1 ⟨rfl, rfl⟩
        go_wp2_with fail
        refine (HR.out _).mono ?_
        rintro e w2 ⟨rfl, rfl⟩
        go_wp2_with fail
        refine (HL.out _).mono ?_
        rintro e w3 ⟨rfl, rfl⟩
        go_wp2
        go_ret
        exact ⟨rfl, rfl⟩
      · have hv := HN.out (flagB first) (by simp [joinB, h1, hf1])
        subst hv
        clear HN
        go_enter Tryz.func76, Tryz.ntmps76
        go_wp2_with fail
        refine (HR.out _).mono ?_
        rintro e w1 ⟨rfl, rfl⟩
        go_wp2_with fail
        refine (HR.out _).mono ?_
        rintro e w2 ⟨rfl, rfl⟩
        go_wp2_with fail
        refine (HL.out _).mono ?_
        rintro e w3 ⟨rfl, rfl⟩
        go_wp2_with fail
        refine (letter_any first _).mono ?_
        rintro e w4 ⟨rfl, rfl⟩
        go_wp2
        go_ret
        exact ⟨rfl, rfl⟩

end Go.Proofs.YtlkgnheccoodpaaGreatDoor
namespace Go.Proofs.YtlkgnheccoodpaaGreatDoor
open Go.RowKit
def asksB (R : Nat → Int) (fr : Nat) : Nat → Bool
  | 0 => false
  | n + 1 => asksB R fr n || R (fr + 1 + n) == 65039
def cellsR (R : Nat → Int) (fr to : Nat) : Int :=
  if (decide (1 < to - fr) && flagB (R fr) && flagB (R (fr + 1))) = true then 2 else if (symB (R fr) && asksB R fr (to - fr - 1)) = true then 2 else widthI (R fr)
def RunesAt (W : World) (g len : Nat) (R : Nat → Int) : Prop := ∀ i, i < len → W.cell? ⟨g, i, none⟩ = some (.int .i32 (R i))

theorem asksB_step (R : Nat → Int) (fr : Nat) : ∀ n m, n ≤ m → asksB R fr n = true → asksB R fr m = true
  | n, 0, h, e => by obtain rfl : n = 0 := by omega
                     exact e
  | n, m + 1, h, e => by
    by_cases hn : n = m + 1
    · subst hn; exact e
    · have := asksB_step R fr n m (by omega) e
      simp [asksB, this]

set_option maxRecDepth 100000 in
set_option maxHeartbeats 4000000 in
theorem cells_any (g len cap fr to : Nat) (R : Nat → Int) (w : World) (hf : fr < to) (ht : to ≤ len) (hl : len ≤ 140737488355328) (hR : RunesAt w g len R) :
    Calls Tryz.prog 77 #[.slice (some ⟨g, 0, none⟩) len cap, .int .i64 fr, .int .i64 to] w fun e w' => e = .returned (.int .i64 (cellsR R fr to)) ∧ w' = w := by
  have c0 := hR fr (by omega)
  have H0 := hideC (fun w => letter_any (R fr) w)
  have H1 := hideC (fun w => letter_any (R (fr + 1)) w)
  have HQ := hideC (fun w => refWidth_any (R fr) w)
  have HRR := hideC hR
  clear hR
  generalize hv : cellsR R fr to = v
  have HV := hideC hv
  clear hv
  have fin : ∀ b, cellsR R fr to = b → v = b := fun b e => HV.out.symm.trans e
  have HN := hideC fin
  clear fin HV
  by_cases h1 : 1 < to - fr
  · have c1 := HRR.out (fr + 1) (by omega)
    have h1' : (1 : Int) < (to : Int) - fr := by omega
    cases ha : flagB (R fr)
    · rw [ha] at H0
      by_cases s1 : R fr < 8592
      · have hs : symB (R fr) = false := by simp [symB]; omega
        have hv := HN.out (widthI (R fr)) (by simp [cellsR, ha, hs])
        subst hv
        clear HN
        go_enter Tryz.func77, Tryz.ntmps77
        go_wp2_with fail
        refine (H0.out _).mono ?_
        rintro e w1 ⟨rfl, rfl⟩
        go_wp2_with fail
        refine (HQ.out _).mono ?_
        rintro e w8 ⟨rfl, rfl⟩
        go_wp2
        go_ret
        exact ⟨rfl, rfl⟩
      · by_cases s2 : 11263 < R fr
        · have hs : symB (R fr) = false := by simp [symB]; omega
          have hv := HN.out (widthI (R fr)) (by simp [cellsR, ha, hs])
          subst hv
          clear HN
          go_enter Tryz.func77, Tryz.ntmps77
          go_wp2_with fail
          refine (H0.out _).mono ?_
          rintro e w1 ⟨rfl, rfl⟩
          go_wp2_with fail
          refine (HQ.out _).mono ?_
          rintro e w8 ⟨rfl, rfl⟩
          go_wp2
          go_ret
          exact ⟨rfl, rfl⟩
        · have hs : symB (R fr) = true := by simp [symB]; omega
          go_enter Tryz.func77, Tryz.ntmps77
          go_wp2_with fail
          refine (H0.out _).mono ?_
          rintro e w1 ⟨rfl, rfl⟩
          go_wp2
          go_loopw [7] (fun i wq => ∃ m : Nat, i = .int .i64 (fr + 1 + m : Nat) ∧ fr + 1 + m ≤ to ∧ Hid (asksB R fr m = false) ∧ wq = w1) (fun i _ => to - (intOf i).toNat)
          case atStart => exact ⟨0, by simp, by omega, rfl, rfl⟩
          case round =>
            obtain ⟨m, rfl, hm, hno, rfl⟩ := hrel
            by_cases hmt : fr + 1 + m < to
            · have cm := HRR.out (fr + 1 + m) (by omega)
              cases hj : (R (fr + 1 + m) == 65039)
              · have hno2 : Hid (asksB R fr (m + 1) = false) := by show asksB R fr (m + 1) = false; simp [asksB, hno.out, hj]
                go_wp2
                go_roundw
                case rel => exact ⟨m + 1, by go_num, by omega, hno2, by first | rfl | trivial⟩
                case measure => first | omega | (simp [intOf]; omega) | (simp [intOf]; done)
              · have hy : asksB R fr (to - fr - 1) = true := asksB_step R fr (m + 1) _ (by omega) (by simp [asksB, hj])
                have hv := HN.out 2 (by simp [cellsR, ha, hs, hy])
                subst hv
                go_wp2
                go_ret
                exact ⟨rfl, rfl⟩
            · have hy : asksB R fr (to - fr - 1) = false := by rw [show to - fr - 1 = m by omega]; exact hno.out
              have hv := HN.out (widthI (R fr)) (by simp [cellsR, ha, hs, hy])
              subst hv
              go_wp2_with fail
              refine (HQ.out _).mono ?_
              rintro e w8 ⟨rfl, rfl⟩
              go_wp2
              go_ret
              exact ⟨rfl, rfl⟩
    · rw [ha] at H0
      have s2 : 11263 < R fr := by unfold flagB at ha; simp at ha; omega
      have hs : symB (R fr) = false := by simp [symB]; omega
      cases hb : flagB (R (fr + 1))
      · rw [hb] at H1
        have hv := HN.out (widthI (R fr)) (by simp [cellsR, ha, hb, hs])
        subst hv
        clear HN
        go_enter Tryz.func77, Tryz.ntmps77
        go_wp2_with fail
        refine (H0.out _).mono ?_
        rintro e w1 ⟨rfl, rfl⟩
        go_wp2_with fail
        refine (H1.out _).mono ?_
        rintro e w2 ⟨rfl, rfl⟩
        go_wp2_with fail
        refine (HQ.out _).mono ?_
        rintro e w8 ⟨rfl, rfl⟩
        go_wp2
        go_ret
        exact ⟨rfl, rfl⟩
      · rw [hb] at H1
        have hv := HN.out 2 (by simp [cellsR, ha, hb, h1])
        subst hv
        clear HN
        go_enter Tryz.func77, Tryz.ntmps77
        go_wp2_with fail
        refine (H0.out _).mono ?_
        rintro e w1 ⟨rfl, rfl⟩
        go_wp2_with fail
        refine (H1.out _).mono ?_
        rintro e w2 ⟨rfl, rfl⟩
        go_wp2
        go_ret
        exact ⟨rfl, rfl⟩
  · have h1' : ¬ (1 : Int) < (to : Int) - fr := by omega
    by_cases s1 : R fr < 8592
    · have hs : symB (R fr) = false := by simp [symB]; omega
      have hv := HN.out (widthI (R fr)) (by simp [cellsR, h1, hs])
      subst hv
      clear HN
      go_enter Tryz.func77, Tryz.ntmps77
      go_wp2_with fail
      refine (HQ.out _).mono ?_
      rintro e w8 ⟨rfl, rfl⟩
      go_wp2
      go_ret
      exact ⟨rfl, rfl⟩
    · by_cases s2 : 11263 < R fr
      · have hs : symB (R fr) = false := by simp [symB]; omega
        have hv := HN.out (widthI (R fr)) (by simp [cellsR, h1, hs])
        subst hv
        clear HN
        go_enter Tryz.func77, Tryz.ntmps77
        go_wp2_with fail
        refine (HQ.out _).mono ?_
        rintro e w8 ⟨rfl, rfl⟩
        go_wp2
        go_ret
        exact ⟨rfl, rfl⟩
      · have hs : symB (R fr) = true := by simp [symB]; omega
        go_enter Tryz.func77, Tryz.ntmps77
        go_wp2
        go_loopw [7] (fun i wq => ∃ m : Nat, i = .int .i64 (fr + 1 + m : Nat) ∧ fr + 1 + m ≤ to ∧ Hid (asksB R fr m = false) ∧ wq = w) (fun i _ => to - (intOf i).toNat)
        case atStart => exact ⟨0, by simp, by omega, rfl, rfl⟩
        case round =>
          obtain ⟨m, rfl, hm, hno, rfl⟩ := hrel
          by_cases hmt : fr + 1 + m < to
          · omega
          · have hy : asksB R fr (to - fr - 1) = false := by rw [show to - fr - 1 = m by omega]; exact hno.out
            have hv := HN.out (widthI (R fr)) (by simp [cellsR, h1, hs, hy])
            subst hv
            go_wp2_with fail
            refine (HQ.out _).mono ?_
            rintro e w8 ⟨rfl, rfl⟩
            go_wp2
            go_ret
            exact ⟨rfl, rfl⟩

end Go.Proofs.YtlkgnheccoodpaaGreatDoor
