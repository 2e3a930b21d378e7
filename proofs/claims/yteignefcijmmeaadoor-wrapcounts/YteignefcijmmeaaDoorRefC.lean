/- The contract of the document's own cells (surtitleref2). -/
import Derived.Test.YteignefcijmmeaaDoorRefJ
namespace Go.Proofs.YteignefcijmmeaaDoor
open Go.RowKit

/-- Has the cluster from fr up to to the sign that asks for a picture behind its first one? -/
def asksB (R : Nat → Int) (fr : Nat) : Nat → Bool
  | 0 => false
  | n + 1 => asksB R fr n || R (fr + 1 + n) == 65039
def cellsR (R : Nat → Int) (fr to : Nat) : Int :=
  if (decide (1 < to - fr) && flagB (R fr) && flagB (R (fr + 1))) = true then 2 else if (symB (R fr) && asksB R fr (to - fr - 1)) = true then 2 else widthI (R fr)
def RunesAt (W : World) (g len : Nat) (R : Nat → Int) : Prop := ∀ i, i < len → W.cell? ⟨g, i, none⟩ = some (.int .i32 (R i))

theorem asksB_step (R : Nat → Int) (fr : Nat) : ∀ n m, n ≤ m → asksB R fr n = true → asksB R fr m = true
  | n, 0, h, e => by obtain rfl : n = 0 := by omega
                     exact e
  | n, m + 1, h, e => by
    by_cases hn : n = m + 1
    · subst hn; exact e
    · have := asksB_step R fr n m (by omega) e
      simp [asksB, this]

set_option maxRecDepth 100000 in
set_option maxHeartbeats 4000000 in
theorem cells_any (g len cap fr to : Nat) (R : Nat → Int) (w : World) (hf : fr < to) (ht : to ≤ len) (hl : len ≤ 140737488355328) (hR : RunesAt w g len R) :
    Calls Tryd.prog 76 #[.slice (some ⟨g, 0, none⟩) len cap, .int .i64 fr, .int .i64 to] w fun e w' => e = .returned (.int .i64 (cellsR R fr to)) ∧ w' = w := by
  have c0 := hR fr (by omega)
  have H0 := hideC (fun w => letter_any (R fr) w)
  have H1 := hideC (fun w => letter_any (R (fr + 1)) w)
  have HQ := hideC (fun w => refWidth_any (R fr) w)
  have HRR := hideC hR
  clear hR
  generalize hv : cellsR R fr to = v
  have HV := hideC hv
  clear hv
  have fin : ∀ b, cellsR R fr to = b → v = b := fun b e => HV.out.symm.trans e
  have HN := hideC fin
  clear fin HV
  by_cases h1 : 1 < to - fr
  · have c1 := HRR.out (fr + 1) (by omega)
    have h1' : (1 : Int) < (to : Int) - fr := by omega
    cases ha : flagB (R fr)
    · rw [ha] at H0
      by_cases s1 : R fr < 8592
      · have hs : symB (R fr) = false := by simp [symB]; omega
        have hv := HN.out (widthI (R fr)) (by simp [cellsR, ha, hs])
        subst hv
        clear HN
        go_enter Tryd.func76, Tryd.ntmps76
        go_wp2_with fail
        refine (H0.out _).mono ?_
        rintro e w1 ⟨rfl, rfl⟩
        go_wp2_with fail
        refine (HQ.out _).mono ?_
        rintro e w8 ⟨rfl, rfl⟩
        go_wp2
        go_ret
        exact ⟨rfl, rfl⟩
      · by_cases s2 : 11263 < R fr
        · have hs : symB (R fr) = false := by simp [symB]; omega
          have hv := HN.out (widthI (R fr)) (by simp [cellsR, ha, hs])
          subst hv
          clear HN
          go_enter Tryd.func76, Tryd.ntmps76
          go_wp2_with fail
          refine (H0.out _).mono ?_
          rintro e w1 ⟨rfl, rfl⟩
          go_wp2_with fail
          refine (HQ.out _).mono ?_
          rintro e w8 ⟨rfl, rfl⟩
          go_wp2
          go_ret
          exact ⟨rfl, rfl⟩
        · have hs : symB (R fr) = true := by simp [symB]; omega
          go_enter Tryd.func76, Tryd.ntmps76
          go_wp2_with fail
          refine (H0.out _).mono ?_
          rintro e w1 ⟨rfl, rfl⟩
          go_wp2
          go_loopw [7] (fun i wq => ∃ m : Nat, i = .int .i64 (fr + 1 + m : Nat) ∧ fr + 1 + m ≤ to ∧ Hid (asksB R fr m = false) ∧ wq = w1) (fun i _ => to - (intOf i).toNat)
          case atStart => exact ⟨0, by simp, by omega, rfl, rfl⟩
          case round =>
            obtain ⟨m, rfl, hm, hno, rfl⟩ := hrel
            by_cases hmt : fr + 1 + m < to
            · have cm := HRR.out (fr + 1 + m) (by omega)
              cases hj : (R (fr + 1 + m) == 65039)
              · have hno2 : Hid (asksB R fr (m + 1) = false) := by show asksB R fr (m + 1) = false; simp [asksB, hno.out, hj]
                go_wp2
                go_roundw
                case rel => exact ⟨m + 1, by go_num, by omega, hno2, by first | rfl | trivial⟩
                case measure => first | omega | (simp [intOf]; omega) | (simp [intOf]; done)
              · have hy : asksB R fr (to - fr - 1) = true := asksB_step R fr (m + 1) _ (by omega) (by simp [asksB, hj])
                have hv := HN.out 2 (by simp [cellsR, ha, hs, hy])
                subst hv
                go_wp2
                go_ret
                exact ⟨rfl, rfl⟩
            · have hy : asksB R fr (to - fr - 1) = false := by rw [show to - fr - 1 = m by omega]; exact hno.out
              have hv := HN.out (widthI (R fr)) (by simp [cellsR, ha, hs, hy])
              subst hv
              go_wp2_with fail
              refine (HQ.out _).mono ?_
              rintro e w8 ⟨rfl, rfl⟩
              go_wp2
              go_ret
              exact ⟨rfl, rfl⟩
    · rw [ha] at H0
      have s2 : 11263 < R fr := by unfold flagB at ha; simp at ha; omega
      have hs : symB (R fr) = false := by simp [symB]; omega
      cases hb : flagB (R (fr + 1))
      · rw [hb] at H1
        have hv := HN.out (widthI (R fr)) (by simp [cellsR, ha, hb, hs])
        subst hv
        clear HN
        go_enter Tryd.func76, Tryd.ntmps76
        go_wp2_with fail
        refine (H0.out _).mono ?_
        rintro e w1 ⟨rfl, rfl⟩
        go_wp2_with fail
        refine (H1.out _).mono ?_
        rintro e w2 ⟨rfl, rfl⟩
        go_wp2_with fail
        refine (HQ.out _).mono ?_
        rintro e w8 ⟨rfl, rfl⟩
        go_wp2
        go_ret
        exact ⟨rfl, rfl⟩
      · rw [hb] at H1
        have hv := HN.out 2 (by simp [cellsR, ha, hb, h1])
        subst hv
        clear HN
        go_enter Tryd.func76, Tryd.ntmps76
        go_wp2_with fail
        refine (H0.out _).mono ?_
        rintro e w1 ⟨rfl, rfl⟩
        go_wp2_with fail
        refine (H1.out _).mono ?_
        rintro e w2 ⟨rfl, rfl⟩
        go_wp2
        go_ret
        exact ⟨rfl, rfl⟩
  · have h1' : ¬ (1 : Int) < (to : Int) - fr := by omega
    by_cases s1 : R fr < 8592
    · have hs : symB (R fr) = false := by simp [symB]; omega
      have hv := HN.out (widthI (R fr)) (by simp [cellsR, h1, hs])
      subst hv
      clear HN
      go_enter Tryd.func76, Tryd.ntmps76
      go_wp2_with fail
      refine (HQ.out _).mono ?_
      rintro e w8 ⟨rfl, rfl⟩
      go_wp2
      go_ret
      exact ⟨rfl, rfl⟩
    · by_cases s2 : 11263 < R fr
      · have hs : symB (R fr) = false := by simp [symB]; omega
        have hv := HN.out (widthI (R fr)) (by simp [cellsR, h1, hs])
        subst hv
        clear HN
        go_enter Tryd.func76, Tryd.ntmps76
        go_wp2_with fail
        refine (HQ.out _).mono ?_
        rintro e w8 ⟨rfl, rfl⟩
        go_wp2
        go_ret
        exact ⟨rfl, rfl⟩
      · have hs : symB (R fr) = true := by simp [symB]; omega
        go_enter Tryd.func76, Tryd.ntmps76
        go_wp2
        go_loopw [7] (fun i wq => ∃ m : Nat, i = .int .i64 (fr + 1 + m : Nat) ∧ fr + 1 + m ≤ to ∧ Hid (asksB R fr m = false) ∧ wq = w) (fun i _ => to - (intOf i).toNat)
        case atStart => exact ⟨0, by simp, by omega, rfl, rfl⟩
        case round =>
          obtain ⟨m, rfl, hm, hno, rfl⟩ := hrel
          by_cases hmt : fr + 1 + m < to
          · omega
          · have hy : asksB R fr (to - fr - 1) = false := by rw [show to - fr - 1 = m by omega]; exact hno.out
            have hv := HN.out (widthI (R fr)) (by simp [cellsR, h1, hs, hy])
            subst hv
            go_wp2_with fail
            refine (HQ.out _).mono ?_
            rintro e w8 ⟨rfl, rfl⟩
            go_wp2
            go_ret
            exact ⟨rfl, rfl⟩

end Go.Proofs.YteignefcijmmeaaDoor
