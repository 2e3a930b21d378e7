/- The contract of the document's own front (surtitleref1): a front of an encoding, and not the whole. -/
import Derived.Test.YtofhmecbcmahaaaDoorRefS
import Derived.Test.YtofhmecbcmahaaaDoorMltM
namespace Go.Proofs.YtofhmecbcmahaaaDoor
open Go.RowKit

/-- Bytes that lie from a place of a block on. -/
def BytesFrom (W : World) (g off : Nat) (s : ByteArray) : Prop := ∀ k (h : k < s.size), W.cell? ⟨g, off + k, none⟩ = some (.int .u8 s[k].toNat)
/-- A front of an encoding, and not the whole. -/
def frontR (s : ByteArray) : Bool :=
  if s.size = 0 then false
  else if longN (s.get! 0).toNat ≤ s.size then false
  else if 1 < s.size ∧ secondB (s.get! 0).toNat (s.get! 1).toNat = false then false
  else if 2 < s.size ∧ ((s.get! 2).toNat < 128 ∨ 191 < (s.get! 2).toNat) then false
  else true
theorem tab_no (b : Nat) (h : ¬ (194 ≤ b ∧ b ≤ 244)) : Lib.firstT b % 8 ≤ 1 := by
  unfold Lib.firstT
  repeat' split
  all_goals omega
theorem front_full (s : ByteArray) (h0 : 0 < s.size) : frontR s = !fullB s := by
  have hs0 : ¬ s.size = 0 := by omega
  unfold frontR fullB
  rw [if_neg hs0, if_neg hs0]
  by_cases hl : 194 ≤ (s.get! 0).toNat ∧ (s.get! 0).toNat ≤ 244
  · obtain ⟨t1, t2, t3⟩ := tab_lead _ hl.1 hl.2
    have hsec : secondB (s.get! 0).toNat (s.get! 1).toNat = false ↔ ((s.get! 1).toNat < Lib.accLo (Lib.firstT (s.get! 0).toNat / 16) ∨ Lib.accHi (Lib.firstT (s.get! 0).toNat / 16) < (s.get! 1).toNat) := by
      unfold secondB
      rw [← t2, ← t3]
      simp only [Bool.and_eq_false_iff, decide_eq_false_iff_not]
      omega
    by_cases h1 : longN (s.get! 0).toNat ≤ s.size
    · have h1' : Lib.firstT (s.get! 0).toNat % 8 ≤ s.size := by omega
      rw [if_pos h1, if_pos h1']
      rfl
    · have h1' : ¬ Lib.firstT (s.get! 0).toNat % 8 ≤ s.size := by omega
      rw [if_neg h1, if_neg h1']
      by_cases h2 : 1 < s.size ∧ secondB (s.get! 0).toNat (s.get! 1).toNat = false
      · have h2' : 1 < s.size ∧ ((s.get! 1).toNat < Lib.accLo (Lib.firstT (s.get! 0).toNat / 16) ∨ Lib.accHi (Lib.firstT (s.get! 0).toNat / 16) < (s.get! 1).toNat) := ⟨h2.1, hsec.1 h2.2⟩
        rw [if_pos h2, if_pos h2']
        rfl
      · have h2' : ¬ (1 < s.size ∧ ((s.get! 1).toNat < Lib.accLo (Lib.firstT (s.get! 0).toNat / 16) ∨ Lib.accHi (Lib.firstT (s.get! 0).toNat / 16) < (s.get! 1).toNat)) := fun h3 => h2 ⟨h3.1, hsec.2 h3.2⟩
        rw [if_neg h2, if_neg h2']
        by_cases h3 : 2 < s.size ∧ ((s.get! 2).toNat < 128 ∨ 191 < (s.get! 2).toNat)
        · rw [if_pos h3, if_pos h3]
          rfl
        · rw [if_neg h3, if_neg h3]
          rfl
  · have hn := tab_no _ hl
    have hln : longN (s.get! 0).toNat ≤ 1 := by
      unfold longN
      repeat' split
      all_goals omega
    have h1 : longN (s.get! 0).toNat ≤ s.size := by omega
    have h1' : Lib.firstT (s.get! 0).toNat % 8 ≤ s.size := by omega
    rw [if_pos h1, if_pos h1']
    rfl

set_option maxRecDepth 100000 in
set_option maxHeartbeats 1000000 in
/-- more at an offset: the third byte goes on. -/
theorem more2_any (W : World) (g off cap : Nat) (s : ByteArray) (h3 : 2 < s.size) (_hs : s.size ≤ 140737488355328) (hb : BytesFrom W g off s) :
    Calls Tryd.prog 76 #[.slice (some ⟨g, off, none⟩) s.size cap, .int .i64 2] W fun e w' => e = .returned (.bool (!(decide ((s.get! 2).toNat < 128 ∨ 191 < (s.get! 2).toNat)))) ∧ w' = W := by
  have c2 := hb 2 h3
  rw [show s[2].toNat = (s.get! 2).toNat by rw [get_at s 2 h3]] at c2
  have hi : (2 : Int) < (s.size : Int) := by omega
  generalize (s.get! 2).toNat = d at *
  by_cases h1 : d < 128
  · rw [show (!decide (d < 128 ∨ 191 < d)) = false by simp; omega]
    have t1 : ¬ (128 : Int) ≤ (d : Int) := by omega
    go_enter Tryd.func76, Tryd.ntmps76
    go_wp2
    go_ret
    exact ⟨rfl, rfl⟩
  · by_cases h2 : 191 < d
    · rw [show (!decide (d < 128 ∨ 191 < d)) = false by simp; omega]
      have t1 : (128 : Int) ≤ (d : Int) := by omega
      have t2 : ¬ (d : Int) ≤ 191 := by omega
      go_enter Tryd.func76, Tryd.ntmps76
      go_wp2
      go_ret
      exact ⟨rfl, rfl⟩
    · rw [show (!decide (d < 128 ∨ 191 < d)) = true by simp; omega]
      have t1 : (128 : Int) ≤ (d : Int) := by omega
      have t2 : (d : Int) ≤ 191 := by omega
      go_enter Tryd.func76, Tryd.ntmps76
      go_wp2
      go_ret
      exact ⟨rfl, rfl⟩

set_option maxRecDepth 100000 in
set_option maxHeartbeats 1000000 in
theorem front_any (W : World) (g off cap : Nat) (s : ByteArray) (h0 : 0 < s.size) (hs : s.size ≤ 140737488355328) (hb : BytesFrom W g off s) :
    Calls Tryd.prog 67 #[.slice (some ⟨g, off, none⟩) s.size cap] W fun e w' => e = .returned (.bool (!fullB s)) ∧ ∃ n, w' = W.drewN n := by
  rw [← front_full s h0]
  have hL := hideO (fun W => long_any ((s.get! 0).toNat : Int) W)
  have c0 := hb 0 h0
  rw [show s[0].toNat = (s.get! 0).toNat by rw [get_at s 0 h0], Nat.add_zero] at c0
  have hi0 : (0 : Int) < (s.size : Int) := by omega
  have hz0 : ((s.size : Int) == 0) = false := by rw [beq_eq_false_iff_ne]; omega
  have hn0 : ¬ s.size = 0 := by omega
  have HF := hideO (show frontR s = _ from rfl)
  by_cases h1 : longN (s.get! 0).toNat ≤ s.size
  · have e : frontR s = false := by unfold frontR; rw [if_neg hn0, if_pos h1]
    rw [e]
    have t1 : longN ((s.get! 0).toNat : Int) ≤ (s.size : Int) := h1
    clear e HF hb
    generalize longN ((s.get! 0).toNat : Int) = L at *
    generalize (s.get! 0).toNat = d0 at *
    go_enter Tryd.func67, Tryd.ntmps67
    go_wp2_with fail
    refine (hL.out _).mono ?_
    rintro e w' ⟨rfl, hww⟩
    obtain rfl := hww.symm
    go_wp2
    go_ret
    exact ⟨rfl, 0, rfl⟩
  · have t1 : ¬ longN ((s.get! 0).toNat : Int) ≤ (s.size : Int) := h1
    by_cases hs1 : 1 < s.size
    · have c1 := hb 1 hs1
      rw [show s[1].toNat = (s.get! 1).toNat by rw [get_at s 1 hs1]] at c1
      have hi1 : (1 : Int) < (s.size : Int) := by omega
      have hS := hideO (fun W => second_any ((s.get! 0).toNat : Int) ((s.get! 1).toNat : Int) W)
      by_cases h2 : secondB (s.get! 0).toNat (s.get! 1).toNat = false
      · have e : frontR s = false := by unfold frontR; rw [if_neg hn0, if_neg h1, if_pos ⟨hs1, h2⟩]
        rw [e]
        rw [h2] at hS
        clear e HF hb h2 h1
        generalize longN ((s.get! 0).toNat : Int) = L at *
        generalize (s.get! 0).toNat = d0 at *
        generalize (s.get! 1).toNat = d1 at *
        go_enter Tryd.func67, Tryd.ntmps67
        go_wp2_with fail
        refine (hL.out _).mono ?_
        rintro e w' ⟨rfl, hww⟩
        obtain rfl := hww.symm
        go_wp2_with fail
        go_quiet (first | (go_at_call 74; exact Calls.quiet_of_same (hS.out _)))
        go_wp2
        go_ret
        exact ⟨rfl, _, rfl⟩
      · have h2' : secondB (s.get! 0).toNat (s.get! 1).toNat = true := by cases hq : secondB (s.get! 0).toNat (s.get! 1).toNat <;> simp_all
        by_cases hs2 : 2 < s.size
        · have e : frontR s = !(decide ((s.get! 2).toNat < 128 ∨ 191 < (s.get! 2).toNat)) := by
            unfold frontR
            rw [if_neg hn0, if_neg h1, if_neg (fun h => h2 h.2)]
            by_cases hq : (s.get! 2).toNat < 128 ∨ 191 < (s.get! 2).toNat
            · rw [if_pos ⟨hs2, hq⟩, decide_eq_true hq]; rfl
            · rw [if_neg (fun h => hq h.2), decide_eq_false hq]; rfl
          rw [e]
          have hM := hideO (fun n => more2_any (W.drewN n) g off cap s hs2 hs hb)
          have t2 : ¬ (s.size : Int) < 3 := by omega
          have t2d : decide ((s.size : Int) < 3) = false := decide_eq_false t2
          rw [h2'] at hS
          clear e HF hb h2 h2' h1
          generalize longN ((s.get! 0).toNat : Int) = L at *
          generalize (s.get! 0).toNat = d0 at *
          generalize (s.get! 1).toNat = d1 at *
          generalize (!(decide ((s.get! 2).toNat < 128 ∨ 191 < (s.get! 2).toNat))) = q at *
          go_enter Tryd.func67, Tryd.ntmps67
          go_wp2_with fail
          refine (hL.out _).mono ?_
          rintro e w' ⟨rfl, hww⟩
          obtain rfl := hww.symm
          go_wp2_with fail
          go_quiet (first | (go_at_call 74; exact Calls.quiet_of_same (hS.out _)))
          go_wp2_with fail
          refine (hM.out _).mono ?_
          rintro e w' ⟨rfl, hww⟩
          obtain rfl := hww.symm
          go_wp2
          go_ret
          exact ⟨rfl, _, rfl⟩
        · have e : frontR s = true := by
            unfold frontR
            rw [if_neg hn0, if_neg h1, if_neg (fun h => h2 h.2), if_neg (fun h => hs2 h.1)]
          rw [e]
          have t2 : (s.size : Int) < 3 := by omega
          rw [h2'] at hS
          clear e HF hb h2 h2' h1
          generalize longN ((s.get! 0).toNat : Int) = L at *
          generalize (s.get! 0).toNat = d0 at *
          generalize (s.get! 1).toNat = d1 at *
          go_enter Tryd.func67, Tryd.ntmps67
          go_wp2_with fail
          refine (hL.out _).mono ?_
          rintro e w' ⟨rfl, hww⟩
          obtain rfl := hww.symm
          go_wp2_with fail
          go_quiet (first | (go_at_call 74; exact Calls.quiet_of_same (hS.out _)))
          go_wp2
          go_ret
          exact ⟨rfl, _, rfl⟩
    · have e : frontR s = true := by
        unfold frontR
        rw [if_neg hn0, if_neg h1, if_neg (fun h => hs1 h.1), if_neg (fun h => by omega)]
      rw [e]
      have hi1 : ¬ (1 : Int) < (s.size : Int) := by omega
      have hi1d : decide ((1 : Int) < (s.size : Int)) = false := decide_eq_false hi1
      have hi1n : decide (1 < s.size) = false := decide_eq_false hs1
      have t2 : (s.size : Int) < 3 := by omega
      clear e HF hb h1
      generalize longN ((s.get! 0).toNat : Int) = L at *
      generalize (s.get! 0).toNat = d0 at *
      go_enter Tryd.func67, Tryd.ntmps67
      go_wp2_with fail
      refine (hL.out _).mono ?_
      rintro e w' ⟨rfl, hww⟩
      obtain rfl := hww.symm
      go_wp2_with fail
      go_quiet (fail)
      go_wp2
      go_ret
      exact ⟨rfl, _, rfl⟩
end Go.Proofs.YtofhmecbcmahaaaDoor
