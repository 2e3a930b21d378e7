/- The reference of chapter 11: Count, right, Wants. -/
import Derived.Test.YtiebmglbnlhdpaaGreatDoorGD
import Derived.Test.YtiebmglbnlhdpaaGreatDoorRefW
import Derived.Test.YtiebmglbnlhdpaaGreatDoorRefA9
import Derived.Test.YtiebmglbnlhdpaaGreatDoorGR
namespace Go.Proofs.YtiebmglbnlhdpaaGreatDoor
open Go.RowKit Go.Shelf

set_option maxRecDepth 100000 in
set_option maxHeartbeats 1000000 in
theorem rcount11_any (s : ByteArray) (hs : s.size ≤ 140737488355328) (v : Value) (w : World) : Calls Tryz.prog 16 #[.agg #[.string s, v]] w fun e w' => e = .returned (.int .i64 (readN (signs s))) ∧ Below w.heap.size w w' := by
  go_enter Tryz.func16, Tryz.ntmps16
  go_wp2
  generalize hV : w.alloc (.cells #[.string s, v] 41) = V at *
  have hVb : Below w.heap.size w V := by rw [← hV]; exact bel1 _ _
  have HV := hideC hVb
  have HZ := hideC (show V.heap.size = w.heap.size + 1 by rw [← hV]; simp)
  clear hV hVb
  go_loopw [3, 5] (fun n _ w' => ∃ (pos b : Nat) (pre : List Sg), w' = V.iter s pos ∧ n = .int .i64 (readN pre) ∧ pre ++ sgns s b pos = signs s ∧ s.size ≤ pos + b ∧ pre.length ≤ pos) (fun _ _ w' => s.size - w'.iterPos V.heap.size)
  case atStart => exact ⟨0, s.size, [], rfl, rfl, rfl, by omega, by simp⟩
  case round =>
    obtain ⟨pos, b, pre, rfl, rfl, hc, hb, ha⟩ := hrel
    have HA := hideC ha
    have hrl := readN_le pre
    have HC := hideC hc
    clear hc
    by_cases hp : pos < s.size
    · have hnx := fun ty => run_next_any (P := Tryz.prog) V s pos ty hp
      rw [HZ.out] at hnx
      have hwd := Lib.decode_width_pos s pos hp
      have hsn := readN_snoc pre (sgn s pos)
      have hru : (sgn s pos).rune = ((Utf8.decode s pos).1 : Nat) := (sgn_dec s pos hp).2.2.1
      rw [hru] at hsn
      have HS := hideC hsn
      clear hsn hru
      obtain ⟨k, hk⟩ : ∃ k, readN pre = k := ⟨_, rfl⟩
      obtain ⟨k2, hk2⟩ : ∃ k, readN (pre ++ [sgn s pos]) = k := ⟨_, rfl⟩
      obtain ⟨r, hr⟩ : ∃ r : Int, (((Utf8.decode s pos).1 : Nat) : Int) = r := ⟨_, rfl⟩
      obtain ⟨ps, hps⟩ : ∃ ps, pos + (Utf8.decode s pos).2 = ps := ⟨_, rfl⟩
      rw [hps] at hnx
      rw [hr] at HS hnx
      rw [hk, hk2] at HS
      rw [hk]
      have HK := hideC (And.intro hk2 (And.intro hps hk))
      have hrl' : k ≤ pos := by omega
      have hps' : pos < ps := by omega
      clear hk hk2 hr hps hwd hrl ha
      have HW := hideC (refWidth_any r)
      obtain ⟨wd, hwd⟩ : ∃ wd, widthI r = wd := ⟨_, rfl⟩
      rw [hwd] at HW
      have hq : k2 = k + if readB r then 1 else 0 := HS.out
      clear HS
      by_cases g0 : 0 < wd
      · by_cases g1 : r = 32
        · have : k2 = k := by rw [hq]; simp [readB, blankR, g1]
          subst this
          clear hq
          have HG := hideC g1
          have g1' : (r != 32) = false := by simpa using g1
          clear hwd g1
          have d0 : decide (0 < wd) = true := by simpa using g0
          go_wp2_with (go_at_call 28; refine (HW.out _).mono ?_; rintro e w1 ⟨rfl, rfl⟩)
          go_roundw
          case rel => 
                  have hc := HC.out
                  cases b with
                  | zero => omega
                  | succ b =>
                    rw [sgns, if_pos hp, HK.out.2.1] at hc
                    have hle : (pre ++ [sgn s pos]).length ≤ ps := by have := HA.out; simp; omega
                    exact ⟨ps, b, pre ++ [sgn s pos], rfl, (by rw [HK.out.1]; first | done | rfl | simp), by simpa using hc, by omega, hle⟩
          case measure => simp; omega
        · have g1' : (r != 32) = true := by simpa using g1
          by_cases g2 : r = 160
          · have : k2 = k := by rw [hq]; simp [readB, blankR, g2]
            subst this
            clear hq
            have g2' : (r != 160) = false := by simpa using g2
            clear hwd g1 g2
            have d0 : decide (0 < wd) = true := by simpa using g0
            go_wp2_with (go_at_call 28; refine (HW.out _).mono ?_; rintro e w1 ⟨rfl, rfl⟩)
            go_roundw
            case rel => 
                  have hc := HC.out
                  cases b with
                  | zero => omega
                  | succ b =>
                    rw [sgns, if_pos hp, HK.out.2.1] at hc
                    have hle : (pre ++ [sgn s pos]).length ≤ ps := by have := HA.out; simp; omega
                    exact ⟨ps, b, pre ++ [sgn s pos], rfl, (by rw [HK.out.1]; first | done | rfl | simp), by simpa using hc, by omega, hle⟩
            case measure => simp; omega
          · have g2' : (r != 160) = true := by simpa using g2
            by_cases g3 : r = 12288
            · have : k2 = k := by rw [hq]; simp [readB, blankR, g3]
              subst this
              clear hq
              have g3' : (r != 12288) = false := by simpa using g3
              clear hwd g1 g2 g3
              have d0 : decide (0 < wd) = true := by simpa using g0
              go_wp2_with (go_at_call 28; refine (HW.out _).mono ?_; rintro e w1 ⟨rfl, rfl⟩)
              go_roundw
              case rel => 
                  have hc := HC.out
                  cases b with
                  | zero => omega
                  | succ b =>
                    rw [sgns, if_pos hp, HK.out.2.1] at hc
                    have hle : (pre ++ [sgn s pos]).length ≤ ps := by have := HA.out; simp; omega
                    exact ⟨ps, b, pre ++ [sgn s pos], rfl, (by rw [HK.out.1]; first | done | rfl | simp), by simpa using hc, by omega, hle⟩
              case measure => simp; omega
            · have : k2 = k + 1 := by rw [hq]; simp [readB, blankR, g1, g2, g3, hwd, g0]
              subst this
              clear hq
              have g3' : (r != 12288) = true := by simpa using g3
              clear hwd
              have d0 : decide (0 < wd) = true := by simpa using g0
              have wk : IntKind.i64.wrap ((k : Int) + 1) = ((k + 1 : Nat) : Int) := by rw [show ((k + 1 : Nat) : Int) = (k : Int) + 1 by omega]; exact IntWalk.i64_in _ ⟨by omega, by omega⟩
              go_wp2_with (go_at_call 28; refine (HW.out _).mono ?_; rintro e w1 ⟨rfl, rfl⟩)
              go_roundw
              case rel => 
                  have hc := HC.out
                  cases b with
                  | zero => omega
                  | succ b =>
                    rw [sgns, if_pos hp, HK.out.2.1] at hc
                    have hle : (pre ++ [sgn s pos]).length ≤ ps := by have := HA.out; simp; omega
                    exact ⟨ps, b, pre ++ [sgn s pos], rfl, (by rw [HK.out.1]; first | done | rfl | simp), by simpa using hc, by omega, hle⟩
              case measure => simp; omega
      · have : k2 = k := by rw [hq]; simp [readB, hwd, g0]
        subst this
        clear hq hwd
        have d0 : decide (0 < wd) = false := by simpa using g0
        go_wp2_with (go_at_call 28; refine (HW.out _).mono ?_; rintro e w1 ⟨rfl, rfl⟩)
        go_roundw
        case rel => 
                  have hc := HC.out
                  cases b with
                  | zero => omega
                  | succ b =>
                    rw [sgns, if_pos hp, HK.out.2.1] at hc
                    have hle : (pre ++ [sgn s pos]).length ≤ ps := by have := HA.out; simp; omega
                    exact ⟨ps, b, pre ++ [sgn s pos], rfl, (by rw [HK.out.1]; first | done | rfl | simp), by simpa using hc, by omega, hle⟩
        case measure => simp; omega
    · have hnx := fun ty => run_next_end (P := Tryz.prog) V s pos ty hp
      rw [HZ.out] at hnx
      go_wp2
      go_ret
      have hc := HC.out
      rw [sgns_end s b pos hp, List.append_nil] at hc
      subst hc
      exact ⟨rfl, bup HV.out ((Below.refl _ V).alloc (Nat.le_refl _) _)⟩
end Go.Proofs.YtiebmglbnlhdpaaGreatDoor
