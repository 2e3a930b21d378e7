/- The walk of surtitlelaw2.CellSteps. -/
import Derived.Test.YtfmofjjcgjogjabDoorCellQ
import Derived.Test.YtfmofjjcgjogjabDoorCellM4
namespace Go.Proofs.YtfmofjjcgjogjabDoor
open Go.RowKit

/-- The column that the loop saw last. -/
def lastI (s : ByteArray) (k : Nat) : Int := if k = 0 then 0 else colI s ((k : Int) - 1)
theorem lastI_le (s : ByteArray) (k : Nat) (h : k ≤ cnt s) : lastI s k ≤ colI s k := by
  unfold lastI
  split
  · exact (column_in s k (by omega) (by omega)).2.1
  · exact column_mono s _ _ (by omega) (by omega) (by omega)
theorem lastI_succ (s : ByteArray) (k : Nat) : lastI s (k + 1) = colI s k := by
  unfold lastI
  rw [if_neg (by omega)]
  congr 1
  omega

set_option maxRecDepth 100000 in
set_option maxHeartbeats 4000000 in
theorem steps_any (s : ByteArray) (hs : s.size ≤ 140737488355328) (N : Nat) (w : World) (hT : Tabs N w) : Calls Tryd.prog 8 #[.string s] w fun e w' => e = .returned (.bool true) ∧ Below w.heap.size w w' := by
  go_enter Tryd.func8, Tryd.ntmps8
  go_wp2_with fail
  refine (known_any N _ hT).mono ?_
  rintro e w1 ⟨rfl, hb1⟩
  go_wp2
  go_loopw [3] (fun n wq => ∃ pos b acc : Nat, n = .int .i64 acc ∧ wq.heap[w1.heap.size]? = some (.stringIter s pos) ∧ acc + cntF s b pos = cnt s ∧ s.size ≤ pos + b ∧ Below w.heap.size w wq ∧ w1.heap.size < wq.heap.size ∧ acc ≤ pos) (fun _ wq => s.size - wq.iterPos w1.heap.size)
  case atStart =>
    refine ⟨0, s.size, 0, rfl, World.alloc_heap_new w1 _, by simp [cnt], by omega, hb1.alloc hb1.size _, by show w1.heap.size < (w1.alloc _).heap.size; simp, Nat.le_refl _⟩
  case round =>
    obtain ⟨pos, b, acc, rfl, hit, hac, hfu, hbq, hzq, hap⟩ := hrel
    have HA : Hid (acc + cntF s b pos = cnt s) := hac
    clear hac
    by_cases hp : pos < s.size
    · have hnx : ∀ ty, (Instr.next (.pointer (some ⟨w1.heap.size, 0, none⟩)) true ty).run Tryd.prog wr = _ := fun ty => Lib.run_next_any_at wr w1.heap.size s pos ty hit hp
      have hwd := Lib.decode_width_pos s pos hp
      have hit2 := Lib.iterAt_heap wr w1.heap.size s pos (pos + (Utf8.decode s pos).2) hit
      have hib := iterAt_below wr w1.heap.size s (pos + (Utf8.decode s pos).2) w.heap.size (by have := hb1.size; omega)
      go_wp2
      go_roundw
      case rel =>
        cases b with
        | zero => omega
        | succ b =>
          refine ⟨pos + (Utf8.decode s pos).2, b, acc + 1, by go_num, hit2, ?_, by omega, hbq.trans hib, by have := hib.size; omega, by omega⟩
          have := HA.out
          rw [cntF, if_pos hp] at this
          omega
      case measure =>
        rw [iterPos_of hit, iterPos_of hit2]
        omega
    · have hnx : ∀ ty, (Instr.next (.pointer (some ⟨w1.heap.size, 0, none⟩)) true ty).run Tryd.prog wr = _ := fun ty => Lib.run_next_end_at wr w1.heap.size s pos ty hit hp
      have hfin : acc = cnt s := by have := HA.out; rw [cntF_end s b pos hp] at this; omega
      subst hfin
      have hcs : cnt s ≤ s.size := by have := cntF_le s s.size 0; unfold cnt; omega
      clear HA hit hfu
      by_cases hbig : 300 < cnt s
      · go_wp2
        go_ret
        exact ⟨rfl, hbq⟩
      · obtain ⟨wz, rfl⟩ : ∃ wz, wz = wr := ⟨_, rfl⟩
        have hdec : decide (300 < (cnt s : Int)) = false := decide_eq_false (by omega)
        go_wp2
        go_loopw [4, 5] (fun l i wq => ∃ k : Nat, i = .int .i64 k ∧ k ≤ cnt s + 1 ∧ l = .int .i64 (lastI s k) ∧ Below w.heap.size w wq) (fun _ i _ => cnt s + 1 - (intOf i).toNat)
        case atStart => exact ⟨0, rfl, by omega, rfl, hbq⟩
        case round =>
          clear hbq hzq hap hnx hp
          obtain ⟨k, rfl, hk, rfl, hbq⟩ := hrel
          have hTq := hT.below hbq
          by_cases hkc : k ≤ cnt s
          · have HC := hideC (fun w h => column_any s hs k N w h)
            rw [(column_in s k (by omega) (by omega)).1] at HC
            simp only [] at HC
            have hmo := lastI_le s k hkc
            have hco := (column_in s k (by omega) (by omega)).2
            have hob := ofI_bd s
            have hsu := hideC (lastI_succ s k)
            go_wp2_with fail
            refine (HC.out _ hTq).mono ?_
            rintro e w5 ⟨rfl, hb5⟩
            go_wp2
            go_roundw
            case rel => exact ⟨k + 1, by go_num, by omega, by rw [hsu.out], hbq.trans (hb5.mono hbq.size)⟩
            case measure => simp [intOf]; omega
          · obtain rfl : k = cnt s + 1 := by omega
            have hlast : lastI s (cnt s + 1) = ofI s := by rw [lastI_succ, column_end]
            rw [hlast]
            have hof := hideC (fun w h => of_any s hs N w h)
            have hob := ofI_bd s
            have hd2 : decide ((cnt s : Int) + 1 ≤ cnt s) = false := decide_eq_false (by omega)
            go_wp2_with fail
            refine (hof.out _ hTq).mono ?_
            rintro e w5 ⟨rfl, hb5⟩
            have hbw5 := hbq.trans (hb5.mono hbq.size)
            go_wp2
            go_loopw [8] (fun c wq => ∃ q : Nat, c = .int .i64 q ∧ (q : Int) ≤ ofI s + 1 ∧ Below w.heap.size w wq) (fun c _ => (ofI s + 1).toNat - (intOf c).toNat)
            case atStart => exact ⟨0, rfl, by omega, hbw5⟩
            case round =>
              clear hbq hTq hb5 hbw5 hlast
              obtain ⟨q, rfl, hq, hbq⟩ := hrel
              have hTq := hT.below hbq
              by_cases hqc : (q : Int) ≤ ofI s
              · obtain ⟨k, hk1, hk2, hk3, hk4, hk5⟩ := sign_in s q (by omega) hqc
                have HS := hideC (fun w h => sign_any s hs q N w h)
                rw [hk1] at HS
                simp only [] at HS
                have hci := column_in s k hk2 hk3
                have HC := hideC (fun w h => column_any s hs k N w h)
                rw [hci.1] at HC
                simp only [] at HC
                obtain ⟨_, hc1, hc2⟩ := hci
                clear hk1
                go_wp2_with fail
                refine (HS.out _ hTq).mono ?_
                rintro e w6 ⟨rfl, hb6⟩
                have hbw6 := hbq.trans (hb6.mono hbq.size)
                go_wp2_with fail
                refine (HC.out _ (hT.below hbw6)).mono ?_
                rintro e w7 ⟨rfl, hb7⟩
                go_wp2
                go_roundw
                case rel => exact ⟨q + 1, by go_num, by omega, hbw6.trans (hb7.mono hbw6.size)⟩
                case measure => simp [intOf]; omega
              · have e : (q : Int) = ofI s + 1 := by omega
                have HC := hideC (fun w h => column_any s hs (cnt s + 1) N w h)
                rw [column_past s] at HC
                have HS := hideC (fun w h => sign_any s hs (ofI s + 1) N w h)
                rw [sign_past s] at HS
                have HC2 := hideC (fun w h => column_any s hs (-1) N w h)
                rw [show columnR s (-1) = (0, 1) from rfl] at HC2
                have HS2 := hideC (fun w h => sign_any s hs (-1) N w h)
                rw [show signR s (-1) = (0, 1) from rfl] at HS2
                simp only [] at HC HS HC2 HS2
                rw [e]
                clear e hq hqc
                go_wp2_with fail
                refine (HC.out _ hTq).mono ?_
                rintro e w6 ⟨rfl, hb6⟩
                have hbw6 := hbq.trans (hb6.mono hbq.size)
                go_wp2_with fail
                refine (HS.out _ (hT.below hbw6)).mono ?_
                rintro e w7 ⟨rfl, hb7⟩
                have hbw7 := hbw6.trans (hb7.mono hbw6.size)
                go_wp2_with fail
                refine (HC2.out _ (hT.below hbw7)).mono ?_
                rintro e w8 ⟨rfl, hb8⟩
                have hbw8 := hbw7.trans (hb8.mono hbw7.size)
                go_wp2_with fail
                refine (HS2.out _ (hT.below hbw8)).mono ?_
                rintro e w9 ⟨rfl, hb9⟩
                have hbw9 := hbw8.trans (hb9.mono hbw8.size)
                go_wp2
                go_ret
                exact ⟨rfl, hbw9⟩

end Go.Proofs.YtfmofjjcgjogjabDoor
