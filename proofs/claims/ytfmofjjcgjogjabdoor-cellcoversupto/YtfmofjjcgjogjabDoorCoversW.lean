/- The walk of surtitlelaw2.CellCovers. -/
import Derived.Test.YtfmofjjcgjogjabDoorCellL
namespace Go.Proofs.YtfmofjjcgjogjabDoor
open Go.RowKit

set_option maxRecDepth 100000 in
set_option maxHeartbeats 4000000 in
theorem covers_any (s : ByteArray) (hs : s.size ≤ 1048576) (N : Nat) (w : World) (hT : Tabs N w) : Calls Tryd.prog 4 #[.string s] w fun e w' => e = .returned (.bool true) ∧ Below w.heap.size w w' := by
  have hle := clusters_le s
  have hdec : decide (s.size < (clusters s).length) = false := decide_eq_false (by omega)
  go_enter Tryd.func4, Tryd.ntmps4
  go_wp2_with fail
  refine (known_any N _ hT).mono ?_
  rintro e w1 ⟨rfl, hb1⟩
  have hT1 := hT.below hb1
  go_wp2_with fail
  refine (allC_any s hs s.size (by omega) N _ hT1).mono ?_
  rintro e w2 ⟨v, rfl, hrow, hb2⟩
  have hb12 := hb1.trans (hb2.mono hb1.size)
  have hL := listC_of hrow
  clear hrow
  rcases hL with ⟨rfl, hnil⟩ | ⟨g, cap, rfl, hg, hl, hcap, hcells⟩
  · obtain rfl : s = ⟨#[]⟩ := by
      have h1 := (clusters_chain s).2.1
      rw [hnil] at h1
      simp [lensOf] at h1
      obtain ⟨a⟩ := s
      have : a = #[] := Array.eq_empty_of_size_eq_zero (by have h2 : (ByteArray.mk a).size = a.size := rfl; omega)
      rw [this]
    have hof := hideC (fun w h => of_any ⟨#[]⟩ (by decide) N w h)
    rw [show ofI ⟨#[]⟩ = 0 from by kernel_rfl] at hof
    clear hle hdec hnil
    go_wp2
    go_loopw [5, 6, 7, 8] (fun a b c i wr => a = .int .i64 0 ∧ b = .int .i64 0 ∧ c = .int .i64 0 ∧ i = .int .i64 0 ∧ wr = w2) (fun _ _ _ _ _ => 0)
    case atStart => exact ⟨rfl, rfl, rfl, rfl, rfl⟩
    case round =>
      obtain ⟨rfl, rfl, rfl, rfl, rfl⟩ := hrel
      obtain ⟨wz, rfl⟩ : ∃ wz, wz = wr := ⟨_, rfl⟩
      have hz12 := hb12.size
      go_wp2
      go_loopw [10] (fun n wq => n = .int .i64 0 ∧ wq = wz.alloc (.stringIter ⟨#[]⟩ 0)) (fun _ _ => 0)
      case atStart => exact ⟨rfl, rfl⟩
      case round =>
        obtain ⟨rfl, rfl⟩ := hrel
        have hit := World.alloc_heap_new wz (.stringIter ⟨#[]⟩ 0)
        have hal := hb12.alloc hz12 (.stringIter ⟨#[]⟩ 0)
        have hnx : ∀ ty, (Instr.next (.pointer (some ⟨wz.heap.size, 0, none⟩)) true ty).run Tryd.prog (wz.alloc (.stringIter ⟨#[]⟩ 0)) = _ := fun ty => Lib.run_next_end_at _ wz.heap.size ⟨#[]⟩ 0 ty hit (by decide)
        have hTq := hT.below hal
        go_wp2_with fail
        refine (hof.out _ hTq).mono ?_
        rintro e w5 ⟨rfl, hb5⟩
        go_wp2
        go_ret
        exact ⟨rfl, hal.trans (hb5.mono hal.size)⟩
  · go_wp2
    go_loopw [5, 6, 7, 8] (fun a b c i wr => ∃ pre r, pre ++ r = clusters s ∧ i = .int .i64 (pre.length : Nat) ∧ a = .int .i64 (lensOf pre) ∧ b = .int .i64 (lastTo pre 0) ∧ c = .int .i64 (cellsOf pre) ∧ Below w2.heap.size w2 wr) (fun _ _ _ i _ => (clusters s).length - (intOf i).toNat)
    case atStart => exact ⟨[], clusters s, rfl, rfl, rfl, rfl, rfl, Below.refl _ _⟩
    case round =>
      obtain ⟨pre, r, hpr, rfl, rfl, rfl, rfl, hb⟩ := hrel
      have hlen : pre.length + r.length = (clusters s).length := by rw [← hpr]; simp
      have hz := hb.size
      cases r with
      | nil =>
        obtain rfl : pre = clusters s := by simpa using hpr
        clear hcells hlen hpr
        have hbz := hb12.trans (hb.mono (by have := hb12.size; omega))
        have hof := hideC (fun w h => of_any s (by omega) N w h)
        have hcov := clusters_chain s
        obtain ⟨_, hv1, hv2⟩ := hcov
        have hv3 := cells_signs s
        unfold ofI at hof hv3
        obtain ⟨wz, rfl⟩ : ∃ wz, wz = wr := ⟨_, rfl⟩
        go_wp2
        rw [hv1, hv2]
        go_loopw [10] (fun n wq => ∃ pos b acc : Nat, n = .int .i64 acc ∧ wq.heap[wz.heap.size]? = some (.stringIter s pos) ∧ acc + cntF s b pos = cnt s ∧ s.size ≤ pos + b ∧ Below w.heap.size w wq ∧ wz.heap.size < wq.heap.size ∧ acc ≤ pos) (fun _ wq => s.size - wq.iterPos wz.heap.size)
        case atStart =>
          refine ⟨0, s.size, 0, rfl, World.alloc_heap_new wz _, by simp [cnt], by omega, hbz.alloc hbz.size _, by show wz.heap.size < (wz.alloc _).heap.size; simp, Nat.le_refl _⟩
        case round =>
          obtain ⟨pos, b, acc, rfl, hit, hac, hfu, hbq, hzq, hap⟩ := hrel
          have HA : Hid (acc + cntF s b pos = cnt s) := hac
          clear hac
          by_cases hp : pos < s.size
          · have hnx : ∀ ty, (Instr.next (.pointer (some ⟨wz.heap.size, 0, none⟩)) true ty).run Tryd.prog wr = _ := fun ty => Lib.run_next_any_at wr wz.heap.size s pos ty hit hp
            have hwd := Lib.decode_width_pos s pos hp
            have hit2 := Lib.iterAt_heap wr wz.heap.size s pos (pos + (Utf8.decode s pos).2) hit
            have hib := iterAt_below wr wz.heap.size s (pos + (Utf8.decode s pos).2) w.heap.size (by have := hbz.size; omega)
            go_wp2
            go_roundw
            case rel =>
              cases b with
              | zero => omega
              | succ b =>
                refine ⟨pos + (Utf8.decode s pos).2, b, acc + 1, by go_num, hit2, ?_, by omega, hbq.trans hib, by have := hib.size; omega, by omega⟩
                have := HA.out
                rw [cntF, if_pos hp] at this
                omega
            case measure =>
              rw [iterPos_of hit, iterPos_of hit2]
              omega
          · have hnx : ∀ ty, (Instr.next (.pointer (some ⟨wz.heap.size, 0, none⟩)) true ty).run Tryd.prog wr = _ := fun ty => Lib.run_next_end_at wr wz.heap.size s pos ty hit hp
            have hfin : acc = cnt s := by have := HA.out; rw [cntF_end s b pos hp] at this; omega
            subst hfin
            have hcs : cnt s ≤ s.size := by have := cntF_le s s.size 0; unfold cnt; omega
            have hTq := hT.below hbq
            clear HA hit hfu
            go_wp2_with fail
            refine (hof.out _ hTq).mono ?_
            rintro e w5 ⟨rfl, hb5⟩
            go_wp2
            go_ret
            exact ⟨rfl, hbq.trans (hb5.mono hbq.size)⟩
      | cons x r =>
        have hk : pre.length < (clusters s).length := by simp at hlen; omega
        have hge : (clusters s)[pre.length]? = some x := by rw [← hpr]; simp
        obtain ⟨c0, c1, c2, c3, c4⟩ := hcells _ _ hge
        obtain ⟨d1, d2, d3, d4, d5, d6, d7, d8⟩ := chain_at hpr
        obtain ⟨l1, l2, l3, l4⟩ := lens_le (s := s) (pre := pre ++ [x]) (r := r) (by simpa using hpr)
        obtain ⟨m1, m2, m3, m4⟩ := lens_le hpr
        rw [lensOf_snoc, lastTo_snoc] at *
        rw [d1] at c0
        rw [d3] at c2 d4 d7 d8
        have e0 := (hb.cell (p := ⟨g, pre.length * 5, none⟩) hg).trans c0
        have e1 := (hb.cell (p := ⟨g, pre.length * 5 + 1, none⟩) hg).trans c1
        have e2 := (hb.cell (p := ⟨g, pre.length * 5 + 2, none⟩) hg).trans c2
        have e3 := (hb.cell (p := ⟨g, pre.length * 5 + 3, none⟩) hg).trans c3
        have e4 := (hb.cell (p := ⟨g, pre.length * 5 + 4, none⟩) hg).trans c4
        clear c0 c1 c2 c3 c4 hcells
        have hcnt : cnt s ≤ s.size := by have := cntF_le s s.size 0; unfold cnt; omega
        obtain ⟨⟨p1, p2⟩, p3, p4⟩ := front_bd (s := s) (pre := pre) (x := x) ⟨r, by simpa using hpr⟩
        have hnx : (pre ++ [x]) ++ r = clusters s := by simpa using hpr
        have HP := hideC hnx
        clear hpr hnx
        go_wp2
        go_roundw
        case rel => exact ⟨pre ++ [x], r, HP.out, by simp, by rw [lensOf_snoc], by rw [lastTo_snoc], by rw [cellsOf_snoc], hb.alloc hz _⟩
        case measure => simp [intOf]; omega

end Go.Proofs.YtfmofjjcgjogjabDoor
