/- The walk of surtitlelaw2.CellLongest. -/
import Derived.Test.YtfmofjjcgjogjabDoorCellM5
import Derived.Test.YtfmofjjcgjogjabDoorCellC
import Derived.Test.YtfmofjjcgjogjabDoorCellL
import Derived.Deep.QuietTactic
import Derived.BigQuiet
import Derived.Deep.RegionHeld
namespace Go.Proofs.YtfmofjjcgjogjabDoor
open Go.RowKit

theorem cut_le (cells : Int) : ∀ (l : List Cl) (sum : Int), sum ≤ cells → sum + cellsOf (cutP cells sum l) ≤ cells
  | [], sum, h => by simp [cutP, cellsOf]; omega
  | c :: r, sum, h => by
    unfold cutP
    split
    · simp [cellsOf]; omega
    · have := cut_le cells r (sum + c.cells) (by omega)
      simp only [cellsOf, List.foldr_cons] at *
      omega
theorem cut_next (cells : Int) : ∀ (l : List Cl) (sum : Int) (x : Cl) (r : List Cl), cutP cells sum l ++ x :: r = l → cells < sum + cellsOf (cutP cells sum l) + x.cells
  | [], sum, x, r, h => by simp at h
  | c :: t, sum, x, r, h => by
    unfold cutP at h ⊢
    split at h
    · rename_i hc
      simp only [List.nil_append, List.cons.injEq] at h
      rw [if_pos hc, h.1]
      simp only [cellsOf, List.foldr_nil]
      omega
    · rename_i hc
      simp only [List.cons_append, List.cons.injEq] at h
      have := cut_next cells t (sum + c.cells) x r h.2
      rw [if_neg hc]
      simp only [cellsOf, List.foldr_cons] at *
      omega
theorem cut_join (s : ByteArray) (E : Nat) (_hE : E ≤ s.size) : s.extract 0 E ++ s.extract E s.size = s := by
  apply ByteArray.ext
  apply Array.toList_inj.1
  rw [ByteArray.data_append, Array.toList_append, Lib.extract_data, Lib.extract_data, List.drop_zero, Nat.sub_zero]
  have : List.take (s.size - E) (List.drop E s.data.toList) = List.drop E s.data.toList := List.take_of_length_le (by rw [List.length_drop, ← Lib.size_eq]; exact Nat.le_refl _)
  rw [this, List.take_append_drop]

set_option maxRecDepth 100000 in
set_option maxHeartbeats 4000000 in
theorem longest_any (s : ByteArray) (hs : s.size ≤ 1048576) (cells : Int) (_h1 : -9223372036854775808 ≤ cells) (_h2 : cells ≤ 9223372036854775807) (N : Nat) (w : World) (hT : Tabs N w) :
    Calls Tryd.prog 7 #[.string s, .int .i64 cells] w fun e w' => e = .returned (.bool true) ∧ Below w.heap.size w w' := by
  have HC := hideC (fun w h => cut_any s (by omega) cells N w h)
  by_cases hneg : cells < 0
  · rw [show cutR s cells = .tuple #[.string ⟨#[]⟩, .string ⟨#[]⟩, .int .i64 1] from if_pos hneg] at HC
    go_enter Tryd.func7, Tryd.ntmps7
    go_wp2_with fail
    refine (known_any N _ hT).mono ?_
    rintro e w1 ⟨rfl, hb1⟩
    go_wp2_with fail
    refine (HC.out _ (hT.below hb1)).mono ?_
    rintro e w2 ⟨rfl, hb2⟩
    go_wp2
    go_ret
    exact ⟨rfl, hb1.trans (hb2.mono hb1.size)⟩
  · obtain ⟨r, hr⟩ := cutP_pre cells (clusters s) 0
    have hbd := cutI_bd s cells
    obtain ⟨E, hEq⟩ : ∃ E : Nat, cutI s cells = E := ⟨(cutI s cells).toNat, by omega⟩
    rw [show cutR s cells = .tuple #[.string (s.extract 0 E), .string (s.extract E s.size), .int .i64 0] from by unfold cutR; rw [if_neg hneg, hEq]; rfl] at HC
    have hEs : E ≤ s.size := by omega
    obtain ⟨hf, hre⟩ := parts s _ r E hr hEq
    have oa : ofI (s.extract 0 E) = cellsOf (cutP cells 0 (clusters s)) := by unfold ofI; rw [hf]
    have ob : ofI (s.extract E s.size) = cellsOf r := by unfold ofI; rw [hre, cellsOf_back]
    have os : ofI s = cellsOf (cutP cells 0 (clusters s)) + cellsOf r := by unfold ofI; rw [← cellsOf_append, hr]
    have hle := cut_le cells (clusters s) 0 (by omega)
    have hza : (s.extract 0 E).size ≤ 1048576 := by rw [ByteArray.size_extract]; omega
    have hzb : (s.extract E s.size).size ≤ 1048576 := by rw [ByteArray.size_extract]; omega
    have bs := ofI_bd s
    have ba := ofI_bd (s.extract 0 E)
    have bb := ofI_bd (s.extract E s.size)
    have HA := hideC (fun w h => of_any (s.extract 0 E) (by omega) N w h)
    have HB := hideC (fun w h => of_any (s.extract E s.size) (by omega) N w h)
    have HS := hideC (fun w h => of_any s (by omega) N w h)
    have HJ := hideC (cut_join s E hEs)
    have HL := hideC (fun w h => allC_any (s.extract E s.size) hzb (s.extract E s.size).size (by have := clusters_le (s.extract E s.size); omega) N w h)
    rw [oa] at HA ba
    rw [ob] at HB bb
    rw [os] at HS bs
    rw [hre] at HL
    have hnx := hideC (fun x t => cut_next cells (clusters s) 0 x t)
    have hrr := hideC hr
    have HRE := hideC hre
    generalize cutP cells 0 (clusters s) = pre at *
    clear hf hre oa ob os hEq hbd hr
    generalize hA : s.extract 0 E = A at *
    generalize hB : s.extract E s.size = B at *
    go_enter Tryd.func7, Tryd.ntmps7
    go_wp2_with fail
    refine (known_any N _ hT).mono ?_
    rintro e w1 ⟨rfl, hb1⟩
    go_wp2_with fail
    refine (HC.out _ (hT.below hb1)).mono ?_
    rintro e w2 ⟨rfl, hb2⟩
    have hb12 := hb1.trans (hb2.mono hb1.size)
    have hjn : ((A ++ B).toList == s.toList) = true := by rw [HJ.out]; simp
    have hT2 := hT.below hb12
    go_wp2_with fail
    refine (HA.out _ hT2).mono ?_
    rintro e w3 ⟨rfl, hb3⟩
    have hb13 := hb12.trans (hb3.mono hb12.size)
    go_wp2_with fail
    refine (HA.out _ (hT.below hb13)).mono ?_
    rintro e w4 ⟨rfl, hb4⟩
    have hb14 := hb13.trans (hb4.mono hb13.size)
    go_wp2_with fail
    refine (HB.out _ (hT.below hb14)).mono ?_
    rintro e w5 ⟨rfl, hb5⟩
    have hb15 := hb14.trans (hb5.mono hb14.size)
    go_wp2_with fail
    refine (HS.out _ (hT.below hb15)).mono ?_
    rintro e w6 ⟨rfl, hb6⟩
    have hb16 := hb15.trans (hb6.mono hb15.size)
    clear hb12 hb13 hb14 hb15 hb3 hb4 hb5 hb6 hT2
    by_cases hz : B.size = 0
    · have hie : B.toList.isEmpty = true := by
        rw [List.isEmpty_iff_length_eq_zero, Lib.toList_data, ← Lib.size_eq]
        exact hz
      go_wp2
      go_ret
      exact ⟨rfl, hb16⟩
    · have hie : B.toList.isEmpty = false := by
        rw [List.isEmpty_eq_false_iff]
        intro e
        exact hz (by rw [Lib.size_eq, ← Lib.toList_data, e]; rfl)
      cases r with
      | nil =>
        have h1 := (clusters_chain B).2.1
        rw [HRE.out] at h1
        simp [lensOf] at h1
        omega
      | cons x r' =>
        have hmax := hnx.out x r' hrr.out
        have hxb := clusters_cells s x (by rw [← hrr.out]; simp)
        clear HRE hrr hnx
        go_wp2_with fail
        refine (HL.out _ (hT.below hb16)).mono ?_
        rintro e w7 ⟨v, rfl, hrow, hb7⟩
        have hb17 := hb16.trans (hb7.mono hb16.size)
        have hL := listC_of hrow
        clear hrow
        rcases hL with ⟨_, hnil⟩ | ⟨g, cap, rfl, hg, hl, hcap, hcells⟩
        · simp at hnil
        · obtain ⟨c0, c1, c2, c3, c4⟩ := hcells 0 (x.back E (lastTo pre 0)) rfl
          simp only [Nat.zero_mul, Nat.zero_add] at c0 c1 c2 c3 c4
          have c4' : w7.cell? ⟨g, 4, none⟩ = some (.int .i64 x.cells) := c4
          clear c0 c1 c2 c3 c4 hcells
          have hlen : 0 < (List.map (Cl.back E (lastTo pre 0)) (x :: r')).length := by simp
          generalize (List.map (Cl.back E (lastTo pre 0)) (x :: r')).length = L at *
          have tg : decide ((0 : Int) < (L : Int)) = true := decide_eq_true (by omega)
          have hc7 : g < w7.heap.size := hg
          clear HL hl hcap
          go_wp2_with fail
          go_region_held (fun w' => w'.cell? ⟨g, 4, none⟩ = some (.int .i64 x.cells)) (first | go_keep | assumption) (first | (go_at_call 12; refine (HA.out _ (hT.below hb17.drew)).mono ?_; rintro e w8 ⟨rfl, hb8⟩; have c8 : w8.cell? ⟨g, 4, none⟩ = some (.int .i64 x.cells) := (World.cell?_of_block (hb8.block g hc7)).trans c4'))
          go_wp2
          go_ret
          refine ⟨?_, hb17.drew.trans (hb8.mono hb17.size)⟩
          show Ending.returned (Value.bool (decide (cells < IntKind.i64.wrap (cellsOf pre + x.cells)))) = _
          rw [IntWalk.i64_in _ ⟨by omega, by omega⟩, decide_eq_true (by omega)]

end Go.Proofs.YtfmofjjcgjogjabDoor
