/- The walk of surtitlelaw2.CellCuts. -/
import Derived.Test.YtfmofjjcgjogjaaDoorRefCut
namespace Go.Proofs.YtfmofjjcgjogjaaDoor
open Go.RowKit

set_option maxRecDepth 100000 in
set_option maxHeartbeats 4000000 in
theorem refCut_neg (s : ByteArray) (cells : Int) (h1 : cells < 0) (w : World) :
    Calls Tryd.prog 18 #[.string s, .int .i64 cells] w fun e w' => e = .returned (.tuple #[.int .i64 0, .int .i64 1]) ∧ w' = w := by
  go_enter Tryd.func18, Tryd.ntmps18
  go_wp2
  exact bodyPost_ret (v := .tuple #[.int .i64 0, .int .i64 1]) (by simp [results, Tryd.results18, go_sem]) rfl ⟨rfl, rfl⟩

set_option maxRecDepth 100000 in
set_option maxHeartbeats 4000000 in
theorem lawCuts_any (s : ByteArray) (hs : s.size ≤ 1048576) (cells : Int) (_h1 : -9223372036854775808 ≤ cells) (h2 : cells ≤ 9223372036854775807) (N : Nat) (w : World) (hT : Tabs N w) :
    Calls Tryd.prog 6 #[.string s, .int .i64 cells] w fun e w' => e = .returned (.bool true) ∧ Below w.heap.size w w' := by
  have HC := hideC (fun w h => cut_any s (by omega) cells N w h)
  by_cases hneg : cells < 0
  · rw [show cutR s cells = .tuple #[.string ⟨#[]⟩, .string ⟨#[]⟩, .int .i64 1] from if_pos hneg] at HC
    have HF := hideC (refCut_neg s cells hneg)
    go_enter Tryd.func6, Tryd.ntmps6
    go_wp2_with fail
    refine (known_any N _ hT).mono ?_
    rintro e w1 ⟨rfl, hb1⟩
    go_wp2_with fail
    refine (HC.out _ (hT.below hb1)).mono ?_
    rintro e w2 ⟨rfl, hb2⟩
    go_wp2_with fail
    refine (HF.out _).mono ?_
    rintro e w3 ⟨rfl, hw⟩
    obtain rfl := hw.symm
    go_wp2
    go_ret
    exact ⟨rfl, hb1.trans (hb2.mono hb1.size)⟩
  · have hbd := cutI_bd s cells
    have HF := hideC (refCut_any s hs cells (by omega) h2)
    obtain ⟨E, hEq⟩ : ∃ E : Nat, cutI s cells = E := ⟨(cutI s cells).toNat, by omega⟩
    rw [show cutR s cells = .tuple #[.string (s.extract 0 E), .string (s.extract E s.size), .int .i64 0] from by unfold cutR; rw [if_neg hneg, hEq]; rfl] at HC
    rw [hEq] at HF
    have hEs : E ≤ s.size := by omega
    have i1 : (0 : Int) ≤ (E : Int) := by omega
    have i2 : (E : Int) ≤ (s.size : Int) := by omega
    clear hEq hbd
    go_enter Tryd.func6, Tryd.ntmps6
    go_wp2_with fail
    refine (known_any N _ hT).mono ?_
    rintro e w1 ⟨rfl, hb1⟩
    go_wp2_with fail
    refine (HC.out _ (hT.below hb1)).mono ?_
    rintro e w2 ⟨rfl, hb2⟩
    have hb12 := hb1.trans (hb2.mono hb1.size)
    go_wp2_with fail
    refine (HF.out _).mono ?_
    rintro e w3 ⟨rfl, hb3⟩
    go_wp2
    go_ret
    exact ⟨rfl, hb12.trans (hb3.mono hb12.size)⟩

end Go.Proofs.YtfmofjjcgjogjaaDoor
