/- The contract of the document's own Cut (surtitleref2). -/
import Derived.Test.YtgjkholmoamblaaDoorRefOf
import Derived.Test.YtgjkholmoamblaaDoorCellC
namespace Go.Proofs.YtgjkholmoamblaaDoor
open Go.RowKit

set_option maxRecDepth 100000 in
set_option maxHeartbeats 4000000 in
theorem refCut_any (s : ByteArray) (hs : s.size ≤ 1048576) (cells : Int) (h1 : 0 ≤ cells) (h2 : cells ≤ 9223372036854775807) (w : World) :
    Calls Tryd.prog 21 #[.string s, .int .i64 cells] w fun e w' => e = .returned (.tuple #[.int .i64 (cutI s cells), .int .i64 0]) ∧ Below w.heap.size w w' := by
  have HR := hideC (refClusters_any s hs)
  rw [rcl_clusters] at HR
  have hle := clusters_le s
  have hge0 : ¬ (cells < 0) := by omega
  go_enter Tryd.func21, Tryd.ntmps21
  go_wp2_with fail
  refine (HR.out _).mono ?_
  rintro e w1 ⟨v, rfl, hrow, hb1⟩
  have hL := listR_of hrow
  clear hrow
  by_cases hn : clusters s = []
  · rw [hn] at hL
    obtain ⟨bb, cc, rfl⟩ := hL.nil
    have hof : cutI s cells = 0 := by unfold cutI; rw [hn]; rfl
    clear hL
    go_wp2
    go_loopw [1, 6, 8] (fun c a i wr => c = .int .i64 cells ∧ a = .int .i64 0 ∧ i = .int .i64 0 ∧ w1 = wr) (fun _ _ _ _ => 0)
    case atStart => exact ⟨rfl, by first | rfl | go_num, by first | rfl | go_num, rfl⟩
    case round =>
      obtain ⟨rfl, rfl, rfl, rfl⟩ := hrel
      go_wp2
      exact bodyPost_ret (v := .tuple #[.int .i64 0, .int .i64 0]) (by simp [results, Tryd.results21, go_sem]) rfl ⟨by first | rfl | rw [hof], hb1⟩
  · rcases hL with ⟨_, h⟩ | ⟨g, cap, rfl, hg, hl, hcap, hcells⟩
    · exact absurd h hn
    · go_wp2
      go_loopw [1, 6, 8] (fun c a i wr => ∃ pre r, Hid (pre ++ r = clusters s) ∧ Hid (cutP cells 0 (clusters s) = pre ++ cutP cells (cellsOf pre) r) ∧ cellsOf pre ≤ cells ∧ i = .int .i64 (pre.length : Nat) ∧ c = .int .i64 (cells - cellsOf pre) ∧ a = .int .i64 (lensOf pre) ∧ Below w1.heap.size w1 wr) (fun _ _ i _ => (clusters s).length - (intOf i).toNat)
      case atStart => exact ⟨[], clusters s, rfl, rfl, h1, by first | rfl | go_num, by simp [cellsOf], by first | rfl | go_num, Below.refl _ _⟩
      case round =>
        obtain ⟨pre, r, HP, HC, hcl, rfl, rfl, rfl, hb⟩ := hrel
        have hlen : pre.length + r.length = (clusters s).length := by rw [← HP.out]; simp
        have hb1r := hb1.trans (hb.mono hb1.size)
        obtain ⟨m1, m2, _, _⟩ := lens_le HP.out
        cases r with
        | nil =>
          have hof : cutI s cells = lensOf pre := by unfold cutI; rw [HC.out]; simp [cutP]
          simp at hlen
          clear hcells HP HC
          go_wp2
          exact bodyPost_ret (v := .tuple #[.int .i64 (lensOf pre), .int .i64 0]) (by simp [results, Tryd.results21, go_sem]) rfl ⟨by first | rfl | rw [hof], hb1r⟩
        | cons x r =>
          have hk : pre.length < (clusters s).length := by simp at hlen; omega
          have hge : (clusters s)[pre.length]? = some x := by rw [← HP.out]; simp
          obtain ⟨c0, c1, _, _, c4⟩ := hcells _ _ hge
          obtain ⟨d1, d2, _, _, _, _, _, _⟩ := chain_at HP.out
          obtain ⟨⟨p1, p2⟩, p3, p4⟩ := front_bd (s := s) (pre := pre) (x := x) ⟨r, by simpa using HP.out⟩
          obtain ⟨l1, l2, _, _⟩ := lens_le (s := s) (pre := pre ++ [x]) (r := r) (by simpa using HP.out)
          rw [lensOf_snoc] at l1 l2
          rw [d1] at c0
          have e0 := (hb.cell (p := ⟨g, pre.length * 5, none⟩) hg).trans c0
          have e1 := (hb.cell (p := ⟨g, pre.length * 5 + 1, none⟩) hg).trans c1
          have e4 := (hb.cell (p := ⟨g, pre.length * 5 + 4, none⟩) hg).trans c4
          have i1 : (0 : Int) ≤ (pre.length : Int) := by omega
          have i2 : (pre.length : Int) < ((clusters s).length : Int) := by omega
          clear hcells hge c0 c1 c4
          by_cases hc : x.cells ≤ cells - cellsOf pre
          · have HC2 : Hid (cutP cells 0 (clusters s) = (pre ++ [x]) ++ cutP cells (cellsOf (pre ++ [x])) r) := by
              have := HC.out
              rw [cutP, if_neg (by omega)] at this
              rw [cellsOf_snoc, List.append_assoc]
              exact this
            clear HC
            go_wp2
            go_region
            all_goals go_wp2
            all_goals go_roundw
            case rel => exact ⟨pre ++ [x], r, hideC (by simpa using HP.out), HC2, by rw [cellsOf_snoc]; omega, by simp, by rw [cellsOf_snoc]; congr 1; omega, by rw [lensOf_snoc], by first | exact hb | exact hb.drew⟩
            case measure => simp [intOf]; omega
          · have hof : cutI s cells = lensOf pre := by
              unfold cutI
              rw [HC.out, cutP, if_pos (by omega), List.append_nil]
            clear HC HP
            go_wp2
            exact bodyPost_ret (v := .tuple #[.int .i64 (lensOf pre), .int .i64 0]) (by simp [results, Tryd.results21, go_sem]) rfl ⟨by first | rfl | rw [hof], hb1r⟩

end Go.Proofs.YtgjkholmoamblaaDoor
