/- The contract of the document's own Sign (surtitleref2). -/
import Derived.Test.YtfmofjjcgjogjaaDoorRefCol
namespace Go.Proofs.YtfmofjjcgjogjaaDoor
open Go.RowKit

set_option maxRecDepth 100000 in
set_option maxHeartbeats 4000000 in
theorem refSign_any (s : ByteArray) (hs : s.size ≤ 1048576) (column : Int) (h1 : -9223372036854775808 ≤ column) (h2 : column ≤ 9223372036854775807) (w : World) :
    Calls Tryd.prog 22 #[.string s, .int .i64 column] w fun e w' => e = .returned (.tuple #[.int .i64 (signR s column).1, .int .i64 (signR s column).2]) ∧ Below w.heap.size w w' := by
  have HR := hideC (refClusters_any s hs)
  rw [rcl_clusters] at HR
  have HF := hideC (refOf_any s hs)
  have hle := clusters_le s
  obtain ⟨R, hRR⟩ : ∃ R, signR s column = R := ⟨_, rfl⟩
  rw [hRR]
  have HQ := hideC hRR
  clear hRR
  obtain ⟨oo, hoo⟩ : ∃ o, ofI s = o := ⟨_, rfl⟩
  rw [hoo] at HF
  have HO := hideC hoo
  clear hoo
  by_cases hneg : column < 0
  · have HQ2 : R = (0, 1) := by rw [← HQ.out, signR, if_pos hneg]
    subst HQ2
    go_enter Tryd.func22, Tryd.ntmps22
    go_wp2_with fail
    refine (HR.out _).mono ?_
    rintro e w1 ⟨v, rfl, hrow, hb1⟩
    clear hrow
    go_wp2
    exact bodyPost_ret (v := .tuple #[.int .i64 0, .int .i64 1]) (by simp [results, Tryd.results22, go_sem]) rfl ⟨rfl, hb1⟩
  · have HQ2 : Hid (sgF column (clusters s) 0 0 = R) := by
      have := HQ.out
      rw [signR, if_neg hneg] at this
      exact this
    clear HQ
    go_enter Tryd.func22, Tryd.ntmps22
    go_wp2_with fail
    refine (HR.out _).mono ?_
    rintro e w1 ⟨v, rfl, hrow, hb1⟩
    have hL := listR_of hrow
    clear hrow
    go_wp2_with fail
    refine (HF.out _).mono ?_
    rintro e w2 ⟨rfl, hb2⟩
    have hb12 := hb1.trans (hb2.mono hb1.size)
    by_cases hbad : oo < column
    · have HQ3 : R = (0, 1) := by
        rw [← HQ2.out]
        exact sg_past column (clusters s) 0 0 0 (clusters_chain s).1 (by have := HO.out; unfold ofI at this; omega)
      subst HQ3
      clear hL
      go_wp2
      exact bodyPost_ret (v := .tuple #[.int .i64 0, .int .i64 1]) (by simp [results, Tryd.results22, go_sem]) rfl ⟨rfl, hb12⟩
    · by_cases hn : clusters s = []
      · rw [hn] at hL
        obtain ⟨bb, cc, rfl⟩ := hL.nil
        have h0 : oo = 0 := by rw [← HO.out]; unfold ofI; rw [hn]; rfl
        have HQ3 : R = (0, 0) := by
          rw [← HQ2.out, hn, sgF, if_neg (by omega)]
        subst HQ3
        clear hL
        go_wp2
        go_loopw [7, 8] (fun a i wr => a = .int .i64 0 ∧ i = .int .i64 0 ∧ w2 = wr) (fun _ _ _ => 0)
        case atStart => exact ⟨by first | rfl | go_num, by first | rfl | go_num, rfl⟩
        case round =>
          obtain ⟨rfl, rfl, rfl⟩ := hrel
          go_wp2
          exact bodyPost_ret (v := .tuple #[.int .i64 0, .int .i64 0]) (by simp [results, Tryd.results22, go_sem]) rfl ⟨rfl, hb12⟩
      · obtain ⟨m, y, hm, hy, hyl⟩ := last_of hn
        rcases hL with ⟨_, h⟩ | ⟨g, cap, rfl, hg, hl, hcap, hcells1⟩
        · exact absurd h hn
        rw [hm] at hl ⊢
        have hcells : ∀ i c, (clusters s)[i]? = some c → w2.cell? ⟨g, i * 5 + 2, none⟩ = some (.int .i64 c.fr) ∧ w2.cell? ⟨g, i * 5 + 3, none⟩ = some (.int .i64 c.to) ∧ w2.cell? ⟨g, i * 5 + 4, none⟩ = some (.int .i64 c.cells) := fun i c hc => by
          obtain ⟨_, _, q2, q3, q4⟩ := hcells1 i c hc
          exact ⟨(hb2.cell (p := ⟨g, _, none⟩) hg).trans q2, (hb2.cell (p := ⟨g, _, none⟩) hg).trans q3, (hb2.cell (p := ⟨g, _, none⟩) hg).trans q4⟩
        clear hcells1
        obtain ⟨_, y3, _⟩ := hcells _ _ hy
        have HM := hideC hm
        have hm0 : m + 1 ≤ 1048576 := by omega
        have hm1 : (0 : Int) ≤ (m : Int) := by omega
        have hm2 : (m : Int) < (m : Int) + 1 := by omega
        have hm4 : (0 : Int) < (m : Int) + 1 := by omega
        clear hm hy
        obtain ⟨al, hal⟩ : ∃ a, y.to = a := ⟨_, rfl⟩
        rw [hal] at y3 hyl
        have HL := hideC hyl
        clear hyl hal
        go_wp2
        go_loopw [7, 8] (fun a i wr => ∃ pre r, Hid (pre ++ r = clusters s) ∧ Hid (sgF column r (cellsOf pre) (lastTo pre 0) = R) ∧ cellsOf pre ≤ column ∧ i = .int .i64 (pre.length : Nat) ∧ a = .int .i64 (cellsOf pre) ∧ w2 = wr) (fun _ i _ => (m + 1) - (intOf i).toNat)
        case atStart => exact ⟨[], clusters s, rfl, HQ2, by simp [cellsOf]; omega, by first | rfl | go_num, by first | rfl | go_num, rfl⟩
        case round =>
          obtain ⟨pre, r, HP, HC, hcl, rfl, rfl, rfl⟩ := hrel
          have hlen : pre.length + r.length = m + 1 := by rw [← HM.out, ← HP.out]; simp
          cases r with
          | nil =>
            have hpc : pre = clusters s := by simpa using HP.out
            have hof : R = (al, 0) := by
              have h3 := HO.out
              unfold ofI at h3
              rw [← HC.out, sgF, if_neg (by rw [hpc]; omega), hpc, ← HL.out]
            simp at hlen
            subst hof
            clear hcells HP HC HQ2 hpc
            go_wp2
            exact bodyPost_ret (v := .tuple #[.int .i64 al, .int .i64 0]) (by simp [results, Tryd.results22, go_sem]) rfl ⟨rfl, hb12⟩
          | cons x r =>
            have hk : pre.length < m + 1 := by simp at hlen; omega
            have hge : (clusters s)[pre.length]? = some x := by rw [← HP.out]; simp
            obtain ⟨c2, c3, c4⟩ := hcells _ _ hge
            obtain ⟨⟨p1, p2⟩, p3, p4⟩ := front_bd (s := s) (pre := pre) (x := x) ⟨r, by simpa using HP.out⟩
            clear hcells hge
            by_cases hc : column < cellsOf pre + x.cells
            · have hof : R = (x.fr, 0) := by rw [← HC.out, sgF, if_pos hc]
              subst hof
              clear HC HP HQ2
              go_wp2
              exact bodyPost_ret (v := .tuple #[.int .i64 x.fr, .int .i64 0]) (by simp [results, Tryd.results22, go_sem]) rfl ⟨rfl, hb12⟩
            · have HC2 : Hid (sgF column r (cellsOf (pre ++ [x])) (lastTo (pre ++ [x]) 0) = R) := by
                have := HC.out
                rw [sgF, if_neg hc] at this
                rw [cellsOf_snoc, lastTo_snoc]
                exact this
              clear HC
              go_wp2
              go_roundw
              case rel => exact ⟨pre ++ [x], r, hideC (by simpa using HP.out), HC2, by rw [cellsOf_snoc]; omega, by simp, by rw [cellsOf_snoc], by first | rfl | trivial⟩
              case measure => simp [intOf]; omega

end Go.Proofs.YtfmofjjcgjogjaaDoor
