/- The contracts of the document's own Column and Sign (surtitleref2). -/
import Derived.Test.YtfmofjjcgjogjaaDoorRefOf
import Derived.Test.YtfmofjjcgjogjaaDoorCellP
import Derived.Test.YtfmofjjcgjogjaaDoorCellQ
import Derived.Test.YtfmofjjcgjogjaaDoorCellM4
namespace Go.Proofs.YtfmofjjcgjogjaaDoor
open Go.RowKit

theorem last_of {s : ByteArray} (hn : clusters s ≠ []) : ∃ (m : Nat) (x : Cl), (clusters s).length = m + 1 ∧ (clusters s)[m]? = some x ∧ x.to = lastTo (clusters s) 0 := by
  rcases List.eq_nil_or_concat (clusters s) with h | ⟨p, x, h⟩
  · exact absurd h hn
  · refine ⟨p.length, x, ?_, ?_, ?_⟩
    · rw [h]; simp
    · rw [h]; simp
    · rw [h, List.concat_eq_append, lastTo_snoc]

set_option maxRecDepth 100000 in
set_option maxHeartbeats 4000000 in
theorem refColumn_any (s : ByteArray) (hs : s.size ≤ 1048576) (sign : Int) (h1 : -9223372036854775808 ≤ sign) (h2 : sign ≤ 9223372036854775807) (w : World) :
    Calls Tryd.prog 20 #[.string s, .int .i64 sign] w fun e w' => e = .returned (.tuple #[.int .i64 (columnR s sign).1, .int .i64 (columnR s sign).2]) ∧ Below w.heap.size w w' := by
  have HR := hideC (refClusters_any s hs)
  rw [rcl_clusters] at HR
  have hle := clusters_le s
  obtain ⟨R, hRR⟩ : ∃ R, columnR s sign = R := ⟨_, rfl⟩
  rw [hRR]
  have HQ := hideC hRR
  clear hRR
  go_enter Tryd.func20, Tryd.ntmps20
  go_wp2_with fail
  refine (HR.out _).mono ?_
  rintro e w1 ⟨v, rfl, hrow, hb1⟩
  have hL := listR_of hrow
  clear hrow
  by_cases hn : clusters s = []
  · rw [hn] at hL
    obtain ⟨bb, cc, rfl⟩ := hL.nil
    clear hL
    have e0 : columnR s sign = if sign < 0 then (0, 1) else if 0 < sign then (0, 1) else (0, 0) := by unfold columnR; rw [hn]; rfl
    have HQ2 := HQ.out
    rw [e0] at HQ2
    by_cases hneg : sign < 0
    · rw [if_pos hneg] at HQ2
      subst HQ2
      go_wp2
      exact bodyPost_ret (v := .tuple #[.int .i64 0, .int .i64 1]) (by simp [results, Tryd.results20, go_sem]) rfl ⟨rfl, hb1⟩
    · rw [if_neg hneg] at HQ2
      by_cases hpos : 0 < sign
      · rw [if_pos hpos] at HQ2
        subst HQ2
        go_wp2
        exact bodyPost_ret (v := .tuple #[.int .i64 0, .int .i64 1]) (by simp [results, Tryd.results20, go_sem]) rfl ⟨rfl, hb1⟩
      · rw [if_neg hpos] at HQ2
        subst HQ2
        go_wp2
        go_loopw [8, 9] (fun a i wr => a = .int .i64 0 ∧ i = .int .i64 0 ∧ w1 = wr) (fun _ _ _ => 0)
        case atStart => exact ⟨by first | rfl | go_num, by first | rfl | go_num, rfl⟩
        case round =>
          obtain ⟨rfl, rfl, rfl⟩ := hrel
          go_wp2
          exact bodyPost_ret (v := .tuple #[.int .i64 0, .int .i64 0]) (by simp [results, Tryd.results20, go_sem]) rfl ⟨rfl, hb1⟩
  · obtain ⟨m, y, hm, hy, hyl⟩ := last_of hn
    rcases hL with ⟨_, h⟩ | ⟨g, cap, rfl, hg, hl, hcap, hcells⟩
    · exact absurd h hn
    rw [hm] at hl ⊢
    obtain ⟨_, _, _, y3, _⟩ := hcells _ _ hy
    have hlast := lens_le (s := s) (pre := clusters s) (r := []) (by simp)
    obtain ⟨_, _, k1, k2⟩ := hlast
    rw [← hyl] at k1
    have hcl0 : clusters s ≠ [] := hn
    have HM := hideC hm
    have hm0 : m + 1 ≤ 1048576 := by omega
    have hm1 : (0 : Int) ≤ (m : Int) := by omega
    have hm2 : (m : Int) < (m : Int) + 1 := by omega
    have hm4 : (0 : Int) < (m : Int) + 1 := by omega
    clear hm hy
    obtain ⟨al, hal⟩ : ∃ a, y.to = a := ⟨_, rfl⟩
    rw [hal] at y3 k1 hyl
    have HL := hideC hyl
    clear hyl hal k2
    by_cases hbad : sign < 0 ∨ al < sign
    · have HQ2 : R = (0, 1) := by
        rw [← HQ.out]
        unfold columnR
        by_cases hneg : sign < 0
        · rw [if_pos hneg]
        · rw [if_neg hneg]
          exact col_past sign (clusters s) 0 0 0 (clusters_chain s).1 (by rw [← HL.out]; omega)
      subst HQ2
      clear hcells
      by_cases hneg : sign < 0
      · go_wp2
        exact bodyPost_ret (v := .tuple #[.int .i64 0, .int .i64 1]) (by simp [results, Tryd.results20, go_sem]) rfl ⟨rfl, hb1⟩
      · have hgt : al < sign := by omega
        clear hbad
        go_wp2
        exact bodyPost_ret (v := .tuple #[.int .i64 0, .int .i64 1]) (by simp [results, Tryd.results20, go_sem]) rfl ⟨rfl, hb1⟩
    · have hs0 : 0 ≤ sign := by omega
      have hs1 : sign ≤ al := by omega
      clear hbad
      have HQ2 : Hid (colF sign (clusters s) 0 0 = R) := by
        have := HQ.out
        unfold columnR at this
        rw [if_neg (by omega)] at this
        exact this
      clear HQ
      go_wp2
      go_loopw [8, 9] (fun a i wr => ∃ pre r, Hid (pre ++ r = clusters s) ∧ Hid (colF sign r (cellsOf pre) (lastTo pre 0) = R) ∧ lastTo pre 0 ≤ sign ∧ i = .int .i64 (pre.length : Nat) ∧ a = .int .i64 (cellsOf pre) ∧ w1 = wr) (fun _ i _ => (m + 1) - (intOf i).toNat)
      case atStart => exact ⟨[], clusters s, rfl, HQ2, hs0, by first | rfl | go_num, by first | rfl | go_num, rfl⟩
      case round =>
        obtain ⟨pre, r, HP, HC, hcl, rfl, rfl, rfl⟩ := hrel
        have hlen : pre.length + r.length = m + 1 := by rw [← HM.out, ← HP.out]; simp
        cases r with
        | nil =>
          have hpc : pre = clusters s := by simpa using HP.out
          have hof : R = (cellsOf pre, 0) := by
            rw [← HC.out, colF, if_neg]
            rw [hpc, ← HL.out]
            omega
          simp at hlen
          subst hof
          clear hcells HP HC HQ2 hpc
          go_wp2
          exact bodyPost_ret (v := .tuple #[.int .i64 (cellsOf pre), .int .i64 0]) (by simp [results, Tryd.results20, go_sem]) rfl ⟨rfl, hb1⟩
        | cons x r =>
          have hk : pre.length < m + 1 := by simp at hlen; omega
          have hge : (clusters s)[pre.length]? = some x := by rw [← HP.out]; simp
          obtain ⟨_, _, _, c3, c4⟩ := hcells _ _ hge
          obtain ⟨⟨p1, p2⟩, p3, p4⟩ := front_bd (s := s) (pre := pre) (x := x) ⟨r, by simpa using HP.out⟩
          clear hcells hge
          by_cases hc : x.to ≤ sign
          · have HC2 : Hid (colF sign r (cellsOf (pre ++ [x])) (lastTo (pre ++ [x]) 0) = R) := by
              have := HC.out
              rw [colF, if_neg (by omega)] at this
              rw [cellsOf_snoc, lastTo_snoc]
              exact this
            clear HC
            go_wp2
            go_roundw
            case rel => exact ⟨pre ++ [x], r, hideC (by simpa using HP.out), HC2, by rw [lastTo_snoc]; exact hc, by simp, by rw [cellsOf_snoc], by first | rfl | trivial⟩
            case measure => simp [intOf]; omega
          · have hof : R = (cellsOf pre, 0) := by rw [← HC.out, colF, if_pos (by omega)]
            subst hof
            clear HC HP HQ2
            go_wp2
            exact bodyPost_ret (v := .tuple #[.int .i64 (cellsOf pre), .int .i64 0]) (by simp [results, Tryd.results20, go_sem]) rfl ⟨rfl, hb1⟩

end Go.Proofs.YtfmofjjcgjogjaaDoor
