/- The walk of surtitlelaw2.CellClusters. -/
import Derived.Test.YtfmofjjcgjogjaaDoorRefOf
import Derived.Test.YtfmofjjcgjogjaaDoorCellW5
import Derived.Deep.RegionHeld3
import Derived.Deep.Cut
import Derived.Deep.CutRange
import Derived.Deep.DeepCutAuto
namespace Go.Proofs.YtfmofjjcgjogjaaDoor
open Go.RowKit

set_option maxRecDepth 100000 in
set_option maxHeartbeats 4000000 in
theorem lawClusters_any (s : ByteArray) (hs : s.size ≤ 1048576) (N : Nat) (w : World) (hT : Tabs N w) : Calls Tryd.prog 5 #[.string s] w fun e w' => e = .returned (.bool true) ∧ Below w.heap.size w w' := by
  have HR := hideC (refClusters_any s hs)
  rw [rcl_clusters] at HR
  have hle := clusters_le s
  have HA := hideC (fun w h => allC_any s hs (((clusters s).length : Nat) : Int) (by omega) N w h)
  have HO := hideC (fun w h => of_any s (by omega) N w h)
  have HF := hideC (refOf_any s hs)
  obtain ⟨oo, hoo⟩ : ∃ o, ofI s = o := ⟨_, rfl⟩
  rw [hoo] at HO HF
  clear hoo
  go_enter Tryd.func5, Tryd.ntmps5
  go_wp2_with fail
  refine (known_any N _ hT).mono ?_
  rintro e w1 ⟨rfl, hb1⟩
  have hT1 := hT.below hb1
  go_wp2_with fail
  refine (HR.out _).mono ?_
  rintro e w2 ⟨v, rfl, hrow, hb2⟩
  have hT2 := hT1.below hb2
  have hL := listR_of hrow
  clear hrow
  by_cases hn : clusters s = []
  · rw [hn] at hL HA
    obtain ⟨bb, cc, rfl⟩ := hL.nil
    clear hL
    go_wp2_with fail
    refine (HA.out _ hT2).mono ?_
    rintro e w3 ⟨v, rfl, hrow, hb3⟩
    have hL := listR_of hrow
    obtain ⟨bd, cd, rfl⟩ := hL.nil
    clear hrow hL
    have hT3 := hT2.below hb3
    have hb13 := (hb1.trans (hb2.mono hb1.size)).trans (hb3.mono (hb1.trans (hb2.mono hb1.size)).size)
    go_wp2
    go_loopw [6] (fun i wr => i = .int .i64 0 ∧ w3 = wr) (fun _ _ => 0)
    case atStart => exact ⟨by first | rfl | go_num, rfl⟩
    case round =>
      obtain ⟨rfl, rfl⟩ := hrel
      go_wp2_with fail
      refine (HO.out _ hT3).mono ?_
      rintro e w4 ⟨rfl, hb4⟩
      go_wp2_with fail
      refine (HF.out _).mono ?_
      rintro e w5 ⟨rfl, hb5⟩
      go_wp2
      go_ret
      exact ⟨rfl, (hb13.trans (hb4.mono hb13.size)).trans (hb5.mono (hb13.trans (hb4.mono hb13.size)).size)⟩
  · rcases hL with ⟨_, h⟩ | ⟨g, cap, rfl, hg, hl, hcap, hcells⟩
    · exact absurd h hn
    · go_wp2_with fail
      refine (HA.out _ hT2).mono ?_
      rintro e w3 ⟨v, rfl, hrow, hb3⟩
      have hL := listR_of hrow
      clear hrow
      rcases hL with ⟨_, h⟩ | ⟨g', cap', rfl, hg', hl', hcap', hcells'⟩
      · exact absurd h hn
      have hz3 := hb3.size
      have hb13 := (hb1.trans (hb2.mono hb1.size)).trans (hb3.mono (hb1.trans (hb2.mono hb1.size)).size)
      have hT3 := hT2.below hb3
      generalize hnn : (clusters s).length = n at *
      have HN := hideC hnn
      clear hnn
      go_wp2
      go_loopw [6] (fun i wr => ∃ k : Nat, k ≤ n ∧ i = .int .i64 k ∧ Below w3.heap.size w3 wr) (fun i _ => n - (intOf i).toNat)
      case atStart => exact ⟨0, by omega, by first | rfl | go_num, Below.refl _ _⟩
      case round =>
        obtain ⟨k, hk, rfl, hb⟩ := hrel
        have hz := hb.size
        by_cases hkn : k < n
        · obtain ⟨x, hx⟩ : ∃ x, (clusters s)[k]? = some x := ⟨_, List.getElem?_eq_getElem (by rw [HN.out]; exact hkn)⟩
          obtain ⟨c0, c1, c2, c3, c4⟩ := hcells _ _ hx
          obtain ⟨d0, d1, d2, d3, d4⟩ := hcells' _ _ hx
          have hb23 : Below w2.heap.size w2 wr := hb3.trans (hb.mono hz3)
          have e0 := (hb23.cell (p := ⟨g, k * 5, none⟩) hg).trans c0
          have e1 := (hb23.cell (p := ⟨g, k * 5 + 1, none⟩) hg).trans c1
          have e2 := (hb23.cell (p := ⟨g, k * 5 + 2, none⟩) hg).trans c2
          have e3 := (hb23.cell (p := ⟨g, k * 5 + 3, none⟩) hg).trans c3
          have e4 := (hb23.cell (p := ⟨g, k * 5 + 4, none⟩) hg).trans c4
          have f0 := (hb.cell (p := ⟨g', k * 5, none⟩) hg').trans d0
          have f1 := (hb.cell (p := ⟨g', k * 5 + 1, none⟩) hg').trans d1
          have f2 := (hb.cell (p := ⟨g', k * 5 + 2, none⟩) hg').trans d2
          have f3 := (hb.cell (p := ⟨g', k * 5 + 3, none⟩) hg').trans d3
          have f4 := (hb.cell (p := ⟨g', k * 5 + 4, none⟩) hg').trans d4
          have hgr : g' < wr.heap.size := by omega
          have hgq : g < wr.heap.size := by omega
          clear hcells hcells' c0 c1 c2 c3 c4 d0 d1 d2 d3 d4 hx
          obtain ⟨a0, a1, a2, a3, a4⟩ := x
          simp only at e0 e1 e2 e3 e4 f0 f1 f2 f3 f4
          have i1 : (0 : Int) ≤ (k : Int) := by omega
          have i2 : (k : Int) < (n : Int) := by omega
          obtain ⟨wq, rfl⟩ : ∃ wq, wq = wr := ⟨_, rfl⟩
          have HS := hideC (as_any a0 a1 a2 a3 a4)
          go_upto_region 10 with fail
          go_cut [42] (fun o wx => o = .bool false ∧ Below w3.heap.size w3 wx)
          case first =>
            go_region_held3 (fun w' => w'.cell? ⟨g', k * 5, none⟩ = some (.int .i64 a0) ∧ w'.cell? ⟨g', k * 5 + 1, none⟩ = some (.int .i64 a1) ∧ w'.cell? ⟨g', k * 5 + 2, none⟩ = some (.int .i64 a2) ∧ w'.cell? ⟨g', k * 5 + 3, none⟩ = some (.int .i64 a3) ∧ w'.cell? ⟨g', k * 5 + 4, none⟩ = some (.int .i64 a4) ∧ w'.cell? ⟨g, k * 5, none⟩ = some (.int .i64 a0) ∧ w'.cell? ⟨g, k * 5 + 1, none⟩ = some (.int .i64 a1) ∧ w'.cell? ⟨g, k * 5 + 2, none⟩ = some (.int .i64 a2) ∧ w'.cell? ⟨g, k * 5 + 3, none⟩ = some (.int .i64 a3) ∧ w'.cell? ⟨g, k * 5 + 4, none⟩ = some (.int .i64 a4))
              (first | go_keep | exact ⟨q0, q1, q2, q3, q4, r0, r1, r2, r3, r4⟩)
              ((go_at_call 14; refine (HS.out _).mono ?_; rintro e wy ⟨rfl, hby⟩; have q0 := (hby.cell (p := ⟨g', k * 5, none⟩) hgr).trans f0; have q1 := (hby.cell (p := ⟨g', k * 5 + 1, none⟩) hgr).trans f1; have q2 := (hby.cell (p := ⟨g', k * 5 + 2, none⟩) hgr).trans f2; have q3 := (hby.cell (p := ⟨g', k * 5 + 3, none⟩) hgr).trans f3; have q4 := (hby.cell (p := ⟨g', k * 5 + 4, none⟩) hgr).trans f4; have r0 := (hby.cell (p := ⟨g, k * 5, none⟩) hgq).trans e0; have r1 := (hby.cell (p := ⟨g, k * 5 + 1, none⟩) hgq).trans e1; have r2 := (hby.cell (p := ⟨g, k * 5 + 2, none⟩) hgq).trans e2; have r3 := (hby.cell (p := ⟨g, k * 5 + 3, none⟩) hgq).trans e3; have r4 := (hby.cell (p := ⟨g, k * 5 + 4, none⟩) hgq).trans e4; have hbw : Below w3.heap.size w3 wy := hb.drew.trans (hby.mono hz)))
            all_goals first | go_wp2_with fail | skip
            all_goals go_meet
            all_goals exact ⟨rfl, by first | exact hbw | exact hbw.drew⟩
          case rest =>
            obtain ⟨rfl, hbx⟩ := hcut
            go_wp2
            refine ⟨⟨k + 1, by omega, by go_num, hbx⟩, by simp [intOf]; omega⟩
        · obtain rfl : k = n := by omega
          clear hcells hcells'
          have hTr := hT3.below hb
          have hb1r := hb13.trans (hb.mono hb13.size)
          go_wp2_with fail
          refine (HO.out _ hTr).mono ?_
          rintro e w4 ⟨rfl, hb4⟩
          go_wp2_with fail
          refine (HF.out _).mono ?_
          rintro e w5 ⟨rfl, hb5⟩
          go_wp2
          go_ret
          exact ⟨rfl, (hb1r.trans (hb4.mono hb1r.size)).trans (hb5.mono (hb1r.trans (hb4.mono hb1r.size)).size)⟩

end Go.Proofs.YtfmofjjcgjogjaaDoor
