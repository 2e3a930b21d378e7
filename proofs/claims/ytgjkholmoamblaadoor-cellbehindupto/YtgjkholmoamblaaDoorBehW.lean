/- The walk of surtitlelaw2.CellBehind. -/
import Derived.Test.YtgjkholmoamblaaDoorBehM
import Derived.Test.YtgjkholmoamblaaDoorRMlt
import Derived.Test.YtgjkholmoamblaaDoorPartsC
namespace Go.Proofs.YtgjkholmoamblaaDoor
open Go.RowKit

set_option maxRecDepth 100000 in
set_option maxHeartbeats 4000000 in
theorem cbehind_any (s : ByteArray) (hs : s.size ≤ 1048576) (t : ByteArray) (_ht : t.size ≤ 1048576) (hst : s.size + t.size ≤ 1048576) (N : Nat) (w : World) (hT : Tabs N w) :
    Calls Tryd.prog 7 #[.string s, .string t] w fun e w' => e = .returned (.bool true) ∧ Below w.heap.size w w' := by
  have hab : (s ++ t).size = s.size + t.size := ByteArray.size_append
  have hle := clusters_le s
  have hle2 := clusters_le (s ++ t)
  have HM := hideC (fun W => rmelts_any s t hst W)
  have HA := hideC (fun W h => allC_any s hs s.size (by omega) N W h)
  have HU := hideC (fun W h => allC_any (s ++ t) (by omega) ((s.size : Int) + (t.size : Int)) (by omega) N W h)
  have HBH := hideC (fun h => behind s t h)
  have t1 : ¬ 9223372036854775807 < s.size + t.size := by omega
  go_enter Tryd.func7, Tryd.ntmps7
  go_wp2_with fail
  refine (known_any N _ hT).mono ?_
  rintro e w1 ⟨rfl, hb1⟩
  have s1 := hb1.size
  go_wp2_with fail
  refine (HM.out _).mono ?_
  rintro e w2 ⟨rfl, hb2⟩
  have s2 := hb2.size
  have hb12 := hb1.trans (hb2.mono s1)
  cases hmb : meltsB s t with
  | true =>
    go_wp2
    go_ret
    exact ⟨rfl, hb12⟩
  | false =>
    obtain ⟨hlen, hag⟩ := HBH.out hmb
    have HAG := hideC hag
    have HB12 := hideC hb12
    have hT2 := hT.below hb12
    clear hag hmb HBH HM hb1 hb2 hb12
    go_wp2_with fail
    refine (HA.out _ hT2).mono ?_
    rintro e w3 ⟨va, rfl, hrow, hb3⟩
    have s3 := hb3.size
    obtain ⟨pa, capa, rfl, ha1, ha2, ha3⟩ := listP_of (listC_of hrow)
    have HB13 := hideC (HB12.out.trans (hb3.mono (by have := HB12.out.size; omega)))
    have hT3 := hT.below HB13.out
    have HA3 := hideC ha3
    clear hrow ha3 hb3 HA
    go_wp2_with fail
    refine (HU.out _ hT3).mono ?_
    rintro e w4 ⟨vb, rfl, hrow, hb4⟩
    have s4 := hb4.size
    obtain ⟨pb, capb, rfl, hc1, hc2, hc3⟩ := listP_of (listC_of hrow)
    have HB14 := hideC (HB13.out.trans (hb4.mono (by have := HB13.out.size; omega)))
    have HB4 := hideC hb4
    have HC3 := hideC hc3
    clear hrow hc3 hb4 HU hT3 hT2 HB12 HB13
    obtain ⟨na, hna⟩ : ∃ na, (clusters s).length = na := ⟨_, rfl⟩
    obtain ⟨nu, hnu⟩ : ∃ nu, (clusters (s ++ t)).length = nu := ⟨_, rfl⟩
    have HNA := hideC hna
    have HNU := hideC hnu
    have hlen2 : na ≤ nu := by omega
    have hlt : ¬ (nu : Int) < (na : Int) := by omega
    have hlt2 : ¬ nu < na := by omega
    have hnab : na ≤ 1048576 := by omega
    have hnub : nu ≤ 1048576 := by omega
    rw [hna, hnu]
    clear hlen ha1 ha2 hc1 hc2 hna hnu hle hle2 hab
    go_wp2
    go_loopw [9] (fun i wr => ∃ j : Nat, i = .int .i64 j ∧ j ≤ na ∧ Below w4.heap.size w4 wr) (fun i _ => na - (intOf i).toNat)
    case atStart => exact ⟨0, rfl, by omega, Below.refl _ _⟩
    case round =>
      obtain ⟨j, rfl, hj, hBj⟩ := hrel
      have hsj := hBj.size
      by_cases hjl : j + 1 < na
      · have hjc : j + 1 < (clusters s).length := by have := HNA.out; omega
        obtain ⟨x, hx⟩ : ∃ x, (clusters s)[j]? = some x := ⟨_, List.getElem?_eq_getElem (by omega)⟩
        have hx2 := (HAG.out j hjc).trans hx
        obtain ⟨g1, rfl, hg1, y0, y1, y2, y3, y4⟩ := HA3.out j x hx
        obtain ⟨g2, rfl, hg2, z0, z1, z2, z3, z4⟩ := HC3.out j x hx2
        have mv : ∀ o, wr.cell? ⟨g1, o, none⟩ = w3.cell? ⟨g1, o, none⟩ := fun o => (hBj.cell (p := ⟨g1, o, none⟩) (show g1 < w4.heap.size by omega)).trans (HB4.out.cell (p := ⟨g1, o, none⟩) hg1)
        have mw : ∀ o, wr.cell? ⟨g2, o, none⟩ = w4.cell? ⟨g2, o, none⟩ := fun o => hBj.cell (p := ⟨g2, o, none⟩) hg2
        have l0 := (mv _).trans y0
        have l1 := (mv _).trans y1
        have l2 := (mv _).trans y2
        have l3 := (mv _).trans y3
        have l4 := (mv _).trans y4
        have a0 := (mw _).trans z0
        have a1 := (mw _).trans z1
        have a2 := (mw _).trans z2
        have a3 := (mw _).trans z3
        have a4 := (mw _).trans z4
        have hji : (j : Int) + 1 < (na : Int) := by omega
        have hjn : (j : Int) < (na : Int) := by omega
        have hju : (j : Int) < (nu : Int) := by omega
        have hjm : j < na := by omega
        have hjv : j < nu := by omega
        have hgd := clus_guard
        have hnq := fun W => clus_same x.loc x.len x.fr x.to x.cells W
        have HBJ := hideC hBj
        clear y0 y1 y2 y3 y4 z0 z1 z2 z3 z4 mv mw hBj hx hx2 hjc
        go_wp2
        go_quiet (fail)
        go_wp2
        exact ⟨⟨j + 1, by go_num, by omega, below_dnC HBJ.out nq⟩, by simp [intOf]; omega⟩
      · have hji : ¬ (j : Int) + 1 < (na : Int) := by omega
        go_wp2
        go_ret
        exact ⟨rfl, HB14.out.trans (hBj.mono (by have := HB14.out.size; omega))⟩
end Go.Proofs.YtgjkholmoamblaaDoor
