/- The walk of surtitlelaw2.CellParts. -/
import Derived.Test.YtgjkholmoamblaaDoorCellM5
import Derived.Test.YtgjkholmoamblaaDoorCNe
import Derived.Test.YtgjkholmoamblaaDoorCellL
import Derived.Deep.QuietTactic
import Derived.BigQuiet
import Derived.Deep.RegionHeld
import Derived.Deep.RegionHeld3
namespace Go.Proofs.YtgjkholmoamblaaDoor
open Go.RowKit

/-- A number within 0 to m - 1. -/
def withinI (a m : Int) : Int := if Int.tmod a m < 0 then Int.tmod a m + m else Int.tmod a m
theorem tmod_lo (a m : Int) (hm : 0 < m) : -m < a.tmod m := by
  by_cases h : 0 ≤ a
  · have := Int.tmod_nonneg m h
    omega
  · have e : a.tmod m = -((-a).tmod m) := by rw [Int.neg_tmod, Int.neg_neg]
    have := Int.tmod_lt_of_pos (-a) hm
    omega
theorem withinI_bd (a m : Int) (hm : 0 < m) : 0 ≤ withinI a m ∧ withinI a m < m := by
  have h1 := Int.tmod_lt_of_pos a hm
  have h2 := tmod_lo a m hm
  unfold withinI
  split <;> omega
set_option maxRecDepth 100000 in
set_option maxHeartbeats 1000000 in
theorem within_any (a m : Int) (_h1 : -9223372036854775808 ≤ a) (_h2 : a ≤ 9223372036854775807) (hm : 0 < m) (hm2 : m ≤ 4611686018427387904) (w : World) : Calls Tryd.prog 16 #[.int .i64 a, .int .i64 m] w fun e w' => e = .returned (.int .i64 (withinI a m)) ∧ w' = w := by
  have hne : (m == 0) = false := beq_eq_false_iff_ne.2 (by omega)
  have hne1 : ¬ m = 0 := by omega
  have lo := tmod_lo a m hm
  have up := Int.tmod_lt_of_pos a hm
  by_cases hk : Int.tmod a m < 0
  · rw [show withinI a m = Int.tmod a m + m from if_pos hk]
    go_enter Tryd.func16, Tryd.ntmps16
    go_wp2
    go_ret
    exact ⟨rfl, rfl⟩
  · rw [show withinI a m = Int.tmod a m from if_neg hk]
    go_enter Tryd.func16, Tryd.ntmps16
    go_wp2
    go_ret
    exact ⟨rfl, rfl⟩

/-- The list l lies at v, whether it has members or not. -/
def ListP (W : World) (v : Value) (l : List Cl) : Prop := ∃ p cap, v = .slice p l.length cap ∧ l.length ≤ cap ∧ cap ≤ 9223372036854775807 ∧ ∀ i c, l[i]? = some c → ∃ g, p = some ⟨g, 0, none⟩ ∧ g < W.heap.size ∧
  W.cell? ⟨g, i * 5, none⟩ = some (.int .i64 c.loc) ∧ W.cell? ⟨g, i * 5 + 1, none⟩ = some (.int .i64 c.len) ∧ W.cell? ⟨g, i * 5 + 2, none⟩ = some (.int .i64 c.fr) ∧ W.cell? ⟨g, i * 5 + 3, none⟩ = some (.int .i64 c.to) ∧ W.cell? ⟨g, i * 5 + 4, none⟩ = some (.int .i64 c.cells)
theorem listP_of {W : World} {v : Value} {l : List Cl} (h : ListC W v l) : ListP W v l := by
  rcases h with ⟨rfl, rfl⟩ | ⟨g, cap, rfl, h1, h2, h3, h4⟩
  · exact ⟨none, 0, rfl, Nat.le_refl _, by omega, fun i c hc => by simp at hc⟩
  · unfold maxLen at h3
    exact ⟨some ⟨g, 0, none⟩, cap, rfl, h2, by omega, fun i c hc => ⟨g, rfl, h1, h4 i c hc⟩⟩
theorem ListP.below {A B : World} {v : Value} {l : List Cl} (h : ListP A v l) (hb : Below A.heap.size A B) : ListP B v l := by
  obtain ⟨p, cap, h1, h2, h3, h4⟩ := h
  refine ⟨p, cap, h1, h2, h3, fun i c hc => ?_⟩
  obtain ⟨g, e, hg, e0, e1, e2, e3, e4⟩ := h4 i c hc
  exact ⟨g, e, Nat.lt_of_lt_of_le hg hb.size, (hb.cell (p := ⟨g, _, none⟩) hg).trans e0, (hb.cell (p := ⟨g, _, none⟩) hg).trans e1, (hb.cell (p := ⟨g, _, none⟩) hg).trans e2, (hb.cell (p := ⟨g, _, none⟩) hg).trans e3, (hb.cell (p := ⟨g, _, none⟩) hg).trans e4⟩

set_option maxRecDepth 100000 in
set_option maxHeartbeats 4000000 in
theorem cparts_any (s : ByteArray) (hs : s.size ≤ 1048576) (n : Int) (h1 : -9223372036854775808 ≤ n) (h2 : n ≤ 9223372036854775807) (N : Nat) (w : World) (hT : Tabs N w) :
    Calls Tryd.prog 5 #[.string s, .int .i64 n] w fun e w' => e = .returned (.bool true) ∧ Below w.heap.size w w' := by
  have hle := clusters_le s
  have hdec : decide (s.size < (clusters s).length) = false := decide_eq_false (by omega)
  obtain ⟨k0, k1⟩ := withinI_bd n ((clusters s).length + 1) (by omega)
  obtain ⟨k, hk⟩ : ∃ k : Nat, withinI n ((clusters s).length + 1) = k := ⟨(withinI n ((clusters s).length + 1)).toNat, by omega⟩
  have HW := hideC (fun w => within_any n ((clusters s).length + 1) h1 h2 (by omega) (by omega) w)
  rw [hk] at HW
  have hkl : k ≤ (clusters s).length := by omega
  clear k0 k1 hk
  have hsp : (clusters s).take k ++ (clusters s).drop k = clusters s := List.take_append_drop k _
  obtain ⟨l1, l2, l3, l4⟩ := lens_le hsp
  obtain ⟨E, hE⟩ : ∃ E : Nat, lensOf ((clusters s).take k) = E := ⟨(lensOf ((clusters s).take k)).toNat, by omega⟩
  obtain ⟨q1, q2⟩ := parts s _ _ E hsp hE
  have hEs : E ≤ s.size := by omega
  go_enter Tryd.func5, Tryd.ntmps5
  go_wp2_with fail
  refine (known_any N _ hT).mono ?_
  rintro e w1 ⟨rfl, hb1⟩
  go_wp2_with fail
  refine (allC_any s hs s.size (by omega) N _ (hT.below hb1)).mono ?_
  rintro e w2 ⟨v, rfl, hrow, hb2⟩
  have hb12 := hb1.trans (hb2.mono hb1.size)
  obtain ⟨p, cap, rfl, hl1, hl2, hl3⟩ := listP_of (listC_of hrow)
  clear hrow
  go_wp2_with fail
  refine (HW.out _).mono ?_
  rintro e w2' ⟨rfl, rfl⟩
  have hza : (s.extract 0 E).size ≤ 1048576 := by rw [ByteArray.size_extract]; omega
  have hzb : (s.extract E s.size).size ≤ 1048576 := by rw [ByteArray.size_extract]; omega
  have hlt : ((clusters s).take k).length = k := by rw [List.length_take]; omega
  have hld : ((clusters s).drop k).length = (clusters s).length - k := List.length_drop ..
  have oa : ofI (s.extract 0 E) = cellsOf ((clusters s).take k) := by unfold ofI; rw [q1]
  have ob : ofI (s.extract E s.size) = cellsOf ((clusters s).drop k) := by unfold ofI; rw [q2, cellsOf_back]
  have os : ofI s = cellsOf ((clusters s).take k) + cellsOf ((clusters s).drop k) := by unfold ofI; rw [← cellsOf_append, hsp]
  have bs := ofI_bd s
  have ba := ofI_bd (s.extract 0 E)
  have bb := ofI_bd (s.extract E s.size)
  have HF := hideC (fun w h => allC_any (s.extract 0 E) hza s.size (by rw [q1, hlt]; omega) N w h)
  have HG := hideC (fun w h => allC_any (s.extract E s.size) hzb s.size (by rw [q2, List.length_map, hld]; omega) N w h)
  rw [q1] at HF
  rw [q2] at HG
  have HA := hideC (fun w h => of_any (s.extract 0 E) (by omega) N w h)
  have HB := hideC (fun w h => of_any (s.extract E s.size) (by omega) N w h)
  have HS := hideC (fun w h => of_any s (by omega) N w h)
  rw [oa] at HA ba
  rw [ob] at HB bb
  rw [os] at HS bs
  have hka := hlt
  have hkb : (List.map (Cl.back E (lastTo ((clusters s).take k) 0)) ((clusters s).drop k)).length = (clusters s).length - k := by rw [List.length_map, hld]
  have hat : ∀ j x, j < k → (clusters s)[j]? = some x → ((clusters s).take k)[j]? = some x := fun j x hj hx => by rw [List.getElem?_take, if_pos hj]; exact hx
  have hbt : ∀ j x, k ≤ j → (clusters s)[j]? = some x → (List.map (Cl.back E (lastTo ((clusters s).take k) 0)) ((clusters s).drop k))[j - k]? = some (x.back E (lastTo ((clusters s).take k) 0)) := fun j x hj hx => by
    rw [List.getElem?_map, List.getElem?_drop, show k + (j - k) = j by omega, hx]
    rfl
  have HAT := hideC hat
  have HBT := hideC hbt
  clear hat hbt q1 q2 oa ob os hlt hld hsp
  by_cases hkn : k < (clusters s).length
  · obtain ⟨x, hx⟩ : ∃ x, (clusters s)[k]? = some x := ⟨_, List.getElem?_eq_getElem hkn⟩
    obtain ⟨g, rfl, hg, c0, c1, c2, c3, c4⟩ := hl3 k x hx
    have hch := chain_at (s := s) (pre := (clusters s).take k) (c := x) (r := (clusters s).drop (k + 1)) (by
      obtain ⟨hk1, hk2⟩ := List.getElem?_eq_some_iff.1 hx
      rw [← hk2, ← List.drop_eq_getElem_cons hk1, List.take_append_drop])
    rw [hch.1, hE] at c0
    rw [hch.2.2.1] at c2
    have hF1 := l3
    have hF2 := l4
    generalize lastTo ((clusters s).take k) 0 = F at *
    clear c1 c3 c4 hch
    have hTb := hT.below hb12
    go_wp2_with fail
    refine (HF.out _ hTb).mono ?_
    rintro e w3 ⟨va, rfl, hrowa, hb3⟩
    have hb13 := hb12.trans (hb3.mono hb12.size)
    obtain ⟨pa, capa, rfl, ha1, ha2, ha3⟩ := listP_of (listC_of hrowa)
    clear hrowa
    rw [hka] at ha1 ⊢
    go_wp2_with fail
    refine (HG.out _ (hT.below hb13)).mono ?_
    rintro e w4 ⟨vb, rfl, hrowb, hb4⟩
    have hb14 := hb13.trans (hb4.mono hb13.size)
    obtain ⟨pb, capb, rfl, hc1, hc2, hc3⟩ := listP_of (listC_of hrowb)
    clear hrowb
    rw [hkb] at hc1 ⊢
    have hT4 : Tabs N w4.drew := hT.below hb14.drew
    have HBC := hideC (And.intro hb3 (And.intro hb4 (And.intro hb12.size (And.intro hs (And.intro hF1 hF2)))))
    have HL3 := hideC hl3
    have HA3 := hideC ha3
    have HC3 := hideC hc3
    have HB14 := hideC hb14
    have hT0 := hideC hT
    obtain ⟨m, hm⟩ : ∃ m, (clusters s).length - k = m := ⟨_, rfl⟩
    obtain ⟨ln, hln⟩ : ∃ ln, (clusters s).length = ln := ⟨_, rfl⟩
    have HLN := hideC (And.intro hln (And.intro hle (And.intro hm hkl)))
    have hkm : (k : Int) + (m : Int) = (ln : Int) := by omega
    have hkm2 : k + m = ln := by omega
    obtain ⟨A, hA⟩ : ∃ A, cellsOf ((clusters s).take k) = A := ⟨_, rfl⟩
    obtain ⟨B, hB⟩ : ∃ B, cellsOf ((clusters s).drop k) = B := ⟨_, rfl⟩
    rw [hA] at HA HS bs ba
    rw [hB] at HB HS bs bb
    obtain ⟨AB, hAB⟩ : ∃ AB, A + B = AB := ⟨_, rfl⟩
    have hw2 : IntKind.i64.wrap AB = AB := by rw [← hAB]; exact IntWalk.i64_in _ ⟨by omega, by omega⟩
    have hw1 : IntKind.i64.wrap (A + B) = AB := by rw [hAB]; exact hw2
    rw [hAB] at HS
    rw [hm]
    rw [hln]
    have hEi : (E : Int) ≤ (s.size : Int) := by omega
    have HAB := hideC hAB
    have hw3 : IntKind.i64.wrap (ln : Int) = (ln : Int) := IntWalk.i64_in _ ⟨by omega, by omega⟩
    go_wp2_with fail
    clear hl3 ha3 hc3 hb14 hb13 hb12 hb1 hb2 hb3 hb4 hTb h1 h2 hs bs ba bb HW HF HG hza hzb l1 l2 l3 l4 hE ha1 ha2 hc1 hc2 hl1 hl2 hF1 hF2 hka hkb hx hg c0 c2 hT hdec hle hkl hkn hkm2 hA hB hm hln
    go_region_held3 (fun w' => Tabs N w') (first | assumption | go_keep) (first | (go_at_call_of 17 (s.extract 0 E); refine (HA.out _ hT4).mono ?_; rintro e w5 ⟨rfl, hb5⟩; have hT5 := hT4.below hb5) | (go_at_call_of 17 (s.extract E s.size); refine (HB.out _ hT5).mono ?_; rintro e w6 ⟨rfl, hb6⟩; have hT6 := hT5.below hb6) | (go_at_call 17; refine (HS.out _ hT6).mono ?_; rintro e w7 ⟨rfl, hb7⟩; have hT7 := hT6.below hb7))
    have HB7 := hideC ((((Below.refl w4.heap.size w4).drew.trans hb5).trans (hb6.mono hb5.size)).trans (hb7.mono (Nat.le_trans hb5.size hb6.size)))
    clear hb5 hb6 hb7 hT4 hT5 hT6 hT7 HA HB HS
    have hlnb : ln ≤ 1048576 := by have := HLN.out.1; have := HLN.out.2.1; have := HBC.out.2.2.2.1; omega
    go_wp2
    go_loopw [14, 15] (fun i _ wr => ∃ j : Nat, i = .int .i64 j ∧ j ≤ ln ∧ Below w4.heap.size w4 wr) (fun i _ _ => ln - (intOf i).toNat)
    case atStart => exact ⟨0, rfl, by omega, HB7.out⟩
    case round =>
      obtain ⟨j, rfl, hj, hBj⟩ := hrel
      have hsj := hBj.size
      obtain ⟨hb3, hb4, hz12, hss, hF1, hF2⟩ := HBC.out
      have hz3 := hb3.size
      have hz4 := hb4.size
      by_cases hjl : j < ln
      · have hjc : j < (clusters s).length := by have := HLN.out.1; omega
        obtain ⟨x, hx⟩ : ∃ x, (clusters s)[j]? = some x := ⟨_, List.getElem?_eq_getElem hjc⟩
        obtain ⟨g1, hge, hg1, y0, y1, y2, y3, y4⟩ := HL3.out j x hx
        have mv : ∀ o, wr.cell? ⟨g1, o, none⟩ = w2'.cell? ⟨g1, o, none⟩ := fun o => (hBj.cell (p := ⟨g1, o, none⟩) (show g1 < w4.heap.size by omega)).trans ((hb4.cell (p := ⟨g1, o, none⟩) (show g1 < w3.heap.size by omega)).trans (hb3.cell (p := ⟨g1, o, none⟩) hg1))
        have l0 := (mv _).trans y0
        have l1 := (mv _).trans y1
        have l2 := (mv _).trans y2
        have l3 := (mv _).trans y3
        have l4 := (mv _).trans y4
        have hji : (j : Int) < (ln : Int) := by omega
        have hgd := clus_guard
        have hnq := fun W => clus_same x.loc x.len x.fr x.to x.cells W
        have HBJ := hideC hBj
        obtain rfl : g = g1 := by simpa using hge
        clear hge
        by_cases hjk : j < k
        · obtain ⟨g2, rfl, hg2, z0, z1, z2, z3, z4⟩ := HA3.out j x (HAT.out j x hjk hx)
          have mw : ∀ o, wr.cell? ⟨g2, o, none⟩ = w3.cell? ⟨g2, o, none⟩ := fun o => (hBj.cell (p := ⟨g2, o, none⟩) (show g2 < w4.heap.size by omega)).trans (hb4.cell (p := ⟨g2, o, none⟩) hg2)
          have a0 := (mw _).trans z0
          have a1 := (mw _).trans z1
          have a2 := (mw _).trans z2
          have a3 := (mw _).trans z3
          have a4 := (mw _).trans z4
          have hjki : (j : Int) < (k : Int) := by omega
          clear y0 y1 y2 y3 y4 z0 z1 z2 z3 z4 mv mw hBj hb3 hb4 hx hjc
          go_wp2
          go_quiet (fail)
          go_wp2
          exact ⟨⟨j + 1, by go_num, by omega, below_dnC HBJ.out nq⟩, by simp [intOf]; omega⟩
        · obtain ⟨g3, rfl, hg3, z0, z1, z2, z3, z4⟩ := HC3.out (j - k) _ (HBT.out j x (by omega) hx)
          have mw : ∀ o, wr.cell? ⟨g3, o, none⟩ = w4.cell? ⟨g3, o, none⟩ := fun o => hBj.cell (p := ⟨g3, o, none⟩) hg3
          obtain ⟨d, hd⟩ : ∃ d, j - k = d := ⟨_, rfl⟩
          rw [hd] at z0 z1 z2 z3 z4
          have hdi : (j : Int) - (k : Int) = (d : Int) := by omega
          have hdm : d < m := by have := HLN.out.2.2.1; have := HLN.out.1; omega
          have hdmi : (d : Int) < (m : Int) := by omega
          obtain ⟨bd1, bd2, bd3⟩ := cl_bd hx
          obtain ⟨P, hP⟩ : ∃ P, x.loc - (E : Int) = P := ⟨_, rfl⟩
          obtain ⟨Q, hQ⟩ : ∃ Q, x.fr - F = Q := ⟨_, rfl⟩
          obtain ⟨R, hR⟩ : ∃ R, x.to - F = R := ⟨_, rfl⟩
          have z0' : w4.cell? ⟨g3, d * 5, none⟩ = some (.int .i64 P) := by rw [z0, ← hP]; rfl
          have z1' : w4.cell? ⟨g3, d * 5 + 1, none⟩ = some (.int .i64 x.len) := by rw [z1]; rfl
          have z2' : w4.cell? ⟨g3, d * 5 + 2, none⟩ = some (.int .i64 Q) := by rw [z2, ← hQ]; rfl
          have z3' : w4.cell? ⟨g3, d * 5 + 3, none⟩ = some (.int .i64 R) := by rw [z3, ← hR]; rfl
          have z4' : w4.cell? ⟨g3, d * 5 + 4, none⟩ = some (.int .i64 x.cells) := by rw [z4]; rfl
          have a0 := (mw _).trans z0'
          have a1 := (mw _).trans z1'
          have a2 := (mw _).trans z2'
          have a3 := (mw _).trans z3'
          have a4 := (mw _).trans z4'
          have hP1 : P + (E : Int) = x.loc := by omega
          have hQ1 : Q + F = x.fr := by omega
          have hR1 : R + F = x.to := by omega
          have wP : IntKind.i64.wrap x.loc = x.loc := IntWalk.i64_in _ ⟨by omega, by omega⟩
          have wQ : IntKind.i64.wrap x.fr = x.fr := IntWalk.i64_in _ ⟨by omega, by omega⟩
          have wR : IntKind.i64.wrap x.to = x.to := IntWalk.i64_in _ ⟨by omega, by omega⟩
          have hjki : ¬ (j : Int) < (k : Int) := by omega
          have HBD := hideC (And.intro bd1 (And.intro bd2 bd3))
          have hs5 : w4.heap.size ≤ wr.heap.size := hsj
          have hgl : g < wr.heap.size := by omega
          have hgn : g ≠ wr.heap.size := by omega
          clear y0 y1 y2 y3 y4 z0 z1 z2 z3 z4 z0' z1' z2' z3' z4' mv mw hBj hb3 hb4 hx hjc hP hQ hR bd1 bd2 bd3 hd hF1 hF2 hss
          go_wp2
          have bA : Below wr.heap.size wr (wr.alloc (.cells #[.int .i64 x.loc, .int .i64 x.len, .int .i64 x.fr, .int .i64 x.to, .int .i64 x.cells] 34)) := (Below.refl _ _).alloc (Nat.le_refl _) _
          have n5 := cell_five_new wr (.int .i64 x.loc) (.int .i64 x.len) (.int .i64 x.fr) (.int .i64 x.to) (.int .i64 x.cells) 34
          generalize wr.alloc (.cells #[.int .i64 x.loc, .int .i64 x.len, .int .i64 x.fr, .int .i64 x.to, .int .i64 x.cells] 34) = W5 at *
          have c0 : W5.cell? ⟨wr.heap.size, 0, none⟩ = some (.int .i64 x.loc) := n5 0 _ rfl
          have c1 : W5.cell? ⟨wr.heap.size, 1, none⟩ = some (.int .i64 x.len) := n5 1 _ rfl
          have c2 : W5.cell? ⟨wr.heap.size, 2, none⟩ = some (.int .i64 x.fr) := n5 2 _ rfl
          have c3 : W5.cell? ⟨wr.heap.size, 3, none⟩ = some (.int .i64 x.to) := n5 3 _ rfl
          have c4 : W5.cell? ⟨wr.heap.size, 4, none⟩ = some (.int .i64 x.cells) := n5 4 _ rfl
          have i0 := (bA.cell (p := ⟨g, j * 5, none⟩) hgl).trans l0
          have i1 := (bA.cell (p := ⟨g, j * 5 + 1, none⟩) hgl).trans l1
          have i2 := (bA.cell (p := ⟨g, j * 5 + 2, none⟩) hgl).trans l2
          have i3 := (bA.cell (p := ⟨g, j * 5 + 3, none⟩) hgl).trans l3
          have i4 := (bA.cell (p := ⟨g, j * 5 + 4, none⟩) hgl).trans l4
          have HB5 := hideC (HBJ.out.trans (bA.mono hsj))
          clear n5 bA l0 l1 l2 l3 l4 a0 a1 a2 a3 a4 HBJ
          go_quiet (fail)
          go_wp2
          exact ⟨⟨j + 1, by go_num, by omega, below_dnC HB5.out nq⟩, by simp [intOf]; omega⟩
      · have hjli : ¬ (j : Int) < (ln : Int) := by omega
        go_wp2
        go_ret
        exact ⟨rfl, HB14.out.trans (hBj.mono (by have := HB14.out.size; omega))⟩
  · have hke : k = (clusters s).length := by omega
    have hEs2 : E = s.size := by
      have h9 := (clusters_chain s).2.1
      rw [hke, List.take_length] at hE
      omega
    subst hEs2
    subst hke
    have hsz : ByteArray.empty.size = 0 := rfl
    have hce : clusters ByteArray.empty = [] := clusters_zero _ hsz
    have hoe : ofI ByteArray.empty = 0 := by unfold ofI; rw [hce]; rfl
    have HF2 := hideC (fun w h => allC_any s hs s.size (by omega) N w h)
    have HG2 := hideC (fun w h => allC_any ByteArray.empty (by omega) s.size (by rw [hce]; simp) N w h)
    have HS2 := hideC (fun w h => of_any s (by omega) N w h)
    have HE2 := hideC (fun w h => of_any ByteArray.empty (by omega) N w h)
    have bs2 := ofI_bd s
    rw [hce] at HG2
    rw [hoe] at HE2
    generalize ofI s = A at HS2 bs2
    clear HF HG HA HB HS ba bb bs HAT HBT hce hoe hsz hkn l1 l2 l3 l4 hE hka hkb hza hzb
    have hTb := hT.below hb12
    go_wp2_with fail
    refine (HF2.out _ hTb).mono ?_
    rintro e w3 ⟨va, rfl, hrowa, hb3⟩
    have hb13 := hb12.trans (hb3.mono hb12.size)
    obtain ⟨pa, capa, rfl, ha1, ha2, ha3⟩ := listP_of (listC_of hrowa)
    clear hrowa
    go_wp2_with fail
    refine (HG2.out _ (hT.below hb13)).mono ?_
    rintro e w4 ⟨vb, rfl, hrowb, hb4⟩
    have hb14 := hb13.trans (hb4.mono hb13.size)
    obtain ⟨pb, capb, rfl, hc1, hc2, hc3⟩ := listP_of (listC_of hrowb)
    clear hrowb
    simp only [List.length_nil] at hc1 ⊢
    have hT4 : Tabs N w4.drew := hT.below hb14.drew
    have HBC := hideC (And.intro hb3 (And.intro hb4 (And.intro hb12.size hs)))
    have HL3 := hideC hl3
    have HA3 := hideC ha3
    have HB14 := hideC hb14
    obtain ⟨ln, hln⟩ : ∃ ln, (clusters s).length = ln := ⟨_, rfl⟩
    have HLN := hideC (And.intro hln hle)
    have hw1 : IntKind.i64.wrap A = A := IntWalk.i64_in _ ⟨by omega, by omega⟩
    have hw3 : IntKind.i64.wrap (ln : Int) = (ln : Int) := IntWalk.i64_in _ ⟨by omega, by omega⟩
    rw [hln]
    go_wp2_with fail
    clear hl3 ha3 hc3 hb14 hb13 hb12 hb1 hb2 hb3 hb4 hTb h1 h2 hs bs2 HW HF2 HG2 ha1 ha2 hc1 hc2 hl1 hl2 hT hdec hle hkl hln
    go_region_held3 (fun w' => Tabs N w') (first | assumption | go_keep) (first | (go_at_call_of 17 s; refine (HS2.out _ hT4).mono ?_; rintro e w5 ⟨rfl, hb5⟩; have hT5 := hT4.below hb5) | (go_at_call_of 17 ByteArray.empty; refine (HE2.out _ hT5).mono ?_; rintro e w6 ⟨rfl, hb6⟩; have hT6 := hT5.below hb6) | (go_at_call_of 17 s; refine (HS2.out _ hT6).mono ?_; rintro e w7 ⟨rfl, hb7⟩; have hT7 := hT6.below hb7))
    have HB7 := hideC ((((Below.refl w4.heap.size w4).drew.trans hb5).trans (hb6.mono hb5.size)).trans (hb7.mono (Nat.le_trans hb5.size hb6.size)))
    clear hb5 hb6 hb7 hT4 hT5 hT6 hT7 HS2 HE2
    have hlnb : ln ≤ 1048576 := by have := HLN.out.1; have := HLN.out.2; have := HBC.out.2.2.2; omega
    go_wp2
    go_loopw [14, 15] (fun i _ wr => ∃ j : Nat, i = .int .i64 j ∧ j ≤ ln ∧ Below w4.heap.size w4 wr) (fun i _ _ => ln - (intOf i).toNat)
    case atStart => exact ⟨0, rfl, by omega, HB7.out⟩
    case round =>
      obtain ⟨j, rfl, hj, hBj⟩ := hrel
      have hsj := hBj.size
      obtain ⟨hb3, hb4, hz12, hss⟩ := HBC.out
      have hz3 := hb3.size
      have hz4 := hb4.size
      by_cases hjl : j < ln
      · have hjc : j < (clusters s).length := by have := HLN.out.1; omega
        obtain ⟨x, hx⟩ : ∃ x, (clusters s)[j]? = some x := ⟨_, List.getElem?_eq_getElem hjc⟩
        obtain ⟨g1, rfl, hg1, y0, y1, y2, y3, y4⟩ := HL3.out j x hx
        obtain ⟨g2, rfl, hg2, z0, z1, z2, z3, z4⟩ := HA3.out j x hx
        have mv : ∀ o, wr.cell? ⟨g1, o, none⟩ = w2'.cell? ⟨g1, o, none⟩ := fun o => (hBj.cell (p := ⟨g1, o, none⟩) (show g1 < w4.heap.size by omega)).trans ((hb4.cell (p := ⟨g1, o, none⟩) (show g1 < w3.heap.size by omega)).trans (hb3.cell (p := ⟨g1, o, none⟩) hg1))
        have mw : ∀ o, wr.cell? ⟨g2, o, none⟩ = w3.cell? ⟨g2, o, none⟩ := fun o => (hBj.cell (p := ⟨g2, o, none⟩) (show g2 < w4.heap.size by omega)).trans (hb4.cell (p := ⟨g2, o, none⟩) hg2)
        have l0 := (mv _).trans y0
        have l1 := (mv _).trans y1
        have l2 := (mv _).trans y2
        have l3 := (mv _).trans y3
        have l4 := (mv _).trans y4
        have a0 := (mw _).trans z0
        have a1 := (mw _).trans z1
        have a2 := (mw _).trans z2
        have a3 := (mw _).trans z3
        have a4 := (mw _).trans z4
        have hji : (j : Int) < (ln : Int) := by omega
        have hgd := clus_guard
        have hnq := fun W => clus_same x.loc x.len x.fr x.to x.cells W
        have HBJ := hideC hBj
        clear y0 y1 y2 y3 y4 z0 z1 z2 z3 z4 mv mw hBj hb3 hb4 hx hjc
        go_wp2
        go_quiet (fail)
        go_wp2
        exact ⟨⟨j + 1, by go_num, by omega, below_dnC HBJ.out nq⟩, by simp [intOf]; omega⟩
      · have hjli : ¬ (j : Int) < (ln : Int) := by omega
        go_wp2
        go_ret
        exact ⟨rfl, HB14.out.trans (hBj.mono (by have := HB14.out.size; omega))⟩

end Go.Proofs.YtgjkholmoamblaaDoor
