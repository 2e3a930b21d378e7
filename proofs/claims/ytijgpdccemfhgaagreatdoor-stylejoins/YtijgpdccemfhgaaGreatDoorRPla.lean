/- Contracts of the document's own units, size, unit, Count, Pairs and Place (surtitleref1). -/
import Derived.Test.YtijgpdccemfhgaaGreatDoorRSig
namespace Go.Proofs.YtijgpdccemfhgaaGreatDoor
open Go.RowKit

set_option maxHeartbeats 400000 in
theorem runits_any (a b r : Int) (c : Bool) (w : World) : Calls Tryz.prog 87 #[.agg #[.int .i64 a, .int .i64 b, .int .i64 r, .bool c]] w fun e w' => e = .returned (.int .i64 (pairsI r)) ∧ Below w.heap.size w w' := by
  by_cases h : 65536 ≤ r
  · rw [show pairsI r = 2 from if_pos h]
    go_enter Tryz.func87, Tryz.ntmps87
    go_wp2
    go_ret
    exact ⟨rfl, (Below.refl _ w).alloc (Nat.le_refl _) _⟩
  · rw [show pairsI r = 1 from if_neg h]
    go_enter Tryz.func87, Tryz.ntmps87
    go_wp2
    go_ret
    exact ⟨rfl, (Below.refl _ w).alloc (Nat.le_refl _) _⟩

/-- How many of a unit a sign has. -/
def sizeU (u : Int) (x : Sg) : Int := if u = 1 then x.len else if u = 3 then pairsI x.rune else 1
theorem step_get (p : Spot) (x : Sg) (u : Int) (hu : u = 1 ∨ u = 2 ∨ u = 3) : (p.step x).get u = p.get u + sizeU u x := by
  rcases hu with rfl | rfl | rfl <;> rfl
theorem sizeU_bd (u : Int) (x : Sg) : 0 ≤ sizeU u x ∧ sizeU u x ≤ 4 := by
  have := x.small
  have := pairsI_bd x.rune
  unfold sizeU
  repeat' split
  all_goals omega

set_option maxHeartbeats 400000 in
theorem rsize_any (x : Sg) (u : Int) (hu : u = 1 ∨ u = 2 ∨ u = 3) (w : World) : Calls Tryz.prog 77 #[.agg #[.int .i64 x.loc, .int .i64 x.len, .int .i64 x.rune, .bool x.bad], .int .i64 u] w fun e w' => e = .returned (.int .i64 (sizeU u x)) ∧ Below w.heap.size w w' := by
  rcases hu with rfl | rfl | rfl
  · rw [show sizeU 1 x = x.len from rfl]
    go_enter Tryz.func77, Tryz.ntmps77
    go_wp2
    go_ret
    exact ⟨rfl, (Below.refl _ w).alloc (Nat.le_refl _) _⟩
  · rw [show sizeU 2 x = 1 from rfl]
    go_enter Tryz.func77, Tryz.ntmps77
    go_wp2
    go_ret
    exact ⟨rfl, (Below.refl _ w).alloc (Nat.le_refl _) _⟩
  · rw [show sizeU 3 x = pairsI x.rune from rfl]
    go_enter Tryz.func77, Tryz.ntmps77
    go_wp2_with (go_at_call 87; refine (runits_any _ _ _ _ _).mono ?_; rintro e w2 ⟨rfl, hb2⟩)
    go_ret
    exact ⟨rfl, ((Below.refl _ w).alloc (Nat.le_refl _) _).trans (hb2.mono (by simp))⟩

set_option maxHeartbeats 400000 in
theorem runit_yes (u : Int) (w : World) (h : u = 1 ∨ u = 2 ∨ u = 3) : Calls Tryz.prog 60 #[.int .i64 u] w fun e w' => e = .returned (.bool true) ∧ w' = w := by
  rcases h with rfl | rfl | rfl
  all_goals
    go_enter Tryz.func60, Tryz.ntmps60
    go_wp2
    go_ret
    exact ⟨rfl, rfl⟩
set_option maxHeartbeats 400000 in
theorem runit_no (u : Int) (w : World) (h : ¬ (u = 1 ∨ u = 2 ∨ u = 3)) : Calls Tryz.prog 60 #[.int .i64 u] w fun e w' => e = .returned (.bool false) ∧ w' = w := by
  have h1 : (u == 1) = false := beq_eq_false_iff_ne.2 (by omega)
  have h2 : (u == 2) = false := beq_eq_false_iff_ne.2 (by omega)
  have h3 : (u == 3) = false := beq_eq_false_iff_ne.2 (by omega)
  go_enter Tryz.func60, Tryz.ntmps60
  go_wp2
  go_ret
  exact ⟨rfl, rfl⟩

theorem flatR_get : ∀ (l : List Sg) (n : Nat) (h : n < l.length), (flatR l)[n * 4]? = some (.int .i64 l[n].loc) ∧ (flatR l)[n * 4 + 1]? = some (.int .i64 l[n].len) ∧ (flatR l)[n * 4 + 2]? = some (.int .i64 l[n].rune) ∧ (flatR l)[n * 4 + 3]? = some (.bool l[n].bad)
  | [], _, h => by simp at h
  | x :: r, 0, _ => by simp [flatR]
  | x :: r, n + 1, h => by
    have := flatR_get r n (by simpa using h)
    have e : flatR (x :: r) = .int .i64 x.loc :: .int .i64 x.len :: .int .i64 x.rune :: .bool x.bad :: flatR r := by simp [flatR]
    rw [e, show (n + 1) * 4 = n * 4 + 1 + 1 + 1 + 1 by omega]
    simpa using this
/-- The four cells of a sign of a list. -/
def RAt (W : World) (g n : Nat) (x : Sg) : Prop := W.cell? ⟨g, n * 4, none⟩ = some (.int .i64 x.loc) ∧ W.cell? ⟨g, n * 4 + 1, none⟩ = some (.int .i64 x.len) ∧ W.cell? ⟨g, n * 4 + 2, none⟩ = some (.int .i64 x.rune) ∧ W.cell? ⟨g, n * 4 + 3, none⟩ = some (.bool x.bad)
theorem RAt.below {W W' : World} {g n m : Nat} {x : Sg} (h : RAt W g n x) (hb : Below m W W') (hg : g < m) : RAt W' g n x :=
  ⟨(hb.cell (p := ⟨g, n * 4, none⟩) hg).trans h.1, (hb.cell (p := ⟨g, n * 4 + 1, none⟩) hg).trans h.2.1, (hb.cell (p := ⟨g, n * 4 + 2, none⟩) hg).trans h.2.2.1, (hb.cell (p := ⟨g, n * 4 + 3, none⟩) hg).trans h.2.2.2⟩
theorem rows_at {W : World} {base e : Nat} {v : Value} {l : List Sg} (h : W.ownsRow base e 4 v l.length (flatR l)) :
    ∃ oa cap, v = .slice oa l.length cap ∧ ∀ n (hn : n < l.length), ∃ g, oa = some ⟨g, 0, none⟩ ∧ g < W.heap.size ∧ base ≤ g ∧ RAt W g n l[n] := by
  obtain ⟨h1, ⟨rfl, h0⟩ | ⟨g, cap, cur, rfl, hg, hh, hn, hcap, hsz, htake⟩⟩ := h
  · exact ⟨none, 0, by rw [h0], fun n hn => by omega⟩
  · refine ⟨some ⟨g, 0, none⟩, cap, rfl, fun n hn => ⟨g, rfl, (Array.getElem?_eq_some_iff.1 hh).1, hg, ?_⟩⟩
    obtain ⟨f0, f1, f2, f3⟩ := flatR_get l n hn
    rw [← htake, List.getElem?_take, if_pos (by omega), Array.getElem?_toList] at f0 f1 f2 f3
    exact ⟨by simpa [World.cell?, hh] using f0, by simpa [World.cell?, hh] using f1, by simpa [World.cell?, hh] using f2, by simpa [World.cell?, hh] using f3⟩

/-- The places from the k-th sign on. -/
def restS (s : ByteArray) (k : Nat) : List Spot := spotsF (spotAt s k) ((signs s).drop k)
theorem restS_zero (s : ByteArray) : restS s 0 = spotsL s := by rw [spots_eq]; rfl
theorem spotAt_succ (s : ByteArray) (k : Nat) (hk : k < (signs s).length) : spotAt s (k + 1) = (spotAt s k).step (signs s)[k] := by
  unfold spotAt
  rw [List.take_succ_eq_append_getElem hk, stepsF_snoc]
theorem restS_cons (s : ByteArray) (k : Nat) (hk : k < (signs s).length) : restS s k = spotAt s k :: restS s (k + 1) := by
  unfold restS
  rw [List.drop_eq_getElem_cons hk, spotsF, spotAt_succ s k hk]
theorem restS_head (s : ByteArray) (k : Nat) : ∃ r, restS s k = spotAt s k :: r := by
  unfold restS
  cases (signs s).drop k with
  | nil => exact ⟨[], rfl⟩
  | cons x r => exact ⟨_, rfl⟩
theorem restS_end (s : ByteArray) : restS s (signs s).length = [spotAt s (signs s).length] := by
  unfold restS
  rw [List.drop_length]
  rfl
theorem spotAt_bd (s : ByteArray) (k : Nat) (u : Int) : 0 ≤ (spotAt s k).get u ∧ (spotAt s k).get u ≤ 4 * s.size := by
  refine ⟨first_least s u (spotAt_mem s k), ?_⟩
  have h1 := last_most s u (spotAt_mem s k)
  have h2 := trail_bd (signs s)
  have h3 : (signs s).length ≤ s.size := sgns_length s _ _
  rw [trail_end] at h2
  have h4 : (lastS s).get u ≤ 4 * s.size := by
    have h5 : lastS s = stepsF ⟨0, 0, 0⟩ (signs s) := rfl
    rw [← h5] at h2
    unfold Spot.get
    repeat' split
    all_goals omega
  omega

set_option maxRecDepth 100000 in
set_option maxHeartbeats 2000000 in
theorem rplace_any (s : ByteArray) (hs : s.size ≤ 1048576) (loc u v : Int) (hu : u = 1 ∨ u = 2 ∨ u = 3) (hv : v = 1 ∨ v = 2 ∨ v = 3) (w : World) :
    Calls Tryz.prog 62 #[.string s, .int .i64 loc, .int .i64 u, .int .i64 v] w fun e w' => e = .returned (.tuple #[.int .i64 ((findS s u loc).1.get v), .int .i64 (findS s u loc).2]) ∧ Below w.heap.size w w' := by
  by_cases hneg : loc < 0
  · have hz : zeroSpot.get v = 0 := by rcases hv with rfl | rfl | rfl <;> rfl
    rw [show findS s u loc = (zeroSpot, 1) from if_pos hneg, hz]
    go_enter Tryz.func62, Tryz.ntmps62
    go_wp2_with fail
    refine (runit_yes u _ hu).mono ?_
    rintro e w' ⟨rfl, rfl⟩
    go_wp2_with fail
    refine (runit_yes v _ hv).mono ?_
    rintro e w' ⟨rfl, rfl⟩
    go_wp2
    go_ret2
    exact ⟨rfl, Below.refl _ _⟩
  · have FS : findS s u loc = findL u loc (restS s 0) := by rw [restS_zero]; exact if_neg hneg
    have hdn : decide (loc < 0) = false := decide_eq_false hneg
    rw [FS]
    clear FS
    go_enter Tryz.func62, Tryz.ntmps62
    go_wp2_with fail
    refine (runit_yes u _ hu).mono ?_
    rintro e w' ⟨rfl, rfl⟩
    go_wp2_with fail
    refine (runit_yes v _ hv).mono ?_
    rintro e w' ⟨rfl, rfl⟩
    go_wp2_with fail
    refine (rsigns_any s hs _).mono ?_
    rintro e w1 ⟨lv, rfl, hown, hB1⟩
    obtain ⟨oa, cap, rfl, hcell⟩ := rows_at hown
    have HC := hideO hcell
    have hln : (signs s).length ≤ 1048576 := Nat.le_trans (sgns_length s _ _) hs
    clear hcell hown
    go_wp2
    go_loopw [11, 12, 13] (fun h t i wr => ∃ k : Nat, i = .int .i64 k ∧ k ≤ (signs s).length ∧ h = .int .i64 ((spotAt s k).get u) ∧ t = .int .i64 ((spotAt s k).get v) ∧ ¬ loc < (spotAt s k).get u ∧ Hid (findL u loc (restS s 0) = findL u loc (restS s k)) ∧ Below w'.heap.size w' wr ∧ Below w1.heap.size w1 wr) (fun _ _ i _ => (signs s).length - (intOf i).toNat)
    case atStart => exact ⟨0, rfl, by omega, by rcases hu with rfl | rfl | rfl <;> rfl, by rcases hv with rfl | rfl | rfl <;> rfl, by rcases hu with rfl | rfl | rfl <;> exact (show ¬ loc < 0 by omega), hideO rfl, hB1, Below.refl _ _⟩
    case round =>
      obtain ⟨k, rfl, hk, rfl, rfl, hle, HF, hB, hBw⟩ := hrel
      have hb1 := spotAt_bd s k u
      have hb2 := spotAt_bd s k v
      by_cases hkl : k < (signs s).length
      · by_cases he : (spotAt s k).get u = loc
        · have HR : Hid (findL u loc (restS s 0) = (spotAt s k, 0)) := by
            show _ = _
            rw [HF.out, restS_cons s k hkl, findL, if_pos he]
          have te : ((spotAt s k).get u == loc) = true := beq_iff_eq.2 he
          clear HF
          generalize (spotAt s k).get u = hh at *
          go_wp2
          go_ret2
          exact ⟨by rw [HR.out]; rfl, hB⟩
        · have te : ((spotAt s k).get u == loc) = false := beq_eq_false_iff_ne.2 he
          have HR : Hid (findL u loc (restS s 0) = findL u loc (restS s (k + 1))) := by
            show _ = _
            rw [HF.out, restS_cons s k hkl, findL, if_neg he, if_neg hle]
          have hs1 := spotAt_succ s k hkl
          have hg1 : (spotAt s (k + 1)).get u = (spotAt s k).get u + sizeU u (signs s)[k] := by rw [hs1, step_get _ _ u hu]
          have hg2 : (spotAt s (k + 1)).get v = (spotAt s k).get v + sizeU v (signs s)[k] := by rw [hs1, step_get _ _ v hv]
          have hb3 := spotAt_bd s (k + 1) u
          have hb4 := spotAt_bd s (k + 1) v
          obtain ⟨g, rfl, hgz, _, hcells⟩ := HC.out k hkl
          have hx := hcells.below hBw hgz
          have HX := hideO hx
          obtain ⟨c0, c1, c2, c3⟩ := hx
          clear HF hcells hs1
          rw [hg1] at hb3
          rw [hg2] at hb4
          have hq1 := sizeU_bd u (signs s)[k]
          have hq2 := sizeU_bd v (signs s)[k]
          have hsx : ∀ z, (z = 1 ∨ z = 2 ∨ z = 3) → ∀ W, Calls Tryz.prog 77 #[.agg #[.int .i64 (signs s)[k].loc, .int .i64 (signs s)[k].len, .int .i64 (signs s)[k].rune, .bool (signs s)[k].bad], .int .i64 z] W fun e w' => e = .returned (.int .i64 (sizeU z (signs s)[k])) ∧ Below W.heap.size W w' := fun z hz W => rsize_any _ z hz W
          have HSX := hideO hsx
          clear hsx
          generalize (signs s)[k] = x at *
          generalize (spotAt s k).get u = p at *
          generalize (spotAt s k).get v = q at *
          generalize hye : sizeU u x = y at *
          generalize hze : sizeU v x = z at *
          have HY := hideO hye
          have HZ := hideO hze
          clear hye hze
          by_cases hgt : loc < p + y
          · have HE : Hid (findL u loc (restS s 0) = (zeroSpot, 21)) := by
              show _ = _
              obtain ⟨r, hr⟩ := restS_head s (k + 1)
              rw [HR.out, hr, findL, if_neg (by omega), if_pos (by omega)]
            have hz : zeroSpot.get v = 0 := by rcases hv with rfl | rfl | rfl <;> rfl
            have HZ0 := hideO hz
            clear HR hg1 hg2 hz
            go_wp2_with fail
            refine (HSX.out u hu _).mono ?_
            rintro e w2 ⟨rfl, hb5⟩
            rw [HY.out]
            obtain ⟨c0, c1, c2, c3⟩ := HX.out.below hb5 (by have := hBw.size; omega)
            have hbw2 := hb5.size
            have hgz2 := hBw.size
            have hX2 := hideO (HX.out.below hb5 (by omega))
            go_wp2_with fail
            refine (HSX.out v hv _).mono ?_
            rintro e w3 ⟨rfl, hb6⟩
            rw [HZ.out]
            go_wp2
            go_ret2
            exact ⟨by rw [HE.out]; dsimp only; rw [HZ0.out]; rfl, hB.trans ((hb5.mono hB.size).trans (hb6.mono (by have := hB.size; omega)))⟩
          · have HG1 := hideO hg1
            have HG2 := hideO hg2
            clear hg1 hg2
            go_wp2_with fail
            refine (HSX.out u hu _).mono ?_
            rintro e w2 ⟨rfl, hb5⟩
            rw [HY.out]
            obtain ⟨c0, c1, c2, c3⟩ := HX.out.below hb5 (by have := hBw.size; omega)
            have hbw2 := hb5.size
            have hgz2 := hBw.size
            go_wp2_with fail
            refine (HSX.out v hv _).mono ?_
            rintro e w3 ⟨rfl, hb6⟩
            rw [HZ.out]
            go_wp2
            go_roundw
            case rel => exact ⟨k + 1, by go_num, by omega, by rw [HG1.out], by rw [HG2.out], by rw [HG1.out]; omega, HR, hB.trans ((hb5.mono hB.size).trans (hb6.mono (by have := hB.size; omega))), hBw.trans ((hb5.mono hBw.size).trans (hb6.mono (by omega)))⟩
            case measure => simp [intOf]; omega
      · obtain rfl : k = (signs s).length := by omega
        by_cases he : (spotAt s (signs s).length).get u = loc
        · have HR : Hid (findL u loc (restS s 0) = (spotAt s (signs s).length, 0)) := by
            show _ = _
            rw [HF.out, restS_end, findL, if_pos he]
          have te : ((spotAt s (signs s).length).get u == loc) = true := beq_iff_eq.2 he
          clear HF
          generalize (spotAt s (signs s).length).get u = hh at *
          go_wp2
          go_ret2
          exact ⟨by rw [HR.out]; rfl, hB⟩
        · have te : ((spotAt s (signs s).length).get u == loc) = false := beq_eq_false_iff_ne.2 he
          have HE : Hid (findL u loc (restS s 0) = (zeroSpot, 1)) := by
            show _ = _
            rw [HF.out, restS_end, findL, if_neg he, if_neg hle, findL]
          have hz : zeroSpot.get v = 0 := by rcases hv with rfl | rfl | rfl <;> rfl
          have HZ0 := hideO hz
          clear HF hz
          generalize (spotAt s (signs s).length).get u = hh at *
          go_wp2
          go_ret2
          exact ⟨by rw [HE.out]; dsimp only; rw [HZ0.out]; rfl, hB⟩
end Go.Proofs.YtijgpdccemfhgaaGreatDoor
