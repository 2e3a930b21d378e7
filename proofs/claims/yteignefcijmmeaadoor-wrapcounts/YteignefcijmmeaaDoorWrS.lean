/- Package wrap: stopAt. -/
import Derived.Test.YteignefcijmmeaaDoorWrK
namespace Go.Proofs.YteignefcijmmeaaDoor
open Go.RowKit
attribute [local go_sem] Oper.semAt_some

def pt0 : Pt := ⟨0, 0, 0, 0, false⟩
/-- Behind the last part ahead of part e that is no blank. -/
def stripB (L : List Pt) : Nat → Nat
  | 0 => 0
  | e + 1 => if (L.getD e pt0).cl = 2 then stripB L e else e + 1
theorem stripB_le (L : List Pt) : ∀ e, stripB L e ≤ e
  | 0 => Nat.le_refl _
  | e + 1 => by
    unfold stripB
    have := stripB_le L e
    split <;> omega
def stopV (k : Int) (p q : Pt) : Value := .agg #[.int .i64 k, .int .i64 p.loc, .int .i64 p.sg, .int .i64 p.ce, .int .i64 q.loc, .int .i64 q.sg, .int .i64 q.ce]
/-- A stop's block, as a function's result lies at first. -/
def SevZ (V : World) (B : Nat) : Prop := (B < V.heap.size ∧ V.cell? ⟨B, 0, none⟩ = some (.int .i64 0) ∧ V.cell? ⟨B, 1, none⟩ = some (.int .i64 0) ∧ V.cell? ⟨B, 2, none⟩ = some (.int .i64 0) ∧ V.cell? ⟨B, 3, none⟩ = some (.int .i64 0) ∧ V.cell? ⟨B, 4, none⟩ = some (.int .i64 0) ∧ V.cell? ⟨B, 5, none⟩ = some (.int .i64 0) ∧ V.cell? ⟨B, 6, none⟩ = some (.int .i64 0)) ∧
  V.frozen? ⟨B, 0, none⟩ = false ∧ V.frozen? ⟨B, 1, none⟩ = false ∧ V.frozen? ⟨B, 2, none⟩ = false ∧ V.frozen? ⟨B, 3, none⟩ = false ∧ V.frozen? ⟨B, 4, none⟩ = false ∧ V.frozen? ⟨B, 5, none⟩ = false ∧ V.frozen? ⟨B, 6, none⟩ = false
theorem SevZ.new (w : World) : SevZ (w.alloc (.cells #[.int .i64 0, .int .i64 0, .int .i64 0, .int .i64 0, .int .i64 0, .int .i64 0, .int .i64 0] 81)) w.heap.size :=
  ⟨⟨by simp, by go_simp, by go_simp, by go_simp, by go_simp, by go_simp, by go_simp, by go_simp⟩, by go_simp, by go_simp, by go_simp, by go_simp, by go_simp, by go_simp, by go_simp⟩
theorem stripB_step (L : List Pt) (e : Nat) (h : 0 < e) : stripB L e = if (L.getD (e - 1) pt0).cl = 2 then stripB L (e - 1) else e := by
  obtain ⟨k, rfl⟩ : ∃ k, e = k + 1 := ⟨e - 1, by omega⟩
  rfl
theorem below_seven {B q : Nat} {w W : World} (h : Below B w W) (hq : B ≤ q) (v0 v1 v2 v3 v4 v5 v6 : Value) : Below B w (((((((W.setCell ⟨q, 0, none⟩ v0).setCell ⟨q, 1, none⟩ v1).setCell ⟨q, 2, none⟩ v2).setCell ⟨q, 3, none⟩ v3).setCell ⟨q, 4, none⟩ v4).setCell ⟨q, 5, none⟩ v5).setCell ⟨q, 6, none⟩ v6) :=
  ((((((h.setCell (p := ⟨q, 0, none⟩) hq v0).setCell (p := ⟨q, 1, none⟩) hq v1).setCell (p := ⟨q, 2, none⟩) hq v2).setCell (p := ⟨q, 3, none⟩) hq v3).setCell (p := ⟨q, 4, none⟩) hq v4).setCell (p := ⟨q, 5, none⟩) hq v5).setCell (p := ⟨q, 6, none⟩) hq v6
set_option maxRecDepth 100000 in
set_option maxHeartbeats 4000000 in
theorem stop_walk (L : List Pt) (a : Addr) (cap n e0 : Nat) (k : Int) (hc : L.length ≤ cap ∧ cap ≤ maxLen) (hl : n < L.length) (he : ((k == 1) = true ∧ (n : Int) - 1 = (e0 : Int)) ∨ ((k == 1) = false ∧ n = e0)) (w : World) (hR : PRow L a w) :
    Calls Tryd.prog 49 #[.slice (some a) L.length cap, .int .i64 n, .int .i64 k] w fun e w' => e = .returned (stopV k (L.getD (stripB L e0) pt0) (L.getD n pt0)) ∧ Below w.heap.size w w' := by
  have hmx : maxLen ≤ 9223372036854775807 := by decide
  have g : ∀ i, i < L.length → L[i]? = some (L.getD i pt0) := fun i hi => by rw [List.getD, List.getElem?_eq_getElem hi]; rfl
  have HR := hideW hR
  have HG := hideW g
  clear g hR
  obtain ⟨R, hRe⟩ : ∃ R, stripB L e0 = R := ⟨_, rfl⟩
  rw [hRe]
  have HE := hideW hRe
  clear hRe
  obtain ⟨x, hx⟩ : ∃ x, L.getD R pt0 = x := ⟨_, rfl⟩
  obtain ⟨y, hy⟩ : ∃ y, L.getD n pt0 = y := ⟨_, rfl⟩
  rw [hx, hy]
  have HX := hideW hx
  have HY := hideW hy
  clear hx hy
  rcases he with ⟨h1, h2⟩ | ⟨h1, rfl⟩
  · have w1 : IntKind.i64.wrap (e0 : Int) = (e0 : Int) := IntWalk.i64_in _ ⟨by omega, by omega⟩
    go_enter Tryd.func49, Tryd.ntmps49
    go_upto_block 0 with fail
    go_cut [7] (fun o wx => o = .int .i64 R ∧ SevZ wx w.heap.size ∧ Below w.heap.size w wx)
    case first =>
      go_wp2_with fail
      go_loopw [7] (fun v wr => ∃ e : Nat, v = .int .i64 e ∧ e ≤ n ∧ Hid (stripB L e = R) ∧ SevZ wr w.heap.size ∧ Below w.heap.size w wr) (fun v _ => (intOf v).toNat)
      case atStart => exact ⟨e0, rfl, by omega, HE, SevZ.new w, bel1W w _⟩
      case round =>
        clear HE
        obtain ⟨e, rfl, hen, HE, hZ, hB⟩ := hrel
        by_cases h0 : 0 < e
        · have hs := stripB_step L e h0
          obtain ⟨_, _, _, b3, _⟩ := (HR.out.keep hB).five (HG.out (e - 1) (by omega))
          obtain ⟨m, hm⟩ : ∃ m, e - 1 = m := ⟨_, rfl⟩
          rw [hm] at hs b3
          have y0 : (0 : Int) < (e : Int) := by omega
          have y1 : (e : Int) - 1 = (m : Int) := by omega
          have y2 : (m : Int) < (L.length : Int) := by omega
          have w2 : IntKind.i64.wrap (m : Int) = (m : Int) := IntWalk.i64_in _ ⟨by omega, by omega⟩
          have HB := hideW (And.intro hZ hB)
          by_cases hb : (L.getD m pt0).cl = 2
          · have HE2 : Hid (stripB L m = R) := by
              rw [if_pos hb] at hs
              exact hs.symm.trans HE.out
            have hb2 : ((L.getD m pt0).cl == 2) = true := by rw [hb]; rfl
            generalize L.getD m pt0 = p at *
            clear HE HG HR hb hs hZ hB hm
            go_wp2_with fail
            exact ⟨⟨m, rfl, by omega, HE2, HB.out.1, HB.out.2⟩, by simp [intOf]; omega⟩
          · have hb2 : ((L.getD m pt0).cl == 2) = false := by rw [beq_eq_false_iff_ne]; exact hb
            rw [if_neg hb] at hs
            obtain rfl : e = R := hs.symm.trans HE.out
            generalize L.getD m pt0 = p at *
            clear HE HG HR hb hs hZ hB hm
            go_wp2_with fail
            go_meet
            case rel => exact ⟨rfl, HB.out.1, HB.out.2⟩
        · have hs : stripB L e = e := by
            obtain rfl : e = 0 := by omega
            rfl
          have y0 : ¬ (0 : Int) < (e : Int) := by omega
          obtain rfl : e = R := hs.symm.trans HE.out
          have HB := hideW (And.intro hZ hB)
          clear HE HG HR hs hZ hB
          go_wp2_with fail
          go_meet
          case rel => exact ⟨rfl, HB.out.1, HB.out.2⟩
    case rest =>
      obtain ⟨rfl, hZ, hB⟩ := hcut
      have hRn : R ≤ n := by have := stripB_le L e0; have := HE.out; omega
      obtain ⟨⟨_, r0, r1, r2, r3, r4, r5, r6⟩, f0, f1, f2, f3, f4, f5, f6⟩ := id hZ
      obtain ⟨x0, x1, x2, _, _⟩ := (HR.out.keep hB).five (HG.out R (by omega))
      obtain ⟨y0, y1, y2, _, _⟩ := (HR.out.keep hB).five (HG.out n hl)
      have zn : (n : Int) < (L.length : Int) := by omega
      have ze : (R : Int) < (L.length : Int) := by omega
      have ha : a.block < w.heap.size := HR.out.1
      have n1 : (a.add (R * 5)).block ≠ w.heap.size := by rw [addrW_block]; omega
      have n2 : (a.add (n * 5)).block ≠ w.heap.size := by rw [addrW_block]; omega
      have HSK : Hid (∀ W : World, Below w.heap.size w W → (fun w' => (w'.cell? (a.add (R * 5)) = some (.int .i64 x.loc) ∧ w'.cell? ⟨(a.add (R * 5)).block, (a.add (R * 5)).off + 1, none⟩ = some (.int .i64 x.sg) ∧ w'.cell? ⟨(a.add (R * 5)).block, (a.add (R * 5)).off + 2, none⟩ = some (.int .i64 x.ce)) ∧ (w'.cell? (a.add (n * 5)) = some (.int .i64 y.loc) ∧ w'.cell? ⟨(a.add (n * 5)).block, (a.add (n * 5)).off + 1, none⟩ = some (.int .i64 y.sg) ∧ w'.cell? ⟨(a.add (n * 5)).block, (a.add (n * 5)).off + 2, none⟩ = some (.int .i64 y.ce))) W) := fun W hW => by
        obtain ⟨x0, x1, x2, _, _⟩ := (HR.out.keep hW).five (HG.out R (by omega))
        obtain ⟨y0, y1, y2, _, _⟩ := (HR.out.keep hW).five (HG.out n hl)
        rw [HX.out] at x0 x1 x2
        rw [HY.out] at y0 y1 y2
        exact ⟨⟨x0, x1, x2⟩, ⟨y0, y1, y2⟩⟩
      rw [HX.out] at x0 x1 x2
      rw [HY.out] at y0 y1 y2
      clear HX HY
      have HB := hideW (And.intro hZ hB)
      clear HE HG HR hZ hB ha hmx hc hRn
      generalize wc = V at *
      go_upto_region 6 with fail
      go_region_held3 (fun w' => (w'.cell? (a.add (R * 5)) = some (.int .i64 x.loc) ∧ w'.cell? ⟨(a.add (R * 5)).block, (a.add (R * 5)).off + 1, none⟩ = some (.int .i64 x.sg) ∧ w'.cell? ⟨(a.add (R * 5)).block, (a.add (R * 5)).off + 2, none⟩ = some (.int .i64 x.ce)) ∧ (w'.cell? (a.add (n * 5)) = some (.int .i64 y.loc) ∧ w'.cell? ⟨(a.add (n * 5)).block, (a.add (n * 5)).off + 1, none⟩ = some (.int .i64 y.sg) ∧ w'.cell? ⟨(a.add (n * 5)).block, (a.add (n * 5)).off + 2, none⟩ = some (.int .i64 y.ce))) (first | with_reducible exact HSK.out _ HB.out.2.drew | with_reducible exact HSK.out _ (below_seven HB.out.2 (Nat.le_refl _) _ _ _ _ _ _ _).drew) (fail)
      all_goals go_wp2_with fail
      all_goals exact bodyPost_ret (v := stopV k x y) (by simp [stopV, results, Tryd.results49, go_sem, r0, r1, r2, r3, r4, r5, r6]) rfl ⟨rfl, (below_seven HB.out.2 (Nat.le_refl _) _ _ _ _ _ _ _).drew⟩
  · go_enter Tryd.func49, Tryd.ntmps49
    go_upto_block 0 with fail
    go_cut [7] (fun o wx => o = .int .i64 R ∧ SevZ wx w.heap.size ∧ Below w.heap.size w wx)
    case first =>
      go_wp2_with fail
      go_loopw [7] (fun v wr => ∃ e : Nat, v = .int .i64 e ∧ e ≤ n ∧ Hid (stripB L e = R) ∧ SevZ wr w.heap.size ∧ Below w.heap.size w wr) (fun v _ => (intOf v).toNat)
      case atStart => exact ⟨n, rfl, by omega, HE, SevZ.new w, bel1W w _⟩
      case round =>
        clear HE
        obtain ⟨e, rfl, hen, HE, hZ, hB⟩ := hrel
        by_cases h0 : 0 < e
        · have hs := stripB_step L e h0
          obtain ⟨_, _, _, b3, _⟩ := (HR.out.keep hB).five (HG.out (e - 1) (by omega))
          obtain ⟨m, hm⟩ : ∃ m, e - 1 = m := ⟨_, rfl⟩
          rw [hm] at hs b3
          have y0 : (0 : Int) < (e : Int) := by omega
          have y1 : (e : Int) - 1 = (m : Int) := by omega
          have y2 : (m : Int) < (L.length : Int) := by omega
          have w2 : IntKind.i64.wrap (m : Int) = (m : Int) := IntWalk.i64_in _ ⟨by omega, by omega⟩
          have HB := hideW (And.intro hZ hB)
          by_cases hb : (L.getD m pt0).cl = 2
          · have HE2 : Hid (stripB L m = R) := by
              rw [if_pos hb] at hs
              exact hs.symm.trans HE.out
            have hb2 : ((L.getD m pt0).cl == 2) = true := by rw [hb]; rfl
            generalize L.getD m pt0 = p at *
            clear HE HG HR hb hs hZ hB hm
            go_wp2_with fail
            exact ⟨⟨m, rfl, by omega, HE2, HB.out.1, HB.out.2⟩, by simp [intOf]; omega⟩
          · have hb2 : ((L.getD m pt0).cl == 2) = false := by rw [beq_eq_false_iff_ne]; exact hb
            rw [if_neg hb] at hs
            obtain rfl : e = R := hs.symm.trans HE.out
            generalize L.getD m pt0 = p at *
            clear HE HG HR hb hs hZ hB hm
            go_wp2_with fail
            go_meet
            case rel => exact ⟨rfl, HB.out.1, HB.out.2⟩
        · have hs : stripB L e = e := by
            obtain rfl : e = 0 := by omega
            rfl
          have y0 : ¬ (0 : Int) < (e : Int) := by omega
          obtain rfl : e = R := hs.symm.trans HE.out
          have HB := hideW (And.intro hZ hB)
          clear HE HG HR hs hZ hB
          go_wp2_with fail
          go_meet
          case rel => exact ⟨rfl, HB.out.1, HB.out.2⟩
    case rest =>
      obtain ⟨rfl, hZ, hB⟩ := hcut
      have hRn : R ≤ n := by have := stripB_le L n; have := HE.out; omega
      obtain ⟨⟨_, r0, r1, r2, r3, r4, r5, r6⟩, f0, f1, f2, f3, f4, f5, f6⟩ := id hZ
      obtain ⟨x0, x1, x2, _, _⟩ := (HR.out.keep hB).five (HG.out R (by omega))
      obtain ⟨y0, y1, y2, _, _⟩ := (HR.out.keep hB).five (HG.out n hl)
      have zn : (n : Int) < (L.length : Int) := by omega
      have ze : (R : Int) < (L.length : Int) := by omega
      have ha : a.block < w.heap.size := HR.out.1
      have n1 : (a.add (R * 5)).block ≠ w.heap.size := by rw [addrW_block]; omega
      have n2 : (a.add (n * 5)).block ≠ w.heap.size := by rw [addrW_block]; omega
      have HSK : Hid (∀ W : World, Below w.heap.size w W → (fun w' => (w'.cell? (a.add (R * 5)) = some (.int .i64 x.loc) ∧ w'.cell? ⟨(a.add (R * 5)).block, (a.add (R * 5)).off + 1, none⟩ = some (.int .i64 x.sg) ∧ w'.cell? ⟨(a.add (R * 5)).block, (a.add (R * 5)).off + 2, none⟩ = some (.int .i64 x.ce)) ∧ (w'.cell? (a.add (n * 5)) = some (.int .i64 y.loc) ∧ w'.cell? ⟨(a.add (n * 5)).block, (a.add (n * 5)).off + 1, none⟩ = some (.int .i64 y.sg) ∧ w'.cell? ⟨(a.add (n * 5)).block, (a.add (n * 5)).off + 2, none⟩ = some (.int .i64 y.ce))) W) := fun W hW => by
        obtain ⟨x0, x1, x2, _, _⟩ := (HR.out.keep hW).five (HG.out R (by omega))
        obtain ⟨y0, y1, y2, _, _⟩ := (HR.out.keep hW).five (HG.out n hl)
        rw [HX.out] at x0 x1 x2
        rw [HY.out] at y0 y1 y2
        exact ⟨⟨x0, x1, x2⟩, ⟨y0, y1, y2⟩⟩
      rw [HX.out] at x0 x1 x2
      rw [HY.out] at y0 y1 y2
      clear HX HY
      have HB := hideW (And.intro hZ hB)
      clear HE HG HR hZ hB ha hmx hc hRn
      generalize wc = V at *
      go_upto_region 6 with fail
      go_region_held3 (fun w' => (w'.cell? (a.add (R * 5)) = some (.int .i64 x.loc) ∧ w'.cell? ⟨(a.add (R * 5)).block, (a.add (R * 5)).off + 1, none⟩ = some (.int .i64 x.sg) ∧ w'.cell? ⟨(a.add (R * 5)).block, (a.add (R * 5)).off + 2, none⟩ = some (.int .i64 x.ce)) ∧ (w'.cell? (a.add (n * 5)) = some (.int .i64 y.loc) ∧ w'.cell? ⟨(a.add (n * 5)).block, (a.add (n * 5)).off + 1, none⟩ = some (.int .i64 y.sg) ∧ w'.cell? ⟨(a.add (n * 5)).block, (a.add (n * 5)).off + 2, none⟩ = some (.int .i64 y.ce))) (first | with_reducible exact HSK.out _ HB.out.2.drew | with_reducible exact HSK.out _ (below_seven HB.out.2 (Nat.le_refl _) _ _ _ _ _ _ _).drew) (fail)
      all_goals go_wp2_with fail
      all_goals exact bodyPost_ret (v := stopV k x y) (by simp [stopV, results, Tryd.results49, go_sem, r0, r1, r2, r3, r4, r5, r6]) rfl ⟨rfl, (below_seven HB.out.2 (Nat.le_refl _) _ _ _ _ _ _ _).drew⟩
/-- What stopAt tells: where the line's text ends, where the next line begins. -/
def stopE (k : Int) (n : Nat) : Nat := if k = 1 then n - 1 else n
theorem stopAt_any (L : List Pt) (a : Addr) (cap n : Nat) (k : Int) (hc : L.length ≤ cap ∧ cap ≤ maxLen) (hl : n < L.length) (h1 : k = 1 → 1 ≤ n) (w : World) (hR : PRow L a w) :
    Calls Tryd.prog 49 #[.slice (some a) L.length cap, .int .i64 n, .int .i64 k] w fun e w' => e = .returned (stopV k (L.getD (stripB L (stopE k n)) pt0) (L.getD n pt0)) ∧ Below w.heap.size w w' := by
  unfold stopE
  by_cases h : k = 1
  · have := h1 h
    rw [if_pos h]
    exact stop_walk L a cap n (n - 1) k hc hl (.inl ⟨by rw [beq_iff_eq]; exact h, by omega⟩) w hR
  · rw [if_neg h]
    exact stop_walk L a cap n n k hc hl (.inr ⟨by rw [beq_eq_false_iff_ne]; exact h, rfl⟩) w hR
end Go.Proofs.YteignefcijmmeaaDoor
