/- Contracts of utf.find and utf.Place: a place of a text in any unit, told in any other. -/
import Derived.Test.YtbiodfeanngkdaaDoorW3
namespace Go.Proofs.YtbiodfeanngkdaaDoor
open Go.RowKit Go.Shelf
attribute [local go_sem] Oper.semAt_some

def Spot.get (p : Spot) (u : Int) : Int := if u = 1 then p.b else if u = 2 then p.c else p.d
def zeroSpot : Spot := ⟨0, 0, 0⟩
/-- The first of these places that is the one sought. -/
def findL (u loc : Int) : List Spot → Spot × Int
  | [] => (zeroSpot, 1)
  | p :: r => if p.get u = loc then (p, 0) else if loc < p.get u then (zeroSpot, 21) else findL u loc r
def findS (s : ByteArray) (u loc : Int) : Spot × Int := if loc < 0 then (zeroSpot, 1) else findL u loc (spotsL s)

set_option maxHeartbeats 400000 in
theorem find_neg (s : ByteArray) (u loc : Int) (w : World) (h : loc < 0) :
    Calls Tryd.prog 26 #[.string s, .int .i64 u, .int .i64 loc] w fun e w' => e = .returned (.tuple #[(findS s u loc).1.val, .int .i64 (findS s u loc).2]) ∧ Below w.heap.size w w' := by
  go_enter Tryd.func26, Tryd.ntmps26
  go_wp2
  refine bodyPost_ret (v := .tuple #[.agg #[.int .i64 0, .int .i64 0, .int .i64 0, .int .i64 0], .int .i64 1]) (by simp [results, Tryd.results26, go_sem]) rfl ⟨by simp [findS, h, Spot.val, zeroSpot], ?_⟩
  exact ((((Below.refl _ w).alloc (Nat.le_refl _) _).alloc (by simp) _).alloc (by simp; omega) _).alloc (by simp; omega) _

theorem hide {p : Prop} (h : p) : Hid p := h

/-- These places are not the one sought. -/
def fIp (u loc : Int) (pre : List Spot) : Prop := ∀ r, findL u loc (pre ++ r) = findL u loc r
/-- The search has ended behind these places: what it tells lies in the results' cells. -/
def fIx (u loc : Int) (w : World) (pre : List Spot) (A : World) : Prop :=
  ∃ res : Spot × Int, (∀ r, findL u loc (pre ++ r) = res) ∧ (Row4 A (w.heap.size + 1 + 1) 67 (.int .i64 0) (.int .i64 res.1.b) (.int .i64 res.1.c) (.int .i64 res.1.d) ∧ Boxed A (w.heap.size + 1 + 1 + 1) 25 (.int .i64 res.2)) ∧ Below w.heap.size w A
theorem fIx_calm (u loc : Int) (w : World) (B : Nat) (hB : w.heap.size + 4 ≤ B) : Calm B (fIx u loc w) := fun pre X Y hx hb => by
  obtain ⟨res, e1, ⟨e2, e3⟩, e4⟩ := hx
  exact ⟨res, e1, ⟨e2.of_block (hb.block _ (by omega)), (hb.block _ (by omega)).trans e3⟩, e4.trans (hb.mono (by omega))⟩
theorem fIp_step {u loc : Int} {pre : List Spot} (h : fIp u loc pre) (x : Spot) (r : List Spot) : findL u loc ((pre ++ [x]) ++ r) = if x.get u = loc then (x, 0) else if loc < x.get u then (zeroSpot, 21) else findL u loc r := by
  rw [List.append_assoc, h]
  rfl
theorem find_ret {u loc : Int} {w : World} {B : Nat} {pre : List Spot} {x : Spot} {W2 : World} (hip : fIp u loc pre) (c2 : Row4 W2 (w.heap.size + 1 + 1) 67 (.int .i64 0) (.int .i64 0) (.int .i64 0) (.int .i64 0)) (c3 : Boxed W2 (w.heap.size + 1 + 1 + 1) 25 (.int .i64 0))
    (hB : w.heap.size + 4 ≤ B) (hw : Below w.heap.size w W2) (res : Spot × Int) (hres : ∀ r, (if x.get u = loc then (x, 0) else if loc < x.get u then (zeroSpot, 21) else findL u loc r) = res) (a0 : Act) :
    calmPost B (fIp u loc) (fIx u loc w) (pre ++ [x]) W2 .ret a0
      (((((W2.setCell ⟨w.heap.size + 1 + 1, 0, none⟩ (.int .i64 0)).setCell ⟨w.heap.size + 1 + 1, 1, none⟩ (.int .i64 res.1.b)).setCell ⟨w.heap.size + 1 + 1, 2, none⟩ (.int .i64 res.1.c)).setCell ⟨w.heap.size + 1 + 1, 3, none⟩ (.int .i64 res.1.d)).setCell ⟨w.heap.size + 1 + 1 + 1, 0, none⟩ (.int .i64 res.2)) := by
  have r1 : Row4 (W2.setCell ⟨w.heap.size + 1 + 1, 0, none⟩ (.int .i64 0)) (w.heap.size + 1 + 1) 67 (.int .i64 0) (.int .i64 0) (.int .i64 0) (.int .i64 0) := heap_setCell_same W2 _ 0 _ _ 67 c2
  have r2 := ((r1.set1 (.int .i64 res.1.b)).set2 (.int .i64 res.1.c)).set3 (.int .i64 res.1.d)
  have c4 : Boxed ((((W2.setCell ⟨w.heap.size + 1 + 1, 0, none⟩ (.int .i64 0)).setCell ⟨w.heap.size + 1 + 1, 1, none⟩ (.int .i64 res.1.b)).setCell ⟨w.heap.size + 1 + 1, 2, none⟩ (.int .i64 res.1.c)).setCell ⟨w.heap.size + 1 + 1, 3, none⟩ (.int .i64 res.1.d)) (w.heap.size + 1 + 1 + 1) 25 (.int .i64 0) :=
    ((Below.heap_setCell _ _ _ _ (by simp)).trans ((Below.heap_setCell _ _ _ _ (by simp)).trans ((Below.heap_setCell _ _ _ _ (by simp)).trans (Below.heap_setCell _ _ _ _ (by simp))))).trans c3
  refine ⟨⟨?_, fun k _ hk => ?_⟩, res, fun r => (fIp_step hip x r).trans (hres r), ⟨r2.of_block (Below.heap_setCell _ _ _ _ (by simp)), c4.set _⟩, ?_⟩
  · exact (((((Below.refl 0 W2).setCell (Nat.zero_le _) _).setCell (Nat.zero_le _) _).setCell (Nat.zero_le _) _).setCell (Nat.zero_le _) _).setCell (Nat.zero_le _) _ |>.size
  · exact (Below.heap_setCell _ _ _ _ (by simp; omega)).trans ((Below.heap_setCell _ _ _ _ (by simp; omega)).trans ((Below.heap_setCell _ _ _ _ (by simp; omega)).trans ((Below.heap_setCell _ _ _ _ (by simp; omega)).trans (Below.heap_setCell _ _ _ _ (by simp; omega)))))
  · exact ((((hw.setCell (by simp; omega) _).setCell (by simp; omega) _).setCell (by simp; omega) _).setCell (by simp; omega) _).setCell (by simp; omega) _
theorem find_go {u loc : Int} {w : World} {B : Nat} {pre : List Spot} {x : Spot} {W2 : World} (hip : fIp u loc pre) (hres : ∀ r, (if x.get u = loc then (x, 0) else if loc < x.get u then (zeroSpot, 21) else findL u loc r) = findL u loc r) (a0 : Act) :
    calmPost B (fIp u loc) (fIx u loc w) (pre ++ [x]) W2 .normal a0 W2.drew.drew :=
  ⟨((Below.refl _ _).drew).drew, fun r => (fIp_step hip x r).trans (hres r)⟩
theorem ret_drew {u loc : Int} {w : World} {B : Nat} {xs : List Spot} {W2 Z : World} {a0 : Act} (hB : w.heap.size + 4 ≤ B) (h : calmPost B (fIp u loc) (fIx u loc w) xs W2 .ret a0 Z) : calmPost B (fIp u loc) (fIx u loc w) xs W2 .ret a0 Z.drew :=
  ⟨⟨h.1.size, h.1.same⟩, fIx_calm u loc w B hB _ _ _ h.2 (Below.refl _ _).drew⟩

set_option maxRecDepth 100000 in
set_option maxHeartbeats 2000000 in
theorem find_pos (s : ByteArray) (hs : s.size ≤ 140737488355328) (u loc : Int) (hu : u = 1 ∨ u = 2 ∨ u = 3) (w : World) (h : 0 ≤ loc) :
    Calls Tryd.prog 26 #[.string s, .int .i64 u, .int .i64 loc] w fun e w' => e = .returned (.tuple #[(findL u loc (spotsL s)).1.val, .int .i64 (findL u loc (spotsL s)).2]) ∧ Below w.heap.size w w' := by
  refine (callsIn_wide (n := 9)).1 ?_
  refine callsIn_of_wp_marks Tryd.func26 rfl trivial ?_ rfl
  simp only [Tryd.ntmps26, List.size_toArray, List.length_cons, List.length_nil, Nat.reduceAdd, Nat.reduceSub, Array.replicate_succ, Array.replicate_zero, List.push_toArray, List.append_toArray, List.nil_append, List.cons_append]
  have hneg : ¬ loc < 0 := by omega
  gi_wp2_with (refine ⟨trivial, ?_⟩; gi_at_call 39; refine (callsIn_wide.2 (spots_mk _ _)).mono ?_; rintro e w' ⟨rfl, rfl⟩)
  obtain ⟨V, hV⟩ : ∃ V, ((((w.alloc (.cells #[.int .i64 u] 3)).alloc (.cells #[.int .i64 loc] 3)).alloc (.cells #[.int .i64 0, .int .i64 0, .int .i64 0, .int .i64 0] 67)).alloc (.cells #[.int .i64 0] 25)).alloc (.cells #[.string s] 9) = V := ⟨_, rfl⟩
  have b0 : Boxed V w.heap.size 3 (.int .i64 u) := by rw [← hV]; exact ((((Boxed.new w 3 _).alloc _).alloc _).alloc _).alloc _
  have b1 : Boxed V (w.heap.size + 1) 3 (.int .i64 loc) := by
    rw [← hV]
    have := Boxed.new (w.alloc (.cells #[.int .i64 u] 3)) 3 (.int .i64 loc)
    rw [World.size_alloc] at this
    exact ((this.alloc _).alloc _).alloc _
  have b2 : Row4 V (w.heap.size + 1 + 1) 67 (.int .i64 0) (.int .i64 0) (.int .i64 0) (.int .i64 0) := by
    rw [← hV]
    have := World.alloc_heap_new ((w.alloc (.cells #[.int .i64 u] 3)).alloc (.cells #[.int .i64 loc] 3)) (.cells #[.int .i64 0, .int .i64 0, .int .i64 0, .int .i64 0] 67)
    rw [World.size_alloc, World.size_alloc] at this
    exact ((Below.heap_alloc _ _ _ (by simp)).trans (Below.heap_alloc _ _ _ (by simp))).trans this
  have b3 : Boxed V (w.heap.size + 1 + 1 + 1) 25 (.int .i64 0) := by
    rw [← hV]
    have := Boxed.new (((w.alloc (.cells #[.int .i64 u] 3)).alloc (.cells #[.int .i64 loc] 3)).alloc (.cells #[.int .i64 0, .int .i64 0, .int .i64 0, .int .i64 0] 67)) 25 (.int .i64 0)
    rw [World.size_alloc, World.size_alloc, World.size_alloc] at this
    exact this.alloc _
  have b4 : Boxed V (w.heap.size + 1 + 1 + 1 + 1) 9 (.string s) := by
    rw [← hV]
    have := Boxed.new ((((w.alloc (.cells #[.int .i64 u] 3)).alloc (.cells #[.int .i64 loc] 3)).alloc (.cells #[.int .i64 0, .int .i64 0, .int .i64 0, .int .i64 0] 67)).alloc (.cells #[.int .i64 0] 25)) 9 (.string s)
    rw [World.size_alloc, World.size_alloc, World.size_alloc, World.size_alloc] at this
    exact this
  have hB : Below w.heap.size w V := by
    rw [← hV]
    exact (((((Below.refl _ w).alloc (Nat.le_refl _) _).alloc (by simp) _).alloc (by simp; omega) _).alloc (by simp; omega) _).alloc (by simp; omega) _
  have hz : V.heap.size = w.heap.size + 5 := by rw [← hV]; simp
  rw [hV]
  clear hV
  have hmx : Tryd.prog.follows .mixedOrders = true := by kernel_rfl
  refine rangeFunc_calm (α := Spot) (by omega) (gf := 48) (lb := #[.pointer (some ⟨w.heap.size + 1 + 1 + 1 + 1, 0, none⟩)]) rfl (enters_of Tryd.func48 (by kernel_rfl) rfl)
    (spots_calm (9 - 1) (w.heap.size + 1 + 1 + 1 + 1) (by omega) s hs V (by omega) b4.cell) (fun _ => rfl)
    (fIp u loc) (fIx u loc w) (fIx_calm u loc w _ (by omega))
    (fun _ => rfl) ?round ?done ?stop
  case round =>
    rintro l pre x W K hl hlW hBW hip hlen hK
    simp only [Spot.val]
    gi_wp2
    refine hK _ _ ((Below.refl _ W).alloc (Nat.le_refl _) _) (fun W2 hbo hz2 hB2 => ?_)
    have hp4 : Row4 W2 W.heap.size 67 (.int .i64 0) (.int .i64 x.b) (.int .i64 x.c) (.int .i64 x.d) := (hbo.same W.heap.size (by simp) (by omega)).trans (World.alloc_heap_new W _)
    have c0 : Boxed W2 w.heap.size 3 (.int .i64 u) := (hB2.block _ (by omega)).trans b0
    have c1 : Boxed W2 (w.heap.size + 1) 3 (.int .i64 loc) := (hB2.block _ (by omega)).trans b1
    have c2 : Row4 W2 (w.heap.size + 1 + 1) 67 (.int .i64 0) (.int .i64 0) (.int .i64 0) (.int .i64 0) := (hB2.block _ (by omega)).trans b2
    have c3 : Boxed W2 (w.heap.size + 1 + 1 + 1) 25 (.int .i64 0) := (hB2.block _ (by omega)).trans b3
    have hWz := hBW.size
    obtain ⟨p0, p1, p2, p3⟩ := hp4.cells
    have k0 := c0.cell
    have k1 := c1.cell
    obtain ⟨q0, q1, q2, q3⟩ := c2.cells
    have f0 := c2.frozen 0
    have f1 := c2.frozen 1
    have f2 := c2.frozen 2
    have f3 := c2.frozen 3
    have k3 := c3.cell
    have f4 := c3.frozen
    have hBw2 : Below w.heap.size w W2 := hB.trans (hB2.mono (by omega))
    rcases hu with rfl | rfl | rfl
    · have hg : x.get 1 = x.b := by simp [Spot.get]
      have RET := hide (fun res => find_ret (B := V.heap.size) (x := x) hip c2 c3 (by omega) hBw2 res)
      have GO := hide (find_go (w := w) (B := V.heap.size) (x := x) (W2 := W2) hip)
      rw [hg] at RET GO
      clear hg hip
      by_cases e1 : x.b = loc
      · have t1 : (x.b == loc) = true := beq_iff_eq.2 e1
        have FIN := hide (RET.out (x, 0) (fun r => if_pos e1))
        clear e1 RET GO
        gi_wp2
        gi_region_o
        all_goals gi_wp2
        all_goals exact ret_drew (by omega) (FIN.out _)
      · have t1 : (x.b == loc) = false := beq_eq_false_iff_ne.2 e1
        by_cases e2 : loc < x.b
        · have FIN := hide (RET.out (zeroSpot, 21) (fun r => (if_neg e1).trans (if_pos e2)))
          clear e1 RET GO
          gi_wp2
          gi_region_o
          all_goals gi_wp2
          all_goals gi_region_o
          all_goals gi_wp2
          all_goals exact ret_drew (by omega) (ret_drew (by omega) (FIN.out _))
        · have FIN := hide (GO.out (fun r => (if_neg e1).trans (if_neg e2)))
          clear e1 RET GO
          gi_wp2
          gi_region_o
          all_goals gi_wp2
          all_goals gi_region_o
          all_goals gi_wp2
          all_goals exact FIN.out _
    · have hg : x.get 2 = x.c := by simp [Spot.get]
      have RET := hide (fun res => find_ret (B := V.heap.size) (x := x) hip c2 c3 (by omega) hBw2 res)
      have GO := hide (find_go (w := w) (B := V.heap.size) (x := x) (W2 := W2) hip)
      rw [hg] at RET GO
      clear hg hip
      by_cases e1 : x.c = loc
      · have t1 : (x.c == loc) = true := beq_iff_eq.2 e1
        have FIN := hide (RET.out (x, 0) (fun r => if_pos e1))
        clear e1 RET GO
        gi_wp2
        gi_region_o
        all_goals gi_wp2
        all_goals exact ret_drew (by omega) (FIN.out _)
      · have t1 : (x.c == loc) = false := beq_eq_false_iff_ne.2 e1
        by_cases e2 : loc < x.c
        · have FIN := hide (RET.out (zeroSpot, 21) (fun r => (if_neg e1).trans (if_pos e2)))
          clear e1 RET GO
          gi_wp2
          gi_region_o
          all_goals gi_wp2
          all_goals gi_region_o
          all_goals gi_wp2
          all_goals exact ret_drew (by omega) (ret_drew (by omega) (FIN.out _))
        · have FIN := hide (GO.out (fun r => (if_neg e1).trans (if_neg e2)))
          clear e1 RET GO
          gi_wp2
          gi_region_o
          all_goals gi_wp2
          all_goals gi_region_o
          all_goals gi_wp2
          all_goals exact FIN.out _
    · have hg : x.get 3 = x.d := by simp [Spot.get]
      have RET := hide (fun res => find_ret (B := V.heap.size) (x := x) hip c2 c3 (by omega) hBw2 res)
      have GO := hide (find_go (w := w) (B := V.heap.size) (x := x) (W2 := W2) hip)
      rw [hg] at RET GO
      clear hg hip
      by_cases e1 : x.d = loc
      · have t1 : (x.d == loc) = true := beq_iff_eq.2 e1
        have FIN := hide (RET.out (x, 0) (fun r => if_pos e1))
        clear e1 RET GO
        gi_wp2
        gi_region_o
        all_goals gi_wp2
        all_goals exact ret_drew (by omega) (FIN.out _)
      · have t1 : (x.d == loc) = false := beq_eq_false_iff_ne.2 e1
        by_cases e2 : loc < x.d
        · have FIN := hide (RET.out (zeroSpot, 21) (fun r => (if_neg e1).trans (if_pos e2)))
          clear e1 RET GO
          gi_wp2
          gi_region_o
          all_goals gi_wp2
          all_goals gi_region_o
          all_goals gi_wp2
          all_goals exact ret_drew (by omega) (ret_drew (by omega) (FIN.out _))
        · have FIN := hide (GO.out (fun r => (if_neg e1).trans (if_neg e2)))
          clear e1 RET GO
          gi_wp2
          gi_region_o
          all_goals gi_wp2
          all_goals gi_region_o
          all_goals gi_wp2
          all_goals exact FIN.out _
  case done =>
    rintro D xs W hD rfl hip hBW hK
    have c2 : Row4 W (w.heap.size + 1 + 1) 67 (.int .i64 0) (.int .i64 0) (.int .i64 0) (.int .i64 0) := (hBW.block _ (by omega)).trans b2
    have c3 : Boxed W (w.heap.size + 1 + 1 + 1) 25 (.int .i64 0) := (hBW.block _ (by omega)).trans b3
    have FIN : Hid (findL u loc (spotsL s) = (zeroSpot, 1)) := by have := hip []; rw [List.append_nil] at this; exact this
    clear hip
    obtain ⟨q0, q1, q2, q3⟩ := c2.cells
    have f0 := c2.frozen 0
    have f1 := c2.frozen 1
    have f2 := c2.frozen 2
    have f3 := c2.frozen 3
    have k3 := c3.cell
    have f4 := c3.frozen
    gi_wp2
    have r1 : Row4 (W.setCell ⟨w.heap.size + 1 + 1, 0, none⟩ (.int .i64 0)) (w.heap.size + 1 + 1) 67 (.int .i64 0) (.int .i64 0) (.int .i64 0) (.int .i64 0) := heap_setCell_same W _ 0 _ _ 67 c2
    have r2 := ((r1.set1 (.int .i64 0)).set2 (.int .i64 0)).set3 (.int .i64 0)
    have c4 : Boxed ((((W.setCell ⟨w.heap.size + 1 + 1, 0, none⟩ (.int .i64 0)).setCell ⟨w.heap.size + 1 + 1, 1, none⟩ (.int .i64 0)).setCell ⟨w.heap.size + 1 + 1, 2, none⟩ (.int .i64 0)).setCell ⟨w.heap.size + 1 + 1, 3, none⟩ (.int .i64 0)) (w.heap.size + 1 + 1 + 1) 25 (.int .i64 0) :=
      ((Below.heap_setCell _ _ _ _ (by simp)).trans ((Below.heap_setCell _ _ _ _ (by simp)).trans ((Below.heap_setCell _ _ _ _ (by simp)).trans (Below.heap_setCell _ _ _ _ (by simp))))).trans c3
    have r3 := r2.of_block (Below.heap_setCell _ ⟨w.heap.size + 1 + 1 + 1, 0, none⟩ (.int .i64 1) _ (by simp))
    have c5 := c4.set (.int .i64 1)
    have hZ := (((((hB.trans (hBW.mono (by omega))).setCell (p := ⟨w.heap.size + 1 + 1, 0, none⟩) (by simp; omega) (.int .i64 0)).setCell (p := ⟨w.heap.size + 1 + 1, 1, none⟩) (by simp; omega) (.int .i64 0)).setCell (p := ⟨w.heap.size + 1 + 1, 2, none⟩) (by simp; omega) (.int .i64 0)).setCell (p := ⟨w.heap.size + 1 + 1, 3, none⟩) (by simp; omega) (.int .i64 0)).setCell (p := ⟨w.heap.size + 1 + 1 + 1, 0, none⟩) (by simp; omega) (.int .i64 1)
    have hK5 := (Below.heap_setCell ((((W.setCell ⟨w.heap.size + 1 + 1, 0, none⟩ (.int .i64 0)).setCell ⟨w.heap.size + 1 + 1, 1, none⟩ (.int .i64 0)).setCell ⟨w.heap.size + 1 + 1, 2, none⟩ (.int .i64 0)).setCell ⟨w.heap.size + 1 + 1, 3, none⟩ (.int .i64 0)) ⟨w.heap.size + 1 + 1 + 1, 0, none⟩ (.int .i64 1) D (by simp; omega)).trans ((Below.heap_setCell _ _ _ _ (by simp; omega)).trans ((Below.heap_setCell _ _ _ _ (by simp; omega)).trans ((Below.heap_setCell _ _ _ _ (by simp; omega)).trans ((Below.heap_setCell _ _ _ _ (by simp; omega)).trans hK))))
    clear q0 q1 q2 q3 f0 f1 f2 f3 k3 f4 r1 r2 c4
    generalize ((((W.setCell ⟨w.heap.size + 1 + 1, 0, none⟩ (.int .i64 0)).setCell ⟨w.heap.size + 1 + 1, 1, none⟩ (.int .i64 0)).setCell ⟨w.heap.size + 1 + 1, 2, none⟩ (.int .i64 0)).setCell ⟨w.heap.size + 1 + 1, 3, none⟩ (.int .i64 0)).setCell ⟨w.heap.size + 1 + 1 + 1, 0, none⟩ (.int .i64 1) = Z at *
    refine ⟨by simp, .inl ⟨_, _, rfl, run_takeDeferred hK5, ?_⟩⟩
    obtain ⟨z0, z1, z2, z3⟩ := (r3.of_block (W' := Z.putObj D (.deferred none)) (World.putObj_heap_other (by omega))).cells
    have z4 : (Z.putObj D (.deferred none)).cell? ⟨w.heap.size + 1 + 1 + 1, 0, none⟩ = _ := (World.cell?_of_block (World.putObj_heap_other (by show w.heap.size + 1 + 1 + 1 ≠ D; omega))).trans c5.cell
    refine ⟨.tuple #[.agg #[.int .i64 0, .int .i64 0, .int .i64 0, .int .i64 0], .int .i64 1], by simp [results, Tryd.f26, go_sem, z0, z1, z2, z3, z4], by rw [FIN.out]; rfl, hZ.trans ((putObj_below _ _ _).mono (by omega))⟩
  case stop =>
    rintro D pre W hD hpre ⟨res, e1, ⟨e2, e3⟩, e4⟩ hK
    gi_wp2
    refine ⟨by simp, .inl ⟨_, _, rfl, run_takeDeferred hK, ?_⟩⟩
    obtain ⟨z0, z1, z2, z3⟩ := (e2.of_block (W' := W.putObj D (.deferred none)) (World.putObj_heap_other (by omega))).cells
    have z4 : (W.putObj D (.deferred none)).cell? ⟨w.heap.size + 1 + 1 + 1, 0, none⟩ = _ := (World.cell?_of_block (World.putObj_heap_other (by show w.heap.size + 1 + 1 + 1 ≠ D; omega))).trans e3.cell
    obtain ⟨r, hr⟩ := hpre
    have e1' := e1 r
    rw [hr] at e1'
    refine ⟨.tuple #[.agg #[.int .i64 0, .int .i64 res.1.b, .int .i64 res.1.c, .int .i64 res.1.d], .int .i64 res.2], by simp [results, Tryd.f26, go_sem, z0, z1, z2, z3, z4], by rw [e1']; rfl, e4.trans ((putObj_below _ _ _).mono (by omega))⟩

theorem find_any (s : ByteArray) (hs : s.size ≤ 140737488355328) (u loc : Int) (hu : u = 1 ∨ u = 2 ∨ u = 3) (w : World) :
    Calls Tryd.prog 26 #[.string s, .int .i64 u, .int .i64 loc] w fun e w' => e = .returned (.tuple #[(findS s u loc).1.val, .int .i64 (findS s u loc).2]) ∧ Below w.heap.size w w' := by
  by_cases h : loc < 0
  · exact find_neg s u loc w h
  · have := find_pos s hs u loc hu w (by omega)
    rw [show findS s u loc = findL u loc (spotsL s) from if_neg h]
    exact this

end Go.Proofs.YtbiodfeanngkdaaDoor
