/- The contracts of cell.Column and cell.Sign. -/
import Derived.Test.YtfmofjjcgjogjaaDoorCellK
import Derived.Test.YtfmofjjcgjogjaaDoorCellM3
namespace Go.Proofs.YtfmofjjcgjogjaaDoor
open Go.RowKit Go.Shelf
attribute [local go_sem] Oper.semAt_some

/-- Column's answer over the clusters that are left. -/
def colF (sign : Int) : List Cl → Int → Int → Int × Int
  | [], sum, signs => if signs < sign then (0, 1) else (sum, 0)
  | c :: r, sum, _ => if sign < c.to then (sum, 0) else colF sign r (sum + c.cells) c.to
def columnR (s : ByteArray) (sign : Int) : Int × Int := if sign < 0 then (0, 1) else colF sign (clusters s) 0 0
/-- Sign's answer over the clusters that are left. -/
def sgF (column : Int) : List Cl → Int → Int → Int × Int
  | [], sum, signs => if sum < column then (0, 1) else (signs, 0)
  | c :: r, sum, _ => if column < sum + c.cells then (c.fr, 0) else sgF column r (sum + c.cells) c.to
def signR (s : ByteArray) (column : Int) : Int × Int := if column < 0 then (0, 1) else sgF column (clusters s) 0 0

theorem six (w : World) (t0 t1 t2 t3 t4 t5 : TypeId) (v0 v1 v2 v3 v4 v5 : Value) : ∃ V, (((((w.alloc (.cells #[v0] t0)).alloc (.cells #[v1] t1)).alloc (.cells #[v2] t2)).alloc (.cells #[v3] t3)).alloc (.cells #[v4] t4)).alloc (.cells #[v5] t5) = V ∧
    (Boxed V w.heap.size t0 v0 ∧ Boxed V (w.heap.size + 1) t1 v1 ∧ Boxed V (w.heap.size + 1 + 1) t2 v2 ∧ Boxed V (w.heap.size + 1 + 1 + 1) t3 v3 ∧ Boxed V (w.heap.size + 1 + 1 + 1 + 1) t4 v4 ∧ Boxed V (w.heap.size + 1 + 1 + 1 + 1 + 1) t5 v5) ∧
    Below w.heap.size w V ∧ w.heap.size + 6 ≤ V.heap.size ∧ V.heap.size ≤ w.heap.size + 6 := by
  refine ⟨_, rfl, ⟨?_, ?_, ?_, ?_, ?_, ?_⟩, ?_, by simp, by simp⟩
  · exact (((((Boxed.new w t0 v0).alloc _).alloc _).alloc _).alloc _).alloc _
  · have := Boxed.new (w.alloc (.cells #[v0] t0)) t1 v1
    rw [World.size_alloc] at this
    exact (((this.alloc _).alloc _).alloc _).alloc _
  · have := Boxed.new ((w.alloc (.cells #[v0] t0)).alloc (.cells #[v1] t1)) t2 v2
    rw [World.size_alloc, World.size_alloc] at this
    exact ((this.alloc _).alloc _).alloc _
  · have := Boxed.new (((w.alloc (.cells #[v0] t0)).alloc (.cells #[v1] t1)).alloc (.cells #[v2] t2)) t3 v3
    rw [World.size_alloc, World.size_alloc, World.size_alloc] at this
    exact (this.alloc _).alloc _
  · have := Boxed.new ((((w.alloc (.cells #[v0] t0)).alloc (.cells #[v1] t1)).alloc (.cells #[v2] t2)).alloc (.cells #[v3] t3)) t4 v4
    rw [World.size_alloc, World.size_alloc, World.size_alloc, World.size_alloc] at this
    exact this.alloc _
  · have := Boxed.new (((((w.alloc (.cells #[v0] t0)).alloc (.cells #[v1] t1)).alloc (.cells #[v2] t2)).alloc (.cells #[v3] t3)).alloc (.cells #[v4] t4)) t5 v5
    rw [World.size_alloc, World.size_alloc, World.size_alloc, World.size_alloc, World.size_alloc] at this
    exact this
  · exact ((((((Below.refl _ w).alloc (Nat.le_refl _) _).alloc (by simp) _).alloc (by simp; omega) _).alloc (by simp; omega) _).alloc (by simp; omega) _).alloc (by simp; omega) _
theorem box_other {W : World} {B C : Nat} {t : TypeId} {v u : Value} (h : Boxed W B t v) (hne : B ≠ C) : Boxed (W.setCell ⟨C, 0, none⟩ u) B t v := (Below.heap_setCell _ _ _ _ hne).trans h
/-- Column's, Sign's boxes: the two answers, the sum, the signs. -/
def Four (B : Nat) (a b c d : Int) (W : World) : Prop := Boxed W (B + 1) 3 (.int .i64 a) ∧ Boxed W (B + 1 + 1) 38 (.int .i64 b) ∧ Boxed W (B + 1 + 1 + 1) 3 (.int .i64 c) ∧ Boxed W (B + 1 + 1 + 1 + 1) 3 (.int .i64 d)
theorem Four.kept {B m b' : Nat} {a b c d : Int} {A W : World} (h : Four B a b c d A) (hk : Keeps m b' A W) (hm : B + 5 ≤ m) : Four B a b c d W :=
  ⟨(hk.same _ h.1.lt (.inl (by omega))).trans h.1, (hk.same _ h.2.1.lt (.inl (by omega))).trans h.2.1, (hk.same _ h.2.2.1.lt (.inl (by omega))).trans h.2.2.1, (hk.same _ h.2.2.2.lt (.inl (by omega))).trans h.2.2.2⟩
theorem Four.set0 {B : Nat} {a b c d : Int} {W : World} (h : Four B a b c d W) (v : Int) : Four B v b c d (W.setCell ⟨B + 1, 0, none⟩ (.int .i64 v)) := ⟨h.1.set _, box_other h.2.1 (by omega), box_other h.2.2.1 (by omega), box_other h.2.2.2 (by omega)⟩
theorem Four.set1 {B : Nat} {a b c d : Int} {W : World} (h : Four B a b c d W) (v : Int) : Four B a v c d (W.setCell ⟨B + 1 + 1, 0, none⟩ (.int .i64 v)) := ⟨box_other h.1 (by omega), h.2.1.set _, box_other h.2.2.1 (by omega), box_other h.2.2.2 (by omega)⟩
theorem Four.set2 {B : Nat} {a b c d : Int} {W : World} (h : Four B a b c d W) (v : Int) : Four B a b v d (W.setCell ⟨B + 1 + 1 + 1, 0, none⟩ (.int .i64 v)) := ⟨box_other h.1 (by omega), box_other h.2.1 (by omega), h.2.2.1.set _, box_other h.2.2.2 (by omega)⟩
theorem Four.set3 {B : Nat} {a b c d : Int} {W : World} (h : Four B a b c d W) (v : Int) : Four B a b c v (W.setCell ⟨B + 1 + 1 + 1 + 1, 0, none⟩ (.int .i64 v)) := ⟨box_other h.1 (by omega), box_other h.2.1 (by omega), box_other h.2.2.1 (by omega), h.2.2.2.set _⟩
def inFour (B k : Nat) : Prop := k = B + 1 ∨ k = B + 1 + 1 ∨ k = B + 1 + 1 + 1 ∨ k = B + 1 + 1 + 1 + 1
theorem inFour_1 (B : Nat) : inFour B (B + 1) := .inl rfl
theorem inFour_2 (B : Nat) : inFour B (B + 1 + 1) := .inr (.inl rfl)
theorem inFour_3 (B : Nat) : inFour B (B + 1 + 1 + 1) := .inr (.inr (.inl rfl))
theorem inFour_4 (B : Nat) : inFour B (B + 1 + 1 + 1 + 1) := .inr (.inr (.inr rfl))
theorem colF_pre (sign : Int) (pre : List Cl) (x : Cl) (h : ∀ r, colF sign (pre ++ r) 0 0 = colF sign r (cellsOf pre) (lastTo pre 0)) (hx : ¬ sign < x.to) : ∀ r, colF sign ((pre ++ [x]) ++ r) 0 0 = colF sign r (cellsOf (pre ++ [x])) (lastTo (pre ++ [x]) 0) := fun r => by
  rw [List.append_assoc, h, cellsOf_snoc, lastTo_snoc]
  simp only [List.cons_append, List.nil_append, colF, if_neg hx]

set_option maxRecDepth 100000 in
set_option maxHeartbeats 2000000 in
theorem column_any (s : ByteArray) (hs : s.size ≤ 140737488355328) (sign : Int) (N : Nat) (w : World) (hT : Tabs N w) :
    Calls Tryd.prog 19 #[.string s, .int .i64 sign] w fun e w' => e = .returned (.tuple #[.int .i64 (columnR s sign).1, .int .i64 (columnR s sign).2]) ∧ Below w.heap.size w w' := by
  refine (callsIn_wide (n := 9)).1 ?_
  by_cases hneg : sign < 0
  · have hR : columnR s sign = (0, 1) := if_pos hneg
    rw [hR]
    refine callsIn_of_wp_marks Tryd.func19 rfl trivial ?_ rfl
    simp only [Tryd.ntmps19, List.size_toArray, List.length_cons, List.length_nil, Nat.reduceAdd, Nat.reduceSub, Array.replicate_succ, Array.replicate_zero, List.push_toArray, List.append_toArray, List.nil_append, List.cons_append]
    gi_wp2
    refine ⟨.tuple #[.int .i64 0, .int .i64 1], by simp [results, Tryd.f19, go_sem], rfl, ?_⟩
    exact (((Below.refl _ w).alloc (Nat.le_refl _) _).alloc (by simp) _).alloc (by simp; omega) _
  · have hR : columnR s sign = colF sign (clusters s) 0 0 := if_neg hneg
    have HR := hideC hR
    clear hR
    generalize columnR s sign = res at *
    refine callsIn_of_wp_marks Tryd.func19 rfl trivial ?_ rfl
    simp only [Tryd.ntmps19, List.size_toArray, List.length_cons, List.length_nil, Nat.reduceAdd, Nat.reduceSub, Array.replicate_succ, Array.replicate_zero, List.push_toArray, List.append_toArray, List.nil_append, List.cons_append]
    gi_wp2_with (refine ⟨trivial, ?_⟩; gi_at_call 25; refine (callsIn_wide.2 (clusters_mk _ _)).mono ?_; rintro e w' ⟨rfl, rfl⟩)
    obtain ⟨V, hV, ⟨b0, b1, b2, b3, b4, b5⟩, hB, hz1, hz2⟩ := six w 3 3 38 3 3 9 (.int .i64 sign) (.int .i64 0) (.int .i64 0) (.int .i64 0) (.int .i64 0) (.string s)
    rw [hV]
    clear hV
    have hN := hT.room
    refine rangeFunc_box (α := Cl) (by omega) (gf := 33) (lb := #[.pointer (some ⟨w.heap.size + 1 + 1 + 1 + 1 + 1, 0, none⟩)]) rfl (enters_of Tryd.func33 (by kernel_rfl) rfl)
      (clus_seq (9 - 1) (w.heap.size + 1 + 1 + 1 + 1 + 1) N (by omega) s hs V (by omega) b5.cell (hT.below hB)) (fun _ => rfl)
      (inFour w.heap.size) (fun k e => by unfold inFour at e; exact ⟨by omega, by omega, by omega⟩)
      (fun pre W => Four w.heap.size 0 0 (cellsOf pre) (lastTo pre 0) W ∧ ∀ r, colF sign (pre ++ r) 0 0 = colF sign r (cellsOf pre) (lastTo pre 0))
      (fun c pre W => c = .ret ∧ ∃ a b, (∃ x y, Four w.heap.size a b x y W) ∧ ∀ r, colF sign (pre ++ r) 0 0 = (a, b))
      (fun pre A B h hk => ⟨h.1.kept hk (by omega), h.2⟩) (fun c pre A B h hk => by obtain ⟨h0, a, b, ⟨x, y, h1⟩, h2⟩ := h; exact ⟨h0, a, b, ⟨x, y, h1.kept hk (by omega)⟩, h2⟩) ⟨⟨b1, b2, b3, b4⟩, fun r => rfl⟩ ?round ?done ?stop
    case round =>
      rintro l pre x W K hl hlW hhi hlh hBW hip hpx hK
      have hWz := hBW.size
      obtain ⟨⟨p1, p2⟩, p3, p4⟩ := front_bd hpx
      simp only [Cl.val]
      gi_wp2
      refine hK _ _ ((Below.refl _ W).alloc (Nat.le_refl _) _) (fun W2 hbo _ hB2 hi2 => ?_)
      have hx : ClAt W2 W.heap.size x := (hbo.same W.heap.size (by simp) (by omega)).trans (World.alloc_heap_new W _)
      have HP := hideC hi2.2
      have hF := hi2.1
      have m0 : Boxed W2 w.heap.size 3 (.int .i64 sign) := boxed_but b0 hB2 (by unfold inFour; omega)
      have xne : ∀ k, inFour w.heap.size k → W.heap.size ≠ k := fun k e => by unfold inFour at e; omega
      obtain ⟨x0, x1, x2, x3, x4⟩ := hx.row
      have k1 := hF.1.cell
      have k2 := hF.2.1.cell
      have k3 := hF.2.2.1.cell
      have k4 := hF.2.2.2.cell
      have f1 := hF.1.frozen
      have f2 := hF.2.1.frozen
      have f3 := hF.2.2.1.frozen
      have f4 := hF.2.2.2.frozen
      have k0 := m0.cell
      have ne : ¬ W.heap.size = w.heap.size + 1 + 1 + 1 + 1 := by omega
      clear hpx hT hbo hip hi2
      have stop : sign < x.to → ∀ r, colF sign ((pre ++ [x]) ++ r) 0 0 = (cellsOf pre, 0) := fun hc r => by
        rw [List.append_assoc, HP.out]
        simp only [List.cons_append, List.nil_append, colF, if_pos hc]
      have HS := hideC stop
      have HQ := hideC (colF_pre sign pre x HP.out)
      clear stop
      by_cases hc : sign < x.to
      · gi_wp2
        refine ⟨?_, rfl, cellsOf pre, 0, ⟨_, _, ((hF.set3 x.to).set0 (cellsOf pre)).set1 0⟩, HS.out hc⟩
        exact (((But.refl (fun k => inFour w.heap.size k ∨ V.heap.size + 2 + 2 ≤ k) W2).setCell (p := ⟨w.heap.size + 1 + 1 + 1 + 1, 0, none⟩) (.inl (inFour_4 _)) _).setCell (p := ⟨w.heap.size + 1, 0, none⟩) (.inl (inFour_1 _)) _).setCell (p := ⟨w.heap.size + 1 + 1, 0, none⟩) (.inl (inFour_2 _)) _
      · gi_wp2
        refine ⟨?_, ?_, HQ.out (by omega)⟩
        · exact ((But.refl (fun k => inFour w.heap.size k ∨ V.heap.size + 2 + 2 ≤ k) W2).setCell (p := ⟨w.heap.size + 1 + 1 + 1 + 1, 0, none⟩) (.inl (inFour_4 _)) _).setCell (p := ⟨w.heap.size + 1 + 1 + 1, 0, none⟩) (.inl (inFour_3 _)) _
        · rw [cellsOf_snoc, lastTo_snoc]
          exact (hF.set3 x.to).set2 (cellsOf pre + x.cells)
    case done =>
      rintro D W hD ⟨hF, hP⟩ hBW hK
      have hP0 := hP []
      rw [List.append_nil] at hP0
      have HP := hideC (HR.out.trans hP0)
      clear hP hP0
      have hDW : D < W.heap.size := (Array.getElem?_eq_some_iff.1 hK).1
      have m0 : Boxed W w.heap.size 3 (.int .i64 sign) := boxed_but b0 hBW (by unfold inFour; omega)
      have hBw : Below w.heap.size w W := hB.trans (hBW.below (by omega) (fun k e => by unfold inFour at e; omega))
      have k1 := hF.1.cell
      have k2 := hF.2.1.cell
      have k3 := hF.2.2.1.cell
      have k4 := hF.2.2.2.cell
      have f1 := hF.1.frozen
      have f2 := hF.2.1.frozen
      have k0 := m0.cell
      have fin : ∀ a b : Int, Four w.heap.size a b (cellsOf (clusters s)) (lastTo (clusters s) 0) ((W.setCell ⟨w.heap.size + 1, 0, none⟩ (.int .i64 a)).setCell ⟨w.heap.size + 1 + 1, 0, none⟩ (.int .i64 b)) ∧
          ((W.setCell ⟨w.heap.size + 1, 0, none⟩ (.int .i64 a)).setCell ⟨w.heap.size + 1 + 1, 0, none⟩ (.int .i64 b)).heap[D]? = some (.deferred (some [])) ∧ Below w.heap.size w ((W.setCell ⟨w.heap.size + 1, 0, none⟩ (.int .i64 a)).setCell ⟨w.heap.size + 1 + 1, 0, none⟩ (.int .i64 b)) := fun a b =>
        ⟨(hF.set0 a).set1 b, (Below.heap_setCell _ _ _ _ (by simp; omega)).trans ((Below.heap_setCell _ _ _ _ (by simp; omega)).trans hK), (hBw.setCell (p := ⟨w.heap.size + 1, 0, none⟩) (by simp) _).setCell (p := ⟨w.heap.size + 1 + 1, 0, none⟩) (by simp; omega) _⟩
      have FIN := hideC fin
      clear fin
      by_cases hc : lastTo (clusters s) 0 < sign
      · have hres : res = (0, 1) := by rw [HP.out]; simp only [colF, if_pos hc]
        subst hres
        gi_wp2
        obtain ⟨g1, g2, g3⟩ := FIN.out 0 1
        refine ⟨by simp, .inl ⟨_, _, rfl, run_takeDeferred g2, ?_⟩⟩
        have z1 := (World.cell?_of_block (World.putObj_heap_other (o := .deferred none) (show w.heap.size + 1 ≠ D by omega))).trans g1.1.cell
        have z2 := (World.cell?_of_block (World.putObj_heap_other (o := .deferred none) (show w.heap.size + 1 + 1 ≠ D by omega))).trans g1.2.1.cell
        refine ⟨.tuple #[.int .i64 0, .int .i64 1], by simp [results, Tryd.f19, go_sem, z1, z2], rfl, g3.trans ((putObj_belowL _ _ _).mono (by omega))⟩
      · have hres : res = (cellsOf (clusters s), 0) := by rw [HP.out]; simp only [colF, if_neg hc]
        subst hres
        gi_wp2
        obtain ⟨g1, g2, g3⟩ := FIN.out (cellsOf (clusters s)) 0
        refine ⟨by simp, .inl ⟨_, _, rfl, run_takeDeferred g2, ?_⟩⟩
        have z1 := (World.cell?_of_block (World.putObj_heap_other (o := .deferred none) (show w.heap.size + 1 ≠ D by omega))).trans g1.1.cell
        have z2 := (World.cell?_of_block (World.putObj_heap_other (o := .deferred none) (show w.heap.size + 1 + 1 ≠ D by omega))).trans g1.2.1.cell
        refine ⟨.tuple #[.int .i64 (cellsOf (clusters s)), .int .i64 0], by simp [results, Tryd.f19, go_sem, z1, z2], rfl, g3.trans ((putObj_belowL _ _ _).mono (by omega))⟩
    case stop =>
      rintro D c pre W hD hpre ⟨rfl, a, b, ⟨x, y, hF⟩, hP⟩ hBW hK
      obtain ⟨r, hr⟩ := hpre
      have hP0 := hP r
      rw [hr] at hP0
      have hres : res = (a, b) := HR.out.trans hP0
      subst hres
      have hBw : Below w.heap.size w W := hB.trans (hBW.below (by omega) (fun k e => by unfold inFour at e; omega))
      gi_wp2
      refine ⟨by simp, .inl ⟨_, _, rfl, run_takeDeferred hK, ?_⟩⟩
      have z1 := (World.cell?_of_block (World.putObj_heap_other (o := .deferred none) (show w.heap.size + 1 ≠ D by omega))).trans hF.1.cell
      have z2 := (World.cell?_of_block (World.putObj_heap_other (o := .deferred none) (show w.heap.size + 1 + 1 ≠ D by omega))).trans hF.2.1.cell
      refine ⟨.tuple #[.int .i64 a, .int .i64 b], by simp [results, Tryd.f19, go_sem, z1, z2], rfl, hBw.trans ((putObj_belowL _ _ _).mono (by omega))⟩

end Go.Proofs.YtfmofjjcgjogjaaDoor
