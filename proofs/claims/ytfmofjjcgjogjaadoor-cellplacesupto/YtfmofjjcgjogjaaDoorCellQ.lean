/- The contract of cell.Sign. -/
import Derived.Test.YtfmofjjcgjogjaaDoorCellP
namespace Go.Proofs.YtfmofjjcgjogjaaDoor
open Go.RowKit Go.Shelf
attribute [local go_sem] Oper.semAt_some

theorem sgF_pre (column : Int) (pre : List Cl) (x : Cl) (h : ∀ r, sgF column (pre ++ r) 0 0 = sgF column r (cellsOf pre) (lastTo pre 0)) (hx : ¬ column < cellsOf pre + x.cells) : ∀ r, sgF column ((pre ++ [x]) ++ r) 0 0 = sgF column r (cellsOf (pre ++ [x])) (lastTo (pre ++ [x]) 0) := fun r => by
  rw [List.append_assoc, h, cellsOf_snoc, lastTo_snoc]
  simp only [List.cons_append, List.nil_append, sgF, if_neg hx]

set_option maxRecDepth 100000 in
set_option maxHeartbeats 2000000 in
theorem sign_any (s : ByteArray) (hs : s.size ≤ 140737488355328) (column : Int) (N : Nat) (w : World) (hT : Tabs N w) :
    Calls Tryd.prog 21 #[.string s, .int .i64 column] w fun e w' => e = .returned (.tuple #[.int .i64 (signR s column).1, .int .i64 (signR s column).2]) ∧ Below w.heap.size w w' := by
  refine (callsIn_wide (n := 9)).1 ?_
  by_cases hneg : column < 0
  · have hR : signR s column = (0, 1) := if_pos hneg
    rw [hR]
    refine callsIn_of_wp_marks Tryd.func21 rfl trivial ?_ rfl
    simp only [Tryd.ntmps21, List.size_toArray, List.length_cons, List.length_nil, Nat.reduceAdd, Nat.reduceSub, Array.replicate_succ, Array.replicate_zero, List.push_toArray, List.append_toArray, List.nil_append, List.cons_append]
    gi_wp2
    refine ⟨.tuple #[.int .i64 0, .int .i64 1], by simp [results, Tryd.f21, go_sem], rfl, ?_⟩
    exact (((Below.refl _ w).alloc (Nat.le_refl _) _).alloc (by simp) _).alloc (by simp; omega) _
  · have hR : signR s column = sgF column (clusters s) 0 0 := if_neg hneg
    have HR := hideC hR
    clear hR
    generalize signR s column = res at *
    refine callsIn_of_wp_marks Tryd.func21 rfl trivial ?_ rfl
    simp only [Tryd.ntmps21, List.size_toArray, List.length_cons, List.length_nil, Nat.reduceAdd, Nat.reduceSub, Array.replicate_succ, Array.replicate_zero, List.push_toArray, List.append_toArray, List.nil_append, List.cons_append]
    gi_wp2_with (refine ⟨trivial, ?_⟩; gi_at_call 25; refine (callsIn_wide.2 (clusters_mk _ _)).mono ?_; rintro e w' ⟨rfl, rfl⟩)
    obtain ⟨V, hV, ⟨b0, b1, b2, b3, b4, b5⟩, hB, hz1, hz2⟩ := six w 3 3 38 3 3 9 (.int .i64 column) (.int .i64 0) (.int .i64 0) (.int .i64 0) (.int .i64 0) (.string s)
    rw [hV]
    clear hV
    have hN := hT.room
    refine rangeFunc_box (α := Cl) (by omega) (gf := 33) (lb := #[.pointer (some ⟨w.heap.size + 1 + 1 + 1 + 1 + 1, 0, none⟩)]) rfl (enters_of Tryd.func33 (by kernel_rfl) rfl)
      (clus_seq (9 - 1) (w.heap.size + 1 + 1 + 1 + 1 + 1) N (by omega) s hs V (by omega) b5.cell (hT.below hB)) (fun _ => rfl)
      (inFour w.heap.size) (fun k e => by unfold inFour at e; exact ⟨by omega, by omega, by omega⟩)
      (fun pre W => Four w.heap.size 0 0 (cellsOf pre) (lastTo pre 0) W ∧ ∀ r, sgF column (pre ++ r) 0 0 = sgF column r (cellsOf pre) (lastTo pre 0))
      (fun c pre W => c = .ret ∧ ∃ a b, (∃ x y, Four w.heap.size a b x y W) ∧ ∀ r, sgF column (pre ++ r) 0 0 = (a, b))
      (fun pre A B h hk => ⟨h.1.kept hk (by omega), h.2⟩) (fun c pre A B h hk => by obtain ⟨h0, a, b, ⟨x, y, h1⟩, h2⟩ := h; exact ⟨h0, a, b, ⟨x, y, h1.kept hk (by omega)⟩, h2⟩) ⟨⟨b1, b2, b3, b4⟩, fun r => rfl⟩ ?round ?done ?stop
    case round =>
      rintro l pre x W K hl hlW hhi hlh hBW hip hpx hK
      have hWz := hBW.size
      obtain ⟨⟨p1, p2⟩, p3, p4⟩ := front_bd hpx
      simp only [Cl.val]
      gi_wp2
      refine hK _ _ ((Below.refl _ W).alloc (Nat.le_refl _) _) (fun W2 hbo _ hB2 hi2 => ?_)
      have hx : ClAt W2 W.heap.size x := (hbo.same W.heap.size (by simp) (by omega)).trans (World.alloc_heap_new W _)
      have HP := hideC hi2.2
      have hF := hi2.1
      have m0 : Boxed W2 w.heap.size 3 (.int .i64 column) := boxed_but b0 hB2 (by unfold inFour; omega)
      have xne : ∀ k, inFour w.heap.size k → W.heap.size ≠ k := fun k e => by unfold inFour at e; omega
      obtain ⟨x0, x1, x2, x3, x4⟩ := hx.row
      have k1 := hF.1.cell
      have k2 := hF.2.1.cell
      have k3 := hF.2.2.1.cell
      have k4 := hF.2.2.2.cell
      have f1 := hF.1.frozen
      have f2 := hF.2.1.frozen
      have f3 := hF.2.2.1.frozen
      have f4 := hF.2.2.2.frozen
      have k0 := m0.cell
      have ne : ¬ W.heap.size = w.heap.size + 1 + 1 + 1 := by omega
      clear hpx hT hbo hip hi2
      have stop : column < cellsOf pre + x.cells → ∀ r, sgF column ((pre ++ [x]) ++ r) 0 0 = (x.fr, 0) := fun hc r => by
        rw [List.append_assoc, HP.out]
        simp only [List.cons_append, List.nil_append, sgF, if_pos hc]
      have HS := hideC stop
      have HQ := hideC (sgF_pre column pre x HP.out)
      clear stop
      by_cases hc : column < cellsOf pre + x.cells
      · gi_wp2
        refine ⟨?_, rfl, x.fr, 0, ⟨_, _, ((hF.set2 (cellsOf pre + x.cells)).set0 x.fr).set1 0⟩, HS.out hc⟩
        exact (((But.refl (fun k => inFour w.heap.size k ∨ V.heap.size + 2 + 2 ≤ k) W2).setCell (p := ⟨w.heap.size + 1 + 1 + 1, 0, none⟩) (.inl (inFour_3 _)) _).setCell (p := ⟨w.heap.size + 1, 0, none⟩) (.inl (inFour_1 _)) _).setCell (p := ⟨w.heap.size + 1 + 1, 0, none⟩) (.inl (inFour_2 _)) _
      · gi_wp2
        refine ⟨?_, ?_, HQ.out (by omega)⟩
        · exact ((But.refl (fun k => inFour w.heap.size k ∨ V.heap.size + 2 + 2 ≤ k) W2).setCell (p := ⟨w.heap.size + 1 + 1 + 1, 0, none⟩) (.inl (inFour_3 _)) _).setCell (p := ⟨w.heap.size + 1 + 1 + 1 + 1, 0, none⟩) (.inl (inFour_4 _)) _
        · rw [cellsOf_snoc, lastTo_snoc]
          exact (hF.set2 (cellsOf pre + x.cells)).set3 x.to
    case done =>
      rintro D W hD ⟨hF, hP⟩ hBW hK
      have hP0 := hP []
      rw [List.append_nil] at hP0
      have HP := hideC (HR.out.trans hP0)
      clear hP hP0
      have hDW : D < W.heap.size := (Array.getElem?_eq_some_iff.1 hK).1
      have m0 : Boxed W w.heap.size 3 (.int .i64 column) := boxed_but b0 hBW (by unfold inFour; omega)
      have hBw : Below w.heap.size w W := hB.trans (hBW.below (by omega) (fun k e => by unfold inFour at e; omega))
      have k1 := hF.1.cell
      have k2 := hF.2.1.cell
      have k3 := hF.2.2.1.cell
      have k4 := hF.2.2.2.cell
      have f1 := hF.1.frozen
      have f2 := hF.2.1.frozen
      have k0 := m0.cell
      have fin : ∀ a b : Int, Four w.heap.size a b (cellsOf (clusters s)) (lastTo (clusters s) 0) ((W.setCell ⟨w.heap.size + 1, 0, none⟩ (.int .i64 a)).setCell ⟨w.heap.size + 1 + 1, 0, none⟩ (.int .i64 b)) ∧
          ((W.setCell ⟨w.heap.size + 1, 0, none⟩ (.int .i64 a)).setCell ⟨w.heap.size + 1 + 1, 0, none⟩ (.int .i64 b)).heap[D]? = some (.deferred (some [])) ∧ Below w.heap.size w ((W.setCell ⟨w.heap.size + 1, 0, none⟩ (.int .i64 a)).setCell ⟨w.heap.size + 1 + 1, 0, none⟩ (.int .i64 b)) := fun a b =>
        ⟨(hF.set0 a).set1 b, (Below.heap_setCell _ _ _ _ (by simp; omega)).trans ((Below.heap_setCell _ _ _ _ (by simp; omega)).trans hK), (hBw.setCell (p := ⟨w.heap.size + 1, 0, none⟩) (by simp) _).setCell (p := ⟨w.heap.size + 1 + 1, 0, none⟩) (by simp; omega) _⟩
      have FIN := hideC fin
      clear fin
      by_cases hc : cellsOf (clusters s) < column
      · have hres : res = (0, 1) := by rw [HP.out]; simp only [sgF, if_pos hc]
        subst hres
        gi_wp2
        obtain ⟨g1, g2, g3⟩ := FIN.out 0 1
        refine ⟨by simp, .inl ⟨_, _, rfl, run_takeDeferred g2, ?_⟩⟩
        have z1 := (World.cell?_of_block (World.putObj_heap_other (o := .deferred none) (show w.heap.size + 1 ≠ D by omega))).trans g1.1.cell
        have z2 := (World.cell?_of_block (World.putObj_heap_other (o := .deferred none) (show w.heap.size + 1 + 1 ≠ D by omega))).trans g1.2.1.cell
        refine ⟨.tuple #[.int .i64 0, .int .i64 1], by simp [results, Tryd.f21, go_sem, z1, z2], rfl, g3.trans ((putObj_belowL _ _ _).mono (by omega))⟩
      · have hres : res = (lastTo (clusters s) 0, 0) := by rw [HP.out]; simp only [sgF, if_neg hc]
        subst hres
        gi_wp2
        obtain ⟨g1, g2, g3⟩ := FIN.out (lastTo (clusters s) 0) 0
        refine ⟨by simp, .inl ⟨_, _, rfl, run_takeDeferred g2, ?_⟩⟩
        have z1 := (World.cell?_of_block (World.putObj_heap_other (o := .deferred none) (show w.heap.size + 1 ≠ D by omega))).trans g1.1.cell
        have z2 := (World.cell?_of_block (World.putObj_heap_other (o := .deferred none) (show w.heap.size + 1 + 1 ≠ D by omega))).trans g1.2.1.cell
        refine ⟨.tuple #[.int .i64 (lastTo (clusters s) 0), .int .i64 0], by simp [results, Tryd.f21, go_sem, z1, z2], rfl, g3.trans ((putObj_belowL _ _ _).mono (by omega))⟩
    case stop =>
      rintro D c pre W hD hpre ⟨rfl, a, b, ⟨x, y, hF⟩, hP⟩ hBW hK
      obtain ⟨r, hr⟩ := hpre
      have hP0 := hP r
      rw [hr] at hP0
      have hres : res = (a, b) := HR.out.trans hP0
      subst hres
      have hBw : Below w.heap.size w W := hB.trans (hBW.below (by omega) (fun k e => by unfold inFour at e; omega))
      gi_wp2
      refine ⟨by simp, .inl ⟨_, _, rfl, run_takeDeferred hK, ?_⟩⟩
      have z1 := (World.cell?_of_block (World.putObj_heap_other (o := .deferred none) (show w.heap.size + 1 ≠ D by omega))).trans hF.1.cell
      have z2 := (World.cell?_of_block (World.putObj_heap_other (o := .deferred none) (show w.heap.size + 1 + 1 ≠ D by omega))).trans hF.2.1.cell
      refine ⟨.tuple #[.int .i64 a, .int .i64 b], by simp [results, Tryd.f21, go_sem, z1, z2], rfl, hBw.trans ((putObj_belowL _ _ _).mono (by omega))⟩

end Go.Proofs.YtfmofjjcgjogjaaDoor
