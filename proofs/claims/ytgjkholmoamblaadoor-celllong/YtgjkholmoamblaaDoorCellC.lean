/- The contract of cell.Cut. -/
import Derived.Deep.RegionHeld
import Derived.Test.YtgjkholmoamblaaDoorCellClone
import Derived.Test.YtgjkholmoamblaaDoorCellM3
namespace Go.Proofs.YtgjkholmoamblaaDoor
open Go.RowKit Go.Shelf
attribute [local go_sem] Oper.semAt_some

/-- The clusters of the front that has so many cells at most. -/
def cutP (cells : Int) : Int → List Cl → List Cl
  | _, [] => []
  | sum, c :: r => if cells < sum + c.cells then [] else c :: cutP cells (sum + c.cells) r
/-- Where Cut cuts. -/
def cutI (s : ByteArray) (cells : Int) : Int := lensOf (cutP cells 0 (clusters s))
theorem cutP_pre (cells : Int) : ∀ (l : List Cl) (sum : Int), cutP cells sum l <+: l
  | [], _ => List.prefix_refl _
  | c :: r, sum => by
    unfold cutP
    split
    · exact List.nil_prefix
    · exact List.cons_prefix_cons.2 ⟨rfl, cutP_pre cells r _⟩
theorem cutI_bd (s : ByteArray) (cells : Int) : 0 ≤ cutI s cells ∧ cutI s cells ≤ s.size := by
  obtain ⟨r, hr⟩ := cutP_pre cells (clusters s) 0
  obtain ⟨h1, h2, _, _⟩ := lens_le hr
  exact ⟨h1, h2⟩
def cutR (s : ByteArray) (cells : Int) : Value :=
  if cells < 0 then .tuple #[.string ⟨#[]⟩, .string ⟨#[]⟩, .int .i64 1] else .tuple #[.string (s.extract 0 (cutI s cells).toNat), .string (s.extract (cutI s cells).toNat s.size), .int .i64 0]
def inTwo (B k : Nat) : Prop := k = B + 1 ∨ k = B + 1 + 1
theorem four (w : World) (t0 t1 t2 t3 : TypeId) (v0 v1 v2 v3 : Value) : ∃ V, (((w.alloc (.cells #[v0] t0)).alloc (.cells #[v1] t1)).alloc (.cells #[v2] t2)).alloc (.cells #[v3] t3) = V ∧
    (Boxed V w.heap.size t0 v0 ∧ Boxed V (w.heap.size + 1) t1 v1 ∧ Boxed V (w.heap.size + 1 + 1) t2 v2 ∧ Boxed V (w.heap.size + 1 + 1 + 1) t3 v3) ∧
    Below w.heap.size w V ∧ w.heap.size + 4 ≤ V.heap.size ∧ V.heap.size ≤ w.heap.size + 4 := by
  refine ⟨_, rfl, ⟨?_, ?_, ?_, ?_⟩, ?_, by simp, by simp⟩
  · exact (((Boxed.new w t0 v0).alloc _).alloc _).alloc _
  · have := Boxed.new (w.alloc (.cells #[v0] t0)) t1 v1
    rw [World.size_alloc] at this
    exact (this.alloc _).alloc _
  · have := Boxed.new ((w.alloc (.cells #[v0] t0)).alloc (.cells #[v1] t1)) t2 v2
    rw [World.size_alloc, World.size_alloc] at this
    exact this.alloc _
  · have := Boxed.new (((w.alloc (.cells #[v0] t0)).alloc (.cells #[v1] t1)).alloc (.cells #[v2] t2)) t3 v3
    rw [World.size_alloc, World.size_alloc, World.size_alloc] at this
    exact this
  · exact ((((Below.refl _ w).alloc (Nat.le_refl _) _).alloc (by simp) _).alloc (by simp; omega) _).alloc (by simp; omega) _
theorem box_otherC {W : World} {B C : Nat} {t : TypeId} {v u : Value} (h : Boxed W B t v) (hne : B ≠ C) : Boxed (W.setCell ⟨C, 0, none⟩ u) B t v := (Below.heap_setCell _ _ _ _ hne).trans h

set_option maxRecDepth 100000 in
set_option maxHeartbeats 2000000 in
theorem cut_any (s : ByteArray) (hs : s.size ≤ 140737488355328) (cells : Int) (N : Nat) (w : World) (hT : Tabs N w) :
    Calls Tryd.prog 20 #[.string s, .int .i64 cells] w fun e w' => e = .returned (cutR s cells) ∧ Below w.heap.size w w' := by
  refine (callsIn_wide (n := 9)).1 ?_
  by_cases hneg : cells < 0
  · have hR : cutR s cells = _ := if_pos hneg
    rw [hR]
    refine callsIn_of_wp_marks Tryd.func20 rfl trivial ?_ rfl
    simp only [Tryd.ntmps20, List.size_toArray, List.length_cons, List.length_nil, Nat.reduceAdd, Nat.reduceSub, Array.replicate_succ, Array.replicate_zero, List.push_toArray, List.append_toArray, List.nil_append, List.cons_append]
    gi_wp2
    refine ⟨.tuple #[.string ⟨#[]⟩, .string ⟨#[]⟩, .int .i64 1], by simp [results, Tryd.f20, go_sem], rfl, ?_⟩
    exact (Below.refl _ w).alloc (Nat.le_refl _) _
  · have hbd := cutI_bd s cells
    obtain ⟨E, hEq⟩ : ∃ E : Nat, cutI s cells = E := ⟨(cutI s cells).toNat, by omega⟩
    have hR : cutR s cells = .tuple #[.string (s.extract 0 E), .string (s.extract E s.size), .int .i64 0] := by
      unfold cutR
      rw [if_neg hneg, hEq]
      rfl
    have hEs : E ≤ s.size := by omega
    have HR := hideC hR
    have HQ := hideC hEq
    clear hR hEq hbd
    generalize cutR s cells = res at *
    refine callsIn_of_wp_marks Tryd.func20 rfl trivial ?_ rfl
    simp only [Tryd.ntmps20, List.size_toArray, List.length_cons, List.length_nil, Nat.reduceAdd, Nat.reduceSub, Array.replicate_succ, Array.replicate_zero, List.push_toArray, List.append_toArray, List.nil_append, List.cons_append]
    gi_wp2_with (refine ⟨trivial, ?_⟩; gi_at_call 23; refine (callsIn_wide.2 (clusters_mk _ _)).mono ?_; rintro e w' ⟨rfl, rfl⟩)
    obtain ⟨V, hV, ⟨b0, b1, b2, b3⟩, hB, hz1, hz2⟩ := four w 3 3 3 9 (.int .i64 cells) (.int .i64 0) (.int .i64 0) (.string s)
    rw [hV]
    clear hV
    have hN := hT.room
    refine rangeFunc_box (α := Cl) (by omega) (gf := 32) (lb := #[.pointer (some ⟨w.heap.size + 1 + 1 + 1, 0, none⟩)]) rfl (enters_of Tryd.func32 (by kernel_rfl) rfl)
      (clus_seq (9 - 1) (w.heap.size + 1 + 1 + 1) N (by omega) s hs V (by omega) b3.cell (hT.below hB)) (fun _ => rfl)
      (inTwo w.heap.size) (fun k e => by unfold inTwo at e; exact ⟨by omega, by omega, by omega⟩)
      (fun pre W => (Boxed W (w.heap.size + 1) 3 (.int .i64 (lensOf pre)) ∧ Boxed W (w.heap.size + 1 + 1) 3 (.int .i64 (cellsOf pre))) ∧ ∀ r, cutP cells 0 (pre ++ r) = pre ++ cutP cells (cellsOf pre) r)
      (fun c pre W => c = .exit 0 ∧ ∃ x, Boxed W (w.heap.size + 1) 3 (.int .i64 x) ∧ ∀ r, lensOf (cutP cells 0 (pre ++ r)) = x)
      (fun pre A B h hk => ⟨⟨(hk.same _ h.1.1.lt (.inl (by omega))).trans h.1.1, (hk.same _ h.1.2.lt (.inl (by omega))).trans h.1.2⟩, h.2⟩)
      (fun c pre A B h hk => by obtain ⟨h0, x, h1, h2⟩ := h; exact ⟨h0, x, (hk.same _ h1.lt (.inl (by omega))).trans h1, h2⟩) ⟨⟨b1, b2⟩, fun r => rfl⟩ ?round ?done ?stop
    case round =>
      rintro l pre x W K hl hlW hhi hlh hBW hip hpx hK
      have hWz := hBW.size
      obtain ⟨⟨p1, p2⟩, p3, p4⟩ := front_bd hpx
      obtain ⟨r0, hr0⟩ := hpx
      obtain ⟨d1, d2, d3, d4, d5, d6, d7, d8⟩ := chain_at (s := s) (pre := pre) (c := x) (r := r0) (by simpa using hr0)
      obtain ⟨q1, q2, q3, q4⟩ := lens_le (s := s) (pre := pre ++ [x]) (r := r0) hr0
      rw [lensOf_snoc] at q1 q2
      have HD := hideC d1
      clear d1 d3 d4 d5 d6 d7 d8 q3 q4 hr0
      simp only [Cl.val]
      gi_wp2
      refine hK _ _ ((Below.refl _ W).alloc (Nat.le_refl _) _) (fun W2 hbo _ hB2 hi2 => ?_)
      have hx : ClAt W2 W.heap.size x := (hbo.same W.heap.size (by simp) (by omega)).trans (World.alloc_heap_new W _)
      have hP := hi2.2
      have go : ¬ cells < cellsOf pre + x.cells → ∀ r, cutP cells 0 ((pre ++ [x]) ++ r) = (pre ++ [x]) ++ cutP cells (cellsOf (pre ++ [x])) r := fun hc r => by
        rw [List.append_assoc, hP, cellsOf_snoc]
        simp only [List.cons_append, List.nil_append, cutP, if_neg hc, List.append_assoc]
      have st : cells < cellsOf pre + x.cells → ∀ r, lensOf (cutP cells 0 ((pre ++ [x]) ++ r)) = lensOf pre := fun hc r => by
        rw [List.append_assoc, hP]
        simp only [List.cons_append, List.nil_append, cutP, if_pos hc, List.append_nil]
      have GO := hideC go
      have ST := hideC st
      obtain ⟨⟨hE, hS⟩, _⟩ := hi2
      have m0 : Boxed W2 w.heap.size 3 (.int .i64 cells) := boxed_but b0 hB2 (by unfold inTwo; omega)
      obtain ⟨x0, x1, x2, x3, x4⟩ := hx.row
      have k1 := hE.cell
      have k2 := hS.cell
      have f1 := hE.frozen
      have f2 := hS.frozen
      have k0 := m0.cell
      have ne : ¬ W.heap.size = w.heap.size + 1 + 1 := by omega
      have ne1 : ¬ W.heap.size = w.heap.size + 1 := by omega
      rw [HD.out] at x0
      clear go st hP hT hbo hip
      by_cases hc : cells < cellsOf pre + x.cells
      · gi_wp2
        refine ⟨?_, rfl, lensOf pre, box_otherC hE (by omega), ST.out hc⟩
        exact (But.refl (fun k => inTwo w.heap.size k ∨ V.heap.size + 2 + 2 ≤ k) W2).setCell (p := ⟨w.heap.size + 1 + 1, 0, none⟩) (.inl (.inr rfl)) _
      · gi_wp2
        refine ⟨?_, ⟨?_, ?_⟩, GO.out (by omega)⟩
        · exact ((But.refl (fun k => inTwo w.heap.size k ∨ V.heap.size + 2 + 2 ≤ k) W2).setCell (p := ⟨w.heap.size + 1 + 1, 0, none⟩) (.inl (.inr rfl)) _).setCell (p := ⟨w.heap.size + 1, 0, none⟩) (.inl (.inl rfl)) _
        · rw [lensOf_snoc]
          exact (box_otherC hE (by omega)).set _
        · rw [cellsOf_snoc]
          exact box_otherC (hS.set _) (by omega)
    case done =>
      rintro D W hD ⟨⟨hE, hS⟩, hP⟩ hBW hK
      have hx : lensOf (clusters s) = E := by
        have := hP []
        simp only [List.append_nil, cutP] at this
        have e := HQ.out
        unfold cutI at e
        rw [this] at e
        exact e
      rw [hx] at hE
      clear hS hP hx HQ
      have e1 : (E : Int).toNat = E := rfl
      have kE := hE.cell
      have hDW : D < W.heap.size := (Array.getElem?_eq_some_iff.1 hK).1
      have hWz := hBW.size
      have hBw : Below w.heap.size w W := hB.trans (hBW.below (by omega) (fun k e => by unfold inTwo at e; omega))
      have hmx : Tryd.prog.follows .mixedOrders = true := by kernel_rfl
      have q1 : (s.extract 0 E).size ≤ 140737488355328 := by rw [ByteArray.size_extract]; omega
      have q2 : (s.extract E s.size).size ≤ 140737488355328 := by rw [ByteArray.size_extract]; omega
      have HK := hideC hK
      clear hE hs b0 b1 b2 b3
      gi_wp2_with fail
      refine wpIn_mono (Q := Exit.then (fun a' w' => a'.defers = [{ target := .collected D, args := #[] }] ∧ (a'.tmps[4]?.getD undef = .string (s.extract 0 E) ∧ a'.tmps[5]?.getD undef = .string (s.extract E s.size) ∧ a'.tmps[6]?.getD undef = .int .i64 0) ∧ Below W.heap.size W w') (fun _ _ _ => False)) ?_ ?_
      · refine wpIn_wide.2 ?_
        go_region_held (fun w' => w'.cell? ⟨w.heap.size + 1, 0, none⟩ = some (.int .i64 E)) (first | go_keep | assumption) (first | (go_at_call 25; refine (clone_any (s.extract 0 E) _ q1).mono ?_; rintro e w5 ⟨rfl, hb5⟩; have kE5 : w5.cell? ⟨w.heap.size + 1, 0, none⟩ = some (.int .i64 E) := (World.cell?_of_block (hb5.block (w.heap.size + 1) (show w.heap.size + 1 < W.heap.size by omega))).trans kE; have hz5 : w.heap.size + 1 < w5.heap.size := Nat.lt_of_lt_of_le (show w.heap.size + 1 < W.heap.size by omega) hb5.size) | (go_at_call 25; refine (clone_any (s.extract E s.size) _ q2).mono ?_; rintro e w6 ⟨rfl, hb6⟩; have kE6 : w6.cell? ⟨w.heap.size + 1, 0, none⟩ = some (.int .i64 E) := (World.cell?_of_block (hb6.block (w.heap.size + 1) hz5)).trans kE5))
        exact ⟨rfl, ⟨rfl, rfl, rfl⟩, ((Below.refl W.heap.size W).drew.trans hb5).trans (hb6.mono hb5.size)⟩
      · rintro e a' w' hq
        cases e with
        | normal =>
          obtain ⟨h1, ⟨h2, h3, h4⟩, h5⟩ := hq
          have hK6 := (h5.block D hDW).trans HK.out
          have hbw6 : Below w.heap.size w w' := hBw.trans (h5.mono (by omega))
          gi_wp2
          show LeavesInM Fence.wide 9 Tryd.prog Tryd.f20 a'.tmps _ a'.defers .returning w'
          rw [h1]
          refine ⟨by simp, .inl ⟨_, _, rfl, run_takeDeferred hK6, ?_⟩⟩
          refine ⟨.tuple #[.string (s.extract 0 E), .string (s.extract E s.size), .int .i64 0], by simp [results, Tryd.f20, go_sem, h2, h3, h4], by rw [HR.out], hbw6.trans ((putObj_belowL _ _ _).mono (by omega))⟩
        | _ => exact hq.elim
    case stop =>
      rintro D c pre W hD hpre ⟨rfl, x, hE, hP⟩ hBW hK
      obtain ⟨r, hr⟩ := hpre
      have hx : x = E := by
        have := hP r
        rw [hr] at this
        exact this.symm.trans HQ.out
      subst hx
      clear hP hr HQ
      have e1 : (E : Int).toNat = E := rfl
      have kE := hE.cell
      have hDW : D < W.heap.size := (Array.getElem?_eq_some_iff.1 hK).1
      have hWz := hBW.size
      have hBw : Below w.heap.size w W := hB.trans (hBW.below (by omega) (fun k e => by unfold inTwo at e; omega))
      have hmx : Tryd.prog.follows .mixedOrders = true := by kernel_rfl
      have q1 : (s.extract 0 E).size ≤ 140737488355328 := by rw [ByteArray.size_extract]; omega
      have q2 : (s.extract E s.size).size ≤ 140737488355328 := by rw [ByteArray.size_extract]; omega
      have HK := hideC hK
      clear hE hs b0 b1 b2 b3
      gi_wp2_with fail
      refine wpIn_mono (Q := Exit.then (fun a' w' => a'.defers = [{ target := .collected D, args := #[] }] ∧ (a'.tmps[4]?.getD undef = .string (s.extract 0 E) ∧ a'.tmps[5]?.getD undef = .string (s.extract E s.size) ∧ a'.tmps[6]?.getD undef = .int .i64 0) ∧ Below W.heap.size W w') (fun _ _ _ => False)) ?_ ?_
      · refine wpIn_wide.2 ?_
        go_region_held (fun w' => w'.cell? ⟨w.heap.size + 1, 0, none⟩ = some (.int .i64 E)) (first | go_keep | assumption) (first | (go_at_call 25; refine (clone_any (s.extract 0 E) _ q1).mono ?_; rintro e w5 ⟨rfl, hb5⟩; have kE5 : w5.cell? ⟨w.heap.size + 1, 0, none⟩ = some (.int .i64 E) := (World.cell?_of_block (hb5.block (w.heap.size + 1) (show w.heap.size + 1 < W.heap.size by omega))).trans kE; have hz5 : w.heap.size + 1 < w5.heap.size := Nat.lt_of_lt_of_le (show w.heap.size + 1 < W.heap.size by omega) hb5.size) | (go_at_call 25; refine (clone_any (s.extract E s.size) _ q2).mono ?_; rintro e w6 ⟨rfl, hb6⟩; have kE6 : w6.cell? ⟨w.heap.size + 1, 0, none⟩ = some (.int .i64 E) := (World.cell?_of_block (hb6.block (w.heap.size + 1) hz5)).trans kE5))
        exact ⟨rfl, ⟨rfl, rfl, rfl⟩, ((Below.refl W.heap.size W).drew.trans hb5).trans (hb6.mono hb5.size)⟩
      · rintro e a' w' hq
        cases e with
        | normal =>
          obtain ⟨h1, ⟨h2, h3, h4⟩, h5⟩ := hq
          have hK6 := (h5.block D hDW).trans HK.out
          have hbw6 : Below w.heap.size w w' := hBw.trans (h5.mono (by omega))
          gi_wp2
          show LeavesInM Fence.wide 9 Tryd.prog Tryd.f20 a'.tmps _ a'.defers .returning w'
          rw [h1]
          refine ⟨by simp, .inl ⟨_, _, rfl, run_takeDeferred hK6, ?_⟩⟩
          refine ⟨.tuple #[.string (s.extract 0 E), .string (s.extract E s.size), .int .i64 0], by simp [results, Tryd.f20, go_sem, h2, h3, h4], by rw [HR.out], hbw6.trans ((putObj_belowL _ _ _).mono (by omega))⟩
        | _ => exact hq.elim

end Go.Proofs.YtgjkholmoamblaaDoor
