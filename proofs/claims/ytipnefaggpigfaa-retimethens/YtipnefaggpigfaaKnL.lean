/- Where a time goes: retime's reckon, Apply, Undo, Knots (chapter 6). -/
import Derived.Test.YtipnefaggpigfaaKnK
namespace Go.Proofs.Ytipnefaggpigfaa
open Go.RowKit Go.Shelf

/-- What reckon tells: by Mul or Div. -/
def recA (by_ : Rt → Rt → Rt × Int) (t fr tw sl : Rt) : Rt × Int := if ¬ (subA t fr).2 = 0 then (⟨0, 0⟩, (subA t fr).2) else if ¬ (by_ (subA t fr).1 sl).2 = 0 then (⟨0, 0⟩, (by_ (subA t fr).1 sl).2) else addA tw (by_ (subA t fr).1 sl).1
/-- What reckon keeps in its boxes. -/
structure RcV (W : World) (b : Nat) (tw sl : Rt) : Prop where
  tw : W.heap[b + 1 + 1]? = some (.cells #[.int .i64 tw.N, .int .i64 tw.D] 42)
  sl : W.heap[b + 1 + 1 + 1]? = some (.cells #[.int .i64 sl.N, .int .i64 sl.D] 42)
  r : Two W (b + 1 + 1 + 1 + 1) (.int .i64 0) (.int .i64 0)
theorem RcV.keep {V W : World} {b : Nat} {tw sl : Rt} (h : RcV V b tw sl) (q : Below V.heap.size V W) : RcV W b tw sl := by
  have h1 := (Array.getElem?_eq_some_iff.1 h.tw).1
  have h2 := (Array.getElem?_eq_some_iff.1 h.sl).1
  exact ⟨(q.block _ h1).trans h.tw, (q.block _ h2).trans h.sl, h.r.keep q⟩
theorem RcV.new (w : World) (t fr tw sl : Rt) : RcV (((((w.alloc (.cells #[.int .i64 t.N, .int .i64 t.D] 42)).alloc (.cells #[.int .i64 fr.N, .int .i64 fr.D] 42)).alloc (.cells #[.int .i64 tw.N, .int .i64 tw.D] 42)).alloc (.cells #[.int .i64 sl.N, .int .i64 sl.D] 42)).alloc (.cells #[.int .i64 0, .int .i64 0] 42)) w.heap.size tw sl := by
  generalize h1 : (w.alloc (.cells #[.int .i64 t.N, .int .i64 t.D] 42)).alloc (.cells #[.int .i64 fr.N, .int .i64 fr.D] 42) = w2
  have z2 : w2.heap.size = w.heap.size + 1 + 1 := by rw [← h1, World.size_alloc, World.size_alloc]
  generalize h3 : w2.alloc (.cells #[.int .i64 tw.N, .int .i64 tw.D] 42) = w3
  have z3 : w3.heap.size = w.heap.size + 1 + 1 + 1 := by rw [← h3, World.size_alloc, z2]
  have k3 : w3.heap[w.heap.size + 1 + 1]? = some (.cells #[.int .i64 tw.N, .int .i64 tw.D] 42) := by rw [← h3, ← z2]; exact World.alloc_heap_new _ _
  generalize h4 : w3.alloc (.cells #[.int .i64 sl.N, .int .i64 sl.D] 42) = w4
  have z4 : w4.heap.size = w.heap.size + 1 + 1 + 1 + 1 := by rw [← h4, World.size_alloc, z3]
  have k4 : w4.heap[w.heap.size + 1 + 1 + 1]? = some (.cells #[.int .i64 sl.N, .int .i64 sl.D] 42) := by rw [← h4, ← z3]; exact World.alloc_heap_new _ _
  have b4 : Below w3.heap.size w3 w4 := by rw [← h4]; exact bel1 _ _
  have b5 := bel1 w4 (.cells #[.int .i64 0, .int .i64 0] 42)
  refine ⟨((b5.block _ (by omega)).trans (b4.block _ (by omega))).trans k3, (b5.block _ (by omega)).trans k4, ?_⟩
  rw [← z4]
  exact Two.new _ _ _ _
theorem mulA_inK (a b : Rt) : RtIn (mulA a b).1 := by
  unfold mulA
  split
  · exact low_in _
  · exact bad_inK
theorem addA_inK (a b : Rt) : RtIn (addA a b).1 := by
  unfold addA
  split
  · exact low_in _
  · exact bad_inK
set_option maxRecDepth 100000 in
set_option maxHeartbeats 1000000 in
theorem reckon_mul_walk (t fr tw sl : Rt) (p0 p1 p2 q0 q1 q2 d0 d1 d2 r0 r1 r2 : Int) (w : World)
    (hr1 : ¬ p2 = 0 → r0 = 0 ∧ r1 = 0 ∧ r2 = p2) (hr2 : p2 = 0 → ¬ q2 = 0 → r0 = 0 ∧ r1 = 0 ∧ r2 = q2) (hr3 : p2 = 0 → q2 = 0 → r0 = d0 ∧ r1 = d1 ∧ r2 = d2)
    (H1 : ∀ W, Calls Try.prog 55 #[.agg #[.int .i64 t.N, .int .i64 t.D], .agg #[.int .i64 fr.N, .int .i64 fr.D]] W fun e w' => e = .returned (.tuple #[.agg #[.int .i64 p0, .int .i64 p1], .int .i64 p2]) ∧ Below W.heap.size W w')
    (H2 : ∀ W, Calls Try.prog 47 #[.agg #[.int .i64 p0, .int .i64 p1], .agg #[.int .i64 sl.N, .int .i64 sl.D]] W fun e w' => e = .returned (.tuple #[.agg #[.int .i64 q0, .int .i64 q1], .int .i64 q2]) ∧ Below W.heap.size W w')
    (H3 : ∀ W, Calls Try.prog 56 #[.agg #[.int .i64 tw.N, .int .i64 tw.D], .agg #[.int .i64 q0, .int .i64 q1]] W fun e w' => e = .returned (.tuple #[.agg #[.int .i64 d0, .int .i64 d1], .int .i64 d2]) ∧ Below W.heap.size W w') :
    Calls Try.prog 46 #[.agg #[.int .i64 t.N, .int .i64 t.D], .agg #[.int .i64 fr.N, .int .i64 fr.D], .agg #[.int .i64 tw.N, .int .i64 tw.D], .agg #[.int .i64 sl.N, .int .i64 sl.D], .func (.func 47) #[] #[]] w fun e w' => e = .returned (.tuple #[.agg #[.int .i64 r0, .int .i64 r1], .int .i64 r2]) ∧ Below w.heap.size w w' := by
  have HQ1 := hideK hr1
  have HQ2 := hideK hr2
  have HQ3 := hideK hr3
  replace H1 := hideK H1
  replace H2 := hideK H2
  replace H3 := hideK H3
  clear hr1 hr2 hr3
  go_enter Try.func46, Try.ntmps46
  go_wp2_with fail
  obtain ⟨V, hV⟩ : ∃ V, ((((w.alloc (.cells #[.int .i64 t.N, .int .i64 t.D] 42)).alloc (.cells #[.int .i64 fr.N, .int .i64 fr.D] 42)).alloc (.cells #[.int .i64 tw.N, .int .i64 tw.D] 42)).alloc (.cells #[.int .i64 sl.N, .int .i64 sl.D] 42)).alloc (.cells #[.int .i64 0, .int .i64 0] 42) = V := ⟨_, rfl⟩
  have HV : Hid (Below w.heap.size w V ∧ RcV V w.heap.size tw sl) := hideK (by
    rw [← hV]
    exact ⟨bup (bup (bup (bup (bel1 _ _) (bel1 _ _)) (bel1 _ _)) (bel1 _ _)) (bel1 _ _), RcV.new w t fr tw sl⟩)
  rw [hV]
  clear hV
  refine (H1.out V).mono ?_
  rintro e w2 ⟨rfl, b2⟩
  have HC : Hid (Below w.heap.size w w2 ∧ RcV w2 w.heap.size tw sl) := hideK ⟨bup HV.out.1 b2, HV.out.2.keep b2⟩
  clear b2 HV
  go_upto_region 2 with fail
  obtain ⟨W2, hW2⟩ : ∃ W2, w2.alloc (.cells #[.int .i64 p0, .int .i64 p1] 42) = W2 := ⟨_, rfl⟩
  have HD : Hid (Below w.heap.size w W2 ∧ RcV W2 w.heap.size tw sl ∧ Two W2 w2.heap.size (.int .i64 p0) (.int .i64 p1) ∧ w.heap.size + 1 + 1 + 1 + 1 < w2.heap.size) := hideK (by
    rw [← hW2]
    exact ⟨bup HC.out.1 (bel1 _ _), HC.out.2.keep (bel1 _ _), Two.new _ _ _ _, HC.out.2.r.1⟩)
  rw [hW2]
  clear hW2 HC
  generalize w2.heap.size = B2 at *
  by_cases hp : p2 = 0
  · subst hp
    have l0 : W2.cell? ⟨w.heap.size + 1 + 1 + 1, 0, none⟩ = some (.int .i64 sl.N) := by simp [World.cell?, HD.out.2.1.sl]
    have l1 : W2.cell? ⟨w.heap.size + 1 + 1 + 1, 1, none⟩ = some (.int .i64 sl.D) := by simp [World.cell?, HD.out.2.1.sl]
    obtain ⟨_, k0, k1, _, _⟩ := HD.out.2.2.1
    go_wp2_with fail
    refine (H2.out W2).mono ?_
    rintro e w3 ⟨rfl, b3⟩
    have HE : Hid (Below w.heap.size w w3 ∧ RcV w3 w.heap.size tw sl ∧ Two w3 B2 (.int .i64 p0) (.int .i64 p1)) := hideK ⟨bup HD.out.1 b3, HD.out.2.1.keep b3, HD.out.2.2.1.keep b3⟩
    clear b3 k0 k1 l0 l1
    obtain ⟨_, z0, z1, f0, f1⟩ := HE.out.2.2
    go_upto_region 5 with fail
    obtain ⟨W3, hW3⟩ : ∃ W3, (w3.setCell ⟨B2, 0, none⟩ (.int .i64 q0)).setCell ⟨B2, 1, none⟩ (.int .i64 q1) = W3 := ⟨_, rfl⟩
    have HF : Hid (Below w.heap.size w W3 ∧ RcV W3 w.heap.size tw sl ∧ Two W3 B2 (.int .i64 q0) (.int .i64 q1)) := hideK (by
      have hb := HD.out.2.2.2
      rw [← hW3]
      refine ⟨(HE.out.1.setCell (by show w.heap.size ≤ B2; omega) _).setCell (by show w.heap.size ≤ B2; omega) _, ⟨?_, ?_, HE.out.2.1.r.other (by omega)⟩, HE.out.2.2.set⟩
      · exact ((Below.heap_setCell _ _ _ _ (by show w.heap.size + 1 + 1 ≠ B2; omega)).trans (Below.heap_setCell _ _ _ _ (by show w.heap.size + 1 + 1 ≠ B2; omega))).trans HE.out.2.1.tw
      · exact ((Below.heap_setCell _ _ _ _ (by show w.heap.size + 1 + 1 + 1 ≠ B2; omega)).trans (Below.heap_setCell _ _ _ _ (by show w.heap.size + 1 + 1 + 1 ≠ B2; omega))).trans HE.out.2.1.sl)
    rw [hW3]
    clear hW3 HE z0 z1 f0 f1
    by_cases hq : q2 = 0
    · subst hq
      obtain ⟨rfl, rfl, rfl⟩ := HQ3.out (by first | trivial | rfl) (by first | trivial | rfl)
      obtain ⟨_, k0, k1, _, _⟩ := HF.out.2.2
      have l0 : W3.cell? ⟨w.heap.size + 1 + 1, 0, none⟩ = some (.int .i64 tw.N) := by simp [World.cell?, HF.out.2.1.tw]
      have l1 : W3.cell? ⟨w.heap.size + 1 + 1, 1, none⟩ = some (.int .i64 tw.D) := by simp [World.cell?, HF.out.2.1.tw]
      go_wp2_with fail
      refine (H3.out W3).mono ?_
      rintro e w4 ⟨rfl, b4⟩
      have HG : Hid (Below w.heap.size w w4 ∧ Two w4 (w.heap.size + 1 + 1 + 1 + 1) (.int .i64 0) (.int .i64 0)) := hideK ⟨bup HF.out.1 b4, HF.out.2.1.r.keep b4⟩
      clear b4 k0 k1 l0 l1
      obtain ⟨_, z0, z1, f0, f1⟩ := HG.out.2
      go_wp2_with fail
      refine bodyPost_ret (v := .tuple #[.agg #[.int .i64 r0, .int .i64 r1], .int .i64 r2]) (by simp [results, Try.results46, go_sem, z0, z1]) rfl ⟨rfl, ?_⟩
      exact (HG.out.1.setCell (by show w.heap.size ≤ w.heap.size + 1 + 1 + 1 + 1; omega) _).setCell (by show w.heap.size ≤ w.heap.size + 1 + 1 + 1 + 1; omega) _
    · obtain ⟨rfl, rfl, rfl⟩ := HQ2.out (by first | trivial | rfl) hq
      obtain ⟨_, z0, z1, f0, f1⟩ := HF.out.2.1.r
      go_wp2_with fail
      refine bodyPost_ret (v := .tuple #[.agg #[.int .i64 0, .int .i64 0], .int .i64 r2]) (by simp [results, Try.results46, go_sem, z0, z1]) rfl ⟨rfl, ?_⟩
      exact (HF.out.1.setCell (by show w.heap.size ≤ w.heap.size + 1 + 1 + 1 + 1; omega) _).setCell (by show w.heap.size ≤ w.heap.size + 1 + 1 + 1 + 1; omega) _
  · obtain ⟨rfl, rfl, rfl⟩ := HQ1.out hp
    obtain ⟨_, z0, z1, f0, f1⟩ := HD.out.2.1.r
    go_wp2_with fail
    refine bodyPost_ret (v := .tuple #[.agg #[.int .i64 0, .int .i64 0], .int .i64 r2]) (by simp [results, Try.results46, go_sem, z0, z1]) rfl ⟨rfl, ?_⟩
    exact (HD.out.1.setCell (by show w.heap.size ≤ w.heap.size + 1 + 1 + 1 + 1; omega) _).setCell (by show w.heap.size ≤ w.heap.size + 1 + 1 + 1 + 1; omega) _
theorem reckon_mul (t fr tw sl : Rt) (ht : RtIn t) (hf : RtIn fr) (ho : RtIn tw) (hs : RtIn sl) (w : World) :
    Calls Try.prog 46 #[.agg #[.int .i64 t.N, .int .i64 t.D], .agg #[.int .i64 fr.N, .int .i64 fr.D], .agg #[.int .i64 tw.N, .int .i64 tw.D], .agg #[.int .i64 sl.N, .int .i64 sl.D], .func (.func 47) #[] #[]] w fun e w' => e = .returned (.tuple #[.agg #[.int .i64 (recA mulA t fr tw sl).1.N, .int .i64 (recA mulA t fr tw sl).1.D], .int .i64 (recA mulA t fr tw sl).2]) ∧ Below w.heap.size w w' := by
  refine reckon_mul_walk t fr tw sl _ _ _ _ _ _ _ _ _ _ _ _ w ?_ ?_ ?_ (sub_any t fr ht hf) (mul_any _ sl (subA_inK _ _) hs) (add_any tw _ ho (mulA_inK _ _))
  · intro h
    unfold recA
    rw [if_pos h]
    exact ⟨rfl, rfl, rfl⟩
  · intro h1 h2
    unfold recA
    rw [if_neg (fun h => h h1), if_pos h2]
    exact ⟨rfl, rfl, rfl⟩
  · intro h1 h2
    unfold recA
    rw [if_neg (fun h => h h1), if_neg (fun h => h h2)]
    exact ⟨rfl, rfl, rfl⟩
set_option maxRecDepth 100000 in
set_option maxHeartbeats 1000000 in
theorem reckon_div_walk (t fr tw sl : Rt) (p0 p1 p2 q0 q1 q2 d0 d1 d2 r0 r1 r2 : Int) (w : World)
    (hr1 : ¬ p2 = 0 → r0 = 0 ∧ r1 = 0 ∧ r2 = p2) (hr2 : p2 = 0 → ¬ q2 = 0 → r0 = 0 ∧ r1 = 0 ∧ r2 = q2) (hr3 : p2 = 0 → q2 = 0 → r0 = d0 ∧ r1 = d1 ∧ r2 = d2)
    (H1 : ∀ W, Calls Try.prog 55 #[.agg #[.int .i64 t.N, .int .i64 t.D], .agg #[.int .i64 fr.N, .int .i64 fr.D]] W fun e w' => e = .returned (.tuple #[.agg #[.int .i64 p0, .int .i64 p1], .int .i64 p2]) ∧ Below W.heap.size W w')
    (H2 : ∀ W, Calls Try.prog 49 #[.agg #[.int .i64 p0, .int .i64 p1], .agg #[.int .i64 sl.N, .int .i64 sl.D]] W fun e w' => e = .returned (.tuple #[.agg #[.int .i64 q0, .int .i64 q1], .int .i64 q2]) ∧ Below W.heap.size W w')
    (H3 : ∀ W, Calls Try.prog 56 #[.agg #[.int .i64 tw.N, .int .i64 tw.D], .agg #[.int .i64 q0, .int .i64 q1]] W fun e w' => e = .returned (.tuple #[.agg #[.int .i64 d0, .int .i64 d1], .int .i64 d2]) ∧ Below W.heap.size W w') :
    Calls Try.prog 46 #[.agg #[.int .i64 t.N, .int .i64 t.D], .agg #[.int .i64 fr.N, .int .i64 fr.D], .agg #[.int .i64 tw.N, .int .i64 tw.D], .agg #[.int .i64 sl.N, .int .i64 sl.D], .func (.func 49) #[] #[]] w fun e w' => e = .returned (.tuple #[.agg #[.int .i64 r0, .int .i64 r1], .int .i64 r2]) ∧ Below w.heap.size w w' := by
  have HQ1 := hideK hr1
  have HQ2 := hideK hr2
  have HQ3 := hideK hr3
  replace H1 := hideK H1
  replace H2 := hideK H2
  replace H3 := hideK H3
  clear hr1 hr2 hr3
  go_enter Try.func46, Try.ntmps46
  go_wp2_with fail
  obtain ⟨V, hV⟩ : ∃ V, ((((w.alloc (.cells #[.int .i64 t.N, .int .i64 t.D] 42)).alloc (.cells #[.int .i64 fr.N, .int .i64 fr.D] 42)).alloc (.cells #[.int .i64 tw.N, .int .i64 tw.D] 42)).alloc (.cells #[.int .i64 sl.N, .int .i64 sl.D] 42)).alloc (.cells #[.int .i64 0, .int .i64 0] 42) = V := ⟨_, rfl⟩
  have HV : Hid (Below w.heap.size w V ∧ RcV V w.heap.size tw sl) := hideK (by
    rw [← hV]
    exact ⟨bup (bup (bup (bup (bel1 _ _) (bel1 _ _)) (bel1 _ _)) (bel1 _ _)) (bel1 _ _), RcV.new w t fr tw sl⟩)
  rw [hV]
  clear hV
  refine (H1.out V).mono ?_
  rintro e w2 ⟨rfl, b2⟩
  have HC : Hid (Below w.heap.size w w2 ∧ RcV w2 w.heap.size tw sl) := hideK ⟨bup HV.out.1 b2, HV.out.2.keep b2⟩
  clear b2 HV
  go_upto_region 2 with fail
  obtain ⟨W2, hW2⟩ : ∃ W2, w2.alloc (.cells #[.int .i64 p0, .int .i64 p1] 42) = W2 := ⟨_, rfl⟩
  have HD : Hid (Below w.heap.size w W2 ∧ RcV W2 w.heap.size tw sl ∧ Two W2 w2.heap.size (.int .i64 p0) (.int .i64 p1) ∧ w.heap.size + 1 + 1 + 1 + 1 < w2.heap.size) := hideK (by
    rw [← hW2]
    exact ⟨bup HC.out.1 (bel1 _ _), HC.out.2.keep (bel1 _ _), Two.new _ _ _ _, HC.out.2.r.1⟩)
  rw [hW2]
  clear hW2 HC
  generalize w2.heap.size = B2 at *
  by_cases hp : p2 = 0
  · subst hp
    have l0 : W2.cell? ⟨w.heap.size + 1 + 1 + 1, 0, none⟩ = some (.int .i64 sl.N) := by simp [World.cell?, HD.out.2.1.sl]
    have l1 : W2.cell? ⟨w.heap.size + 1 + 1 + 1, 1, none⟩ = some (.int .i64 sl.D) := by simp [World.cell?, HD.out.2.1.sl]
    obtain ⟨_, k0, k1, _, _⟩ := HD.out.2.2.1
    go_wp2_with fail
    refine (H2.out W2).mono ?_
    rintro e w3 ⟨rfl, b3⟩
    have HE : Hid (Below w.heap.size w w3 ∧ RcV w3 w.heap.size tw sl ∧ Two w3 B2 (.int .i64 p0) (.int .i64 p1)) := hideK ⟨bup HD.out.1 b3, HD.out.2.1.keep b3, HD.out.2.2.1.keep b3⟩
    clear b3 k0 k1 l0 l1
    obtain ⟨_, z0, z1, f0, f1⟩ := HE.out.2.2
    go_upto_region 5 with fail
    obtain ⟨W3, hW3⟩ : ∃ W3, (w3.setCell ⟨B2, 0, none⟩ (.int .i64 q0)).setCell ⟨B2, 1, none⟩ (.int .i64 q1) = W3 := ⟨_, rfl⟩
    have HF : Hid (Below w.heap.size w W3 ∧ RcV W3 w.heap.size tw sl ∧ Two W3 B2 (.int .i64 q0) (.int .i64 q1)) := hideK (by
      have hb := HD.out.2.2.2
      rw [← hW3]
      refine ⟨(HE.out.1.setCell (by show w.heap.size ≤ B2; omega) _).setCell (by show w.heap.size ≤ B2; omega) _, ⟨?_, ?_, HE.out.2.1.r.other (by omega)⟩, HE.out.2.2.set⟩
      · exact ((Below.heap_setCell _ _ _ _ (by show w.heap.size + 1 + 1 ≠ B2; omega)).trans (Below.heap_setCell _ _ _ _ (by show w.heap.size + 1 + 1 ≠ B2; omega))).trans HE.out.2.1.tw
      · exact ((Below.heap_setCell _ _ _ _ (by show w.heap.size + 1 + 1 + 1 ≠ B2; omega)).trans (Below.heap_setCell _ _ _ _ (by show w.heap.size + 1 + 1 + 1 ≠ B2; omega))).trans HE.out.2.1.sl)
    rw [hW3]
    clear hW3 HE z0 z1 f0 f1
    by_cases hq : q2 = 0
    · subst hq
      obtain ⟨rfl, rfl, rfl⟩ := HQ3.out (by first | trivial | rfl) (by first | trivial | rfl)
      obtain ⟨_, k0, k1, _, _⟩ := HF.out.2.2
      have l0 : W3.cell? ⟨w.heap.size + 1 + 1, 0, none⟩ = some (.int .i64 tw.N) := by simp [World.cell?, HF.out.2.1.tw]
      have l1 : W3.cell? ⟨w.heap.size + 1 + 1, 1, none⟩ = some (.int .i64 tw.D) := by simp [World.cell?, HF.out.2.1.tw]
      go_wp2_with fail
      refine (H3.out W3).mono ?_
      rintro e w4 ⟨rfl, b4⟩
      have HG : Hid (Below w.heap.size w w4 ∧ Two w4 (w.heap.size + 1 + 1 + 1 + 1) (.int .i64 0) (.int .i64 0)) := hideK ⟨bup HF.out.1 b4, HF.out.2.1.r.keep b4⟩
      clear b4 k0 k1 l0 l1
      obtain ⟨_, z0, z1, f0, f1⟩ := HG.out.2
      go_wp2_with fail
      refine bodyPost_ret (v := .tuple #[.agg #[.int .i64 r0, .int .i64 r1], .int .i64 r2]) (by simp [results, Try.results46, go_sem, z0, z1]) rfl ⟨rfl, ?_⟩
      exact (HG.out.1.setCell (by show w.heap.size ≤ w.heap.size + 1 + 1 + 1 + 1; omega) _).setCell (by show w.heap.size ≤ w.heap.size + 1 + 1 + 1 + 1; omega) _
    · obtain ⟨rfl, rfl, rfl⟩ := HQ2.out (by first | trivial | rfl) hq
      obtain ⟨_, z0, z1, f0, f1⟩ := HF.out.2.1.r
      go_wp2_with fail
      refine bodyPost_ret (v := .tuple #[.agg #[.int .i64 0, .int .i64 0], .int .i64 r2]) (by simp [results, Try.results46, go_sem, z0, z1]) rfl ⟨rfl, ?_⟩
      exact (HF.out.1.setCell (by show w.heap.size ≤ w.heap.size + 1 + 1 + 1 + 1; omega) _).setCell (by show w.heap.size ≤ w.heap.size + 1 + 1 + 1 + 1; omega) _
  · obtain ⟨rfl, rfl, rfl⟩ := HQ1.out hp
    obtain ⟨_, z0, z1, f0, f1⟩ := HD.out.2.1.r
    go_wp2_with fail
    refine bodyPost_ret (v := .tuple #[.agg #[.int .i64 0, .int .i64 0], .int .i64 r2]) (by simp [results, Try.results46, go_sem, z0, z1]) rfl ⟨rfl, ?_⟩
    exact (HD.out.1.setCell (by show w.heap.size ≤ w.heap.size + 1 + 1 + 1 + 1; omega) _).setCell (by show w.heap.size ≤ w.heap.size + 1 + 1 + 1 + 1; omega) _
theorem reckon_div (t fr tw sl : Rt) (ht : RtIn t) (hf : RtIn fr) (ho : RtIn tw) (hs : RtIn sl) (w : World) :
    Calls Try.prog 46 #[.agg #[.int .i64 t.N, .int .i64 t.D], .agg #[.int .i64 fr.N, .int .i64 fr.D], .agg #[.int .i64 tw.N, .int .i64 tw.D], .agg #[.int .i64 sl.N, .int .i64 sl.D], .func (.func 49) #[] #[]] w fun e w' => e = .returned (.tuple #[.agg #[.int .i64 (recA divA t fr tw sl).1.N, .int .i64 (recA divA t fr tw sl).1.D], .int .i64 (recA divA t fr tw sl).2]) ∧ Below w.heap.size w w' := by
  refine reckon_div_walk t fr tw sl _ _ _ _ _ _ _ _ _ _ _ _ w ?_ ?_ ?_ (sub_any t fr ht hf) (quo_any _ sl (subA_inK _ _) hs) (add_any tw _ ho (divA_inK _ _))
  · intro h
    unfold recA
    rw [if_pos h]
    exact ⟨rfl, rfl, rfl⟩
  · intro h1 h2
    unfold recA
    rw [if_neg (fun h => h h1), if_pos h2]
    exact ⟨rfl, rfl, rfl⟩
  · intro h1 h2
    unfold recA
    rw [if_neg (fun h => h h1), if_neg (fun h => h h2)]
    exact ⟨rfl, rfl, rfl⟩
set_option maxRecDepth 100000 in
set_option maxHeartbeats 1000000 in
theorem apply_any6 (K : List Kn) (S : List Rt) (B : Nat) (t : Rt) (hK : ∀ x ∈ K, KnIn x) (hS : ∀ x ∈ S, RtIn x) (ht : RtIn t) (hKS : S.length = K.length + 1) (hl : K.length ≤ 1000) (h1K : 1 ≤ K.length) (w : World) (hM : MapAt w B K S) :
    Calls Try.prog 16 #[.pointer (some ⟨B, 0, none⟩), .agg #[.int .i64 t.N, .int .i64 t.D]] w fun e w' => ∃ r : Rt × Int, e = .returned (.tuple #[.agg #[.int .i64 r.1.N, .int .i64 r.1.D], .int .i64 r.2]) ∧ ((rightB t = false ∧ r = (⟨0, 0⟩, 12)) ∨ (rightB t = true ∧ ∃ x s, PieceOf (·.i) K S t x s ∧ r = recA mulA t x.i x.o s)) ∧ Below w.heap.size w w' := by
  have HM := hideK hM
  have HK := hideK hK
  have HS := hideK hS
  have HT := hideK ht
  have HL := hideK hKS
  clear hM hK hS ht hKS
  obtain ⟨PO, hPO⟩ : ∃ PO : Ending → World → Prop, (fun e w' => ∃ r : Rt × Int, e = .returned (.tuple #[.agg #[.int .i64 r.1.N, .int .i64 r.1.D], .int .i64 r.2]) ∧ ((rightB t = false ∧ r = (⟨0, 0⟩, 12)) ∨ (rightB t = true ∧ ∃ x s, PieceOf (·.i) K S t x s ∧ r = recA mulA t x.i x.o s)) ∧ Below w.heap.size w w') = PO := ⟨_, rfl⟩
  have HP := hideK hPO
  rw [hPO]
  clear hPO
  go_enter Try.func16, Try.ntmps16
  go_wp2_with fail
  obtain ⟨V, hV⟩ : ∃ V, (w.alloc (.cells #[.int .i64 t.N, .int .i64 t.D] 42)).alloc (.cells #[.int .i64 0, .int .i64 0] 42) = V := ⟨_, rfl⟩
  have HV : Hid (Below w.heap.size w V ∧ Two V w.heap.size (.int .i64 t.N) (.int .i64 t.D) ∧ Two V (w.heap.size + 1) (.int .i64 0) (.int .i64 0)) := hideK (by
    rw [← hV]
    have h := Two.new (w.alloc (.cells #[.int .i64 t.N, .int .i64 t.D] 42)) (.int .i64 0) (.int .i64 0) 42
    rw [World.size_alloc] at h
    exact ⟨bup (bel1 _ _) (bel1 _ _), (Two.new w (.int .i64 t.N) (.int .i64 t.D) 42).alloc _, h⟩)
  rw [hV]
  clear hV
  refine (right_any t HT.out V).mono ?_
  rintro e w2 ⟨rfl, b2⟩
  have HX : Hid (Below w.heap.size w w2 ∧ Two w2 w.heap.size (.int .i64 t.N) (.int .i64 t.D) ∧ Two w2 (w.heap.size + 1) (.int .i64 0) (.int .i64 0)) := hideK ⟨bup HV.out.1 b2, HV.out.2.1.keep b2, HV.out.2.2.keep b2⟩
  clear b2 HV
  cases hrt : rightB t with
  | false =>
    have HR := hideK hrt
    clear hrt
    obtain ⟨_, z0, z1, f0, f1⟩ := HX.out.2.2
    go_wp2_with fail
    refine bodyPost_ret (v := .tuple #[.agg #[.int .i64 0, .int .i64 0], .int .i64 12]) (by simp [results, Try.results16, go_sem, z0, z1]) rfl ?_
    rw [← HP.out]
    exact ⟨(⟨0, 0⟩, 12), rfl, .inl ⟨HR.out, rfl⟩, (HX.out.1.setCell (by show w.heap.size ≤ w.heap.size + 1; omega) _).setCell (by show w.heap.size ≤ w.heap.size + 1; omega) _⟩
  | true =>
    have HR := hideK hrt
    clear hrt
    obtain ⟨_, y0, y1, _, _⟩ := HX.out.2.1
    go_wp2_with fail
    refine (piece_in K S B t HK.out HT.out HL.out hl h1K w2 (HM.out.keep HX.out.1)).mono ?_
    rintro e w3 ⟨x, s, hpc, rfl, b3⟩
    have HPc := hideK hpc
    have hxs : KnIn x ∧ RtIn s := by
      obtain ⟨k, -, h2, h3, -⟩ := hpc
      exact ⟨HK.out x (List.mem_of_getElem? h2), HS.out s (List.mem_of_getElem? h3)⟩
    have HXS := hideK hxs
    have HY : Hid (Below w.heap.size w w3 ∧ Two w3 w.heap.size (.int .i64 t.N) (.int .i64 t.D) ∧ Two w3 (w.heap.size + 1) (.int .i64 0) (.int .i64 0)) := hideK ⟨bup HX.out.1 b3, HX.out.2.1.keep b3, HX.out.2.2.keep b3⟩
    clear b3 HX y0 y1 hpc hxs
    obtain ⟨_, y0, y1, _, _⟩ := HY.out.2.1
    have hlt := HY.out.2.1.1
    go_wp2_with fail
    obtain ⟨W4, hW4⟩ : ∃ W4, (w3.alloc (.cells #[.int .i64 x.i.N, .int .i64 x.i.D, .int .i64 x.o.N, .int .i64 x.o.D] 45)).alloc (.cells #[.int .i64 s.N, .int .i64 s.D] 42) = W4 := ⟨_, rfl⟩
    have HB : Hid (Below w3.heap.size w3 W4) := hideK (by rw [← hW4]; exact bup (bel1 _ _) (bel1 _ _))
    rw [hW4]
    clear hW4
    refine (reckon_mul t x.i x.o s HT.out HXS.out.1.1 HXS.out.1.2 HXS.out.2 W4).mono ?_
    rintro e w5 ⟨rfl, b5⟩
    have HZ : Hid (Below w.heap.size w w5 ∧ Two w5 (w.heap.size + 1) (.int .i64 0) (.int .i64 0)) := hideK ⟨bup (bup HY.out.1 HB.out) b5, HY.out.2.2.keep (bup HB.out b5)⟩
    clear b5 HB HY y0 y1 hlt
    obtain ⟨r, hr⟩ : ∃ r, recA mulA t x.i x.o s = r := ⟨_, rfl⟩
    have HRr := hideK hr
    rw [hr]
    clear hr
    obtain ⟨_, z0, z1, f0, f1⟩ := HZ.out.2
    go_wp2_with fail
    refine bodyPost_ret (v := .tuple #[.agg #[.int .i64 r.1.N, .int .i64 r.1.D], .int .i64 r.2]) (by simp [results, Try.results16, go_sem, z0, z1]) rfl ?_
    rw [← HP.out]
    exact ⟨r, rfl, .inr ⟨HR.out, x, s, HPc.out, HRr.out.symm⟩, (HZ.out.1.setCell (by show w.heap.size ≤ w.heap.size + 1; omega) _).setCell (by show w.heap.size ≤ w.heap.size + 1; omega) _⟩
set_option maxRecDepth 100000 in
set_option maxHeartbeats 1000000 in
theorem undo_any6 (K : List Kn) (S : List Rt) (B : Nat) (t : Rt) (hK : ∀ x ∈ K, KnIn x) (hS : ∀ x ∈ S, RtIn x) (ht : RtIn t) (hKS : S.length = K.length + 1) (hl : K.length ≤ 1000) (h1K : 1 ≤ K.length) (w : World) (hM : MapAt w B K S) :
    Calls Try.prog 17 #[.pointer (some ⟨B, 0, none⟩), .agg #[.int .i64 t.N, .int .i64 t.D]] w fun e w' => ∃ r : Rt × Int, e = .returned (.tuple #[.agg #[.int .i64 r.1.N, .int .i64 r.1.D], .int .i64 r.2]) ∧ ((rightB t = false ∧ r = (⟨0, 0⟩, 12)) ∨ (rightB t = true ∧ ∃ x s, PieceOf (·.o) K S t x s ∧ r = recA divA t x.o x.i s)) ∧ Below w.heap.size w w' := by
  have HM := hideK hM
  have HK := hideK hK
  have HS := hideK hS
  have HT := hideK ht
  have HL := hideK hKS
  clear hM hK hS ht hKS
  obtain ⟨PO, hPO⟩ : ∃ PO : Ending → World → Prop, (fun e w' => ∃ r : Rt × Int, e = .returned (.tuple #[.agg #[.int .i64 r.1.N, .int .i64 r.1.D], .int .i64 r.2]) ∧ ((rightB t = false ∧ r = (⟨0, 0⟩, 12)) ∨ (rightB t = true ∧ ∃ x s, PieceOf (·.o) K S t x s ∧ r = recA divA t x.o x.i s)) ∧ Below w.heap.size w w') = PO := ⟨_, rfl⟩
  have HP := hideK hPO
  rw [hPO]
  clear hPO
  go_enter Try.func17, Try.ntmps17
  go_wp2_with fail
  obtain ⟨V, hV⟩ : ∃ V, (w.alloc (.cells #[.int .i64 t.N, .int .i64 t.D] 42)).alloc (.cells #[.int .i64 0, .int .i64 0] 42) = V := ⟨_, rfl⟩
  have HV : Hid (Below w.heap.size w V ∧ Two V w.heap.size (.int .i64 t.N) (.int .i64 t.D) ∧ Two V (w.heap.size + 1) (.int .i64 0) (.int .i64 0)) := hideK (by
    rw [← hV]
    have h := Two.new (w.alloc (.cells #[.int .i64 t.N, .int .i64 t.D] 42)) (.int .i64 0) (.int .i64 0) 42
    rw [World.size_alloc] at h
    exact ⟨bup (bel1 _ _) (bel1 _ _), (Two.new w (.int .i64 t.N) (.int .i64 t.D) 42).alloc _, h⟩)
  rw [hV]
  clear hV
  refine (right_any t HT.out V).mono ?_
  rintro e w2 ⟨rfl, b2⟩
  have HX : Hid (Below w.heap.size w w2 ∧ Two w2 w.heap.size (.int .i64 t.N) (.int .i64 t.D) ∧ Two w2 (w.heap.size + 1) (.int .i64 0) (.int .i64 0)) := hideK ⟨bup HV.out.1 b2, HV.out.2.1.keep b2, HV.out.2.2.keep b2⟩
  clear b2 HV
  cases hrt : rightB t with
  | false =>
    have HR := hideK hrt
    clear hrt
    obtain ⟨_, z0, z1, f0, f1⟩ := HX.out.2.2
    go_wp2_with fail
    refine bodyPost_ret (v := .tuple #[.agg #[.int .i64 0, .int .i64 0], .int .i64 12]) (by simp [results, Try.results17, go_sem, z0, z1]) rfl ?_
    rw [← HP.out]
    exact ⟨(⟨0, 0⟩, 12), rfl, .inl ⟨HR.out, rfl⟩, (HX.out.1.setCell (by show w.heap.size ≤ w.heap.size + 1; omega) _).setCell (by show w.heap.size ≤ w.heap.size + 1; omega) _⟩
  | true =>
    have HR := hideK hrt
    clear hrt
    obtain ⟨_, y0, y1, _, _⟩ := HX.out.2.1
    go_wp2_with fail
    refine (piece_out K S B t HK.out HT.out HL.out hl h1K w2 (HM.out.keep HX.out.1)).mono ?_
    rintro e w3 ⟨x, s, hpc, rfl, b3⟩
    have HPc := hideK hpc
    have hxs : KnIn x ∧ RtIn s := by
      obtain ⟨k, -, h2, h3, -⟩ := hpc
      exact ⟨HK.out x (List.mem_of_getElem? h2), HS.out s (List.mem_of_getElem? h3)⟩
    have HXS := hideK hxs
    have HY : Hid (Below w.heap.size w w3 ∧ Two w3 w.heap.size (.int .i64 t.N) (.int .i64 t.D) ∧ Two w3 (w.heap.size + 1) (.int .i64 0) (.int .i64 0)) := hideK ⟨bup HX.out.1 b3, HX.out.2.1.keep b3, HX.out.2.2.keep b3⟩
    clear b3 HX y0 y1 hpc hxs
    obtain ⟨_, y0, y1, _, _⟩ := HY.out.2.1
    have hlt := HY.out.2.1.1
    go_wp2_with fail
    obtain ⟨W4, hW4⟩ : ∃ W4, (w3.alloc (.cells #[.int .i64 x.i.N, .int .i64 x.i.D, .int .i64 x.o.N, .int .i64 x.o.D] 45)).alloc (.cells #[.int .i64 s.N, .int .i64 s.D] 42) = W4 := ⟨_, rfl⟩
    have HB : Hid (Below w3.heap.size w3 W4) := hideK (by rw [← hW4]; exact bup (bel1 _ _) (bel1 _ _))
    rw [hW4]
    clear hW4
    refine (reckon_div t x.o x.i s HT.out HXS.out.1.2 HXS.out.1.1 HXS.out.2 W4).mono ?_
    rintro e w5 ⟨rfl, b5⟩
    have HZ : Hid (Below w.heap.size w w5 ∧ Two w5 (w.heap.size + 1) (.int .i64 0) (.int .i64 0)) := hideK ⟨bup (bup HY.out.1 HB.out) b5, HY.out.2.2.keep (bup HB.out b5)⟩
    clear b5 HB HY y0 y1 hlt
    obtain ⟨r, hr⟩ : ∃ r, recA divA t x.o x.i s = r := ⟨_, rfl⟩
    have HRr := hideK hr
    rw [hr]
    clear hr
    obtain ⟨_, z0, z1, f0, f1⟩ := HZ.out.2
    go_wp2_with fail
    refine bodyPost_ret (v := .tuple #[.agg #[.int .i64 r.1.N, .int .i64 r.1.D], .int .i64 r.2]) (by simp [results, Try.results17, go_sem, z0, z1]) rfl ?_
    rw [← HP.out]
    exact ⟨r, rfl, .inr ⟨HR.out, x, s, HPc.out, HRr.out.symm⟩, (HZ.out.1.setCell (by show w.heap.size ≤ w.heap.size + 1; omega) _).setCell (by show w.heap.size ≤ w.heap.size + 1; omega) _⟩
set_option maxRecDepth 100000 in
set_option maxHeartbeats 1000000 in
theorem knots_any6 (K : List Kn) (S : List Rt) (B : Nat) (hl : K.length ≤ 1000) (h1K : 1 ≤ K.length) (w : World) (hM : MapAt w B K S) :
    Calls Try.prog 18 #[.pointer (some ⟨B, 0, none⟩)] w fun e w' => ∃ v, e = .returned v ∧ w'.ownsRow w.heap.size 45 4 v K.length (flatKn K) ∧ Below w.heap.size w w' := by
  obtain ⟨j0, hJ, hy0, hy1, hy2⟩ := info_partsK infoKnK
  have HM := hideK hM
  clear hM
  obtain ⟨PO, hPO⟩ : ∃ PO : Ending → World → Prop, (fun e w' => ∃ v, e = .returned v ∧ w'.ownsRow w.heap.size 45 4 v K.length (flatKn K) ∧ Below w.heap.size w w') = PO := ⟨_, rfl⟩
  have HP := hideK hPO
  rw [hPO]
  clear hPO
  go_enter Try.func18, Try.ntmps18
  go_wp2_with fail
  refine (made_any K S B h1K w HM.out).mono ?_
  rintro e w2 ⟨rfl, b2⟩
  obtain ⟨oa, c1, ob, c2, q0, q1, h1, h2, h3, h4⟩ := (HM.out.keep b2).open
  obtain ⟨x, hx⟩ : ∃ x, K[0]? = some x := ⟨_, List.getElem?_eq_getElem (by omega)⟩
  obtain ⟨A, rfl, -⟩ := h3.get hx
  have HO := hideK h3
  have HX := hideK b2
  have hz := b2.size
  obtain ⟨n, hn⟩ : ∃ n, K.length = n := ⟨_, rfl⟩
  have HN := hideK hn
  rw [hn] at q0 h1 hl h1K
  clear h2 h3 h4 q1 hx b2 hn
  go_wp2_with (at_builtin; refine wpList_append_lies _ rfl _ _ 22 rfl w.heap.size 45 j0 _ 4 32 Try.underlying22 hJ hy0 hy1 hy2 rfl (by decide) (.slice none 0 0) 0 [] rfl (World.ownsRow_nil _ _ _ _) A n c1 (flatKn K) rfl (by rw [flatKn_len, HN.out]) HO.out.news (flatKn_one K) (by omega) (by unfold maxLen; omega) (by omega) hz w2.heap.size rfl ?_; intro gg cap2 w6 hown6 hgrow6 hat6 hlt6)
  rw [← HP.out]
  rw [Nat.zero_add] at hown6
  refine ⟨_, rfl, ?_, Below.grown HX.out hgrow6 hz (fun k hk => by cases hk)⟩
  rw [HN.out]
  exact hown6
end Go.Proofs.Ytipnefaggpigfaa
