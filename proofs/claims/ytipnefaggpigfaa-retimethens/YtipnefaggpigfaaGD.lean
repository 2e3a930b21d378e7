/- Several texts, one behind the other. -/
import Derived.Deep.RegionHeld3
import Derived.Deep.CutBlock
import Derived.Laws.OwnMore
import Derived.Test.YtipnefaggpigfaaGB
import Derived.Test.YtipnefaggpigfaaGC
import Derived.Test.YtipnefaggpigfaaGL
import Derived.Test.YtipnefaggpigfaaKnN
import Derived.Test.YtipnefaggpigfaaKnR
/- The knots at points of two maps, one behind the other: retime's knotsAt once more (chapter 6). -/
namespace Go.Proofs.Ytipnefaggpigfaa
open Go.RowKit Go.Shelf
attribute [local go_sem] Oper.semAt_some

set_option maxRecDepth 100000 in
set_option maxHeartbeats 4000000 in
theorem knotsAtB_walk (f : Rt → Rt × Int) (p1 p2 bx : Nat) (P : List (Rt × Int)) (hP : P.length ≤ 10000) (Free : Nat → Prop) (w : World) (hFr : ∀ k, w.heap.size ≤ k → Free k)
    (hsq : ∀ n W, 1 ≤ n → Below w.heap.size w W → SeqL n 0 Try.prog 54 #[.pointer (some ⟨bx, 0, none⟩)] encP P Free W)
    (H : ∀ x ∈ P, ∀ W, Below w.heap.size w W → Calls Try.prog 36 #[.agg #[.int .i64 x.1.N, .int .i64 x.1.D], .pointer (some ⟨p1, 0, none⟩), .pointer (some ⟨p2, 0, none⟩)] W fun e w' => e = .returned (.tuple #[.agg #[.int .i64 (f x.1).1.N, .int .i64 (f x.1).1.D], .int .i64 (f x.1).2]) ∧ Below W.heap.size W w') :
    Calls Try.prog 21 #[.func (.func 54) #[] #[.pointer (some ⟨bx, 0, none⟩)], .func (.func 36) #[] #[.pointer (some ⟨p1, 0, none⟩), .pointer (some ⟨p2, 0, none⟩)]] w fun e w' => ∃ v, e = .returned (.tuple #[v, .int .i64 (errK f P)]) ∧ (errK f P = 0 → w'.ownsRow w.heap.size 45 4 v P.length (flatKn (kntK f P))) ∧ Below w.heap.size w w' := by
  obtain ⟨j0, hJ, hy0, hy1, hy2⟩ := info_partsK infoKnK
  have HH := hideK H
  have HSq := hideK hsq
  clear H hsq
  refine (callsIn_wide (n := 9)).1 ?_
  refine callsIn_of_wp_marks Try.func21 rfl trivial ?_ rfl
  simp only [Try.ntmps21, List.size_toArray, List.length_cons, List.length_nil, Nat.reduceAdd, Nat.reduceSub, Array.replicate_succ, Array.replicate_zero, List.push_toArray, List.append_toArray, List.nil_append, List.cons_append]
  gi_wp2_with fail
  obtain ⟨V, hV⟩ : ∃ V, (((w.alloc (.cells #[.func (.func 36) #[] #[.pointer (some ⟨p1, 0, none⟩), .pointer (some ⟨p2, 0, none⟩)]] 47)).alloc (.cells #[.slice none 0 0] 22)).alloc (.cells #[.int .i64 0] 26)).alloc (.cells #[.slice none 0 0] 22) = V := ⟨_, rfl⟩
  have hzV : V.heap.size = w.heap.size + 4 := by rw [← hV]; simp
  have b0 : Boxed V w.heap.size 47 (.func (.func 36) #[] #[.pointer (some ⟨p1, 0, none⟩), .pointer (some ⟨p2, 0, none⟩)]) := by rw [← hV]; exact (((Boxed.new w _ _).alloc _).alloc _).alloc _
  have b1 : Boxed V (w.heap.size + 1) 22 (.slice none 0 0) := by
    rw [← hV]
    have h := Boxed.new (w.alloc (.cells #[.func (.func 36) #[] #[.pointer (some ⟨p1, 0, none⟩), .pointer (some ⟨p2, 0, none⟩)]] 47)) 22 (.slice none 0 0)
    rw [World.size_alloc] at h
    exact (h.alloc _).alloc _
  have b2 : Boxed V (w.heap.size + 1 + 1) 26 (.int .i64 0) := by
    rw [← hV]
    have h := Boxed.new ((w.alloc (.cells #[.func (.func 36) #[] #[.pointer (some ⟨p1, 0, none⟩), .pointer (some ⟨p2, 0, none⟩)]] 47)).alloc (.cells #[.slice none 0 0] 22)) 26 (.int .i64 0)
    rw [World.size_alloc, World.size_alloc] at h
    exact h.alloc _
  have b3 : Boxed V (w.heap.size + 1 + 1 + 1) 22 (.slice none 0 0) := by
    rw [← hV]
    have h := Boxed.new (((w.alloc (.cells #[.func (.func 36) #[] #[.pointer (some ⟨p1, 0, none⟩), .pointer (some ⟨p2, 0, none⟩)]] 47)).alloc (.cells #[.slice none 0 0] 22)).alloc (.cells #[.int .i64 0] 26)) 22 (.slice none 0 0)
    rw [World.size_alloc, World.size_alloc, World.size_alloc] at h
    exact h
  have hB : Below w.heap.size w V := by
    rw [← hV]
    exact bup (bup (bup (bel1 _ _) (bel1 _ _)) (bel1 _ _)) (bel1 _ _)
  rw [hV]
  clear hV
  refine rangeFunc_box (α := Rt × Int) (by omega) (gf := 54) (lb := #[.pointer (some ⟨bx, 0, none⟩)]) rfl (enters_of Try.func54 (by kernel_rfl) rfl)
    (HSq.out (9 - 1) V (by omega) hB) (fun _ => rfl)
    (fun k => k = w.heap.size + 1 ∨ k = w.heap.size + 1 + 1 ∨ k = w.heap.size + 1 + 1 + 1) (fun k e => ⟨by omega, hFr k (by omega)⟩)
    (fun pre W => errK f pre = 0 ∧ Boxed W (w.heap.size + 1) 22 (.slice none 0 0) ∧ Boxed W (w.heap.size + 1 + 1) 26 (.int .i64 0) ∧ ∃ v, Boxed W (w.heap.size + 1 + 1 + 1) 22 v ∧ W.ownsRow (V.heap.size + 2 + 0) 45 4 v pre.length (flatKn (kntK f pre)))
    (fun c pre W => c = .ret ∧ ∃ er, ¬ er = 0 ∧ errK f pre = er ∧ Boxed W (w.heap.size + 1) 22 (.slice none 0 0) ∧ Boxed W (w.heap.size + 1 + 1) 26 (.int .i64 er))
    (fun pre A B h hk => by
      obtain ⟨h0, h1, h2, v, h3, h4⟩ := h
      exact ⟨h0, boxed_keepsK h1 hk (by omega), boxed_keepsK h2 hk (by omega), v, boxed_keepsK h3 hk (by omega), own_keepsK h4 hk⟩)
    (fun c pre A B h hk => by
      obtain ⟨h0, er, h1, h2, h3, h4⟩ := h
      exact ⟨h0, er, h1, h2, boxed_keepsK h3 hk (by omega), boxed_keepsK h4 hk (by omega)⟩)
    ⟨rfl, b1, b2, _, b3, World.ownsRow_nil _ _ _ _⟩ ?round ?done ?stop
  case round =>
    rintro l pre x W K hl hlW hhi hlh hBW hip hpx hK
    have hWz := hBW.size
    have hpl : pre.length + 1 ≤ P.length := by have := hpx.length_le; simpa using this
    have HX := hideK (HH.out x (by
      obtain ⟨T, hT⟩ := hpx
      rw [← hT]
      simp))
    simp only [encP]
    gi_wp2
    refine hK _ _ ((Below.refl _ W).alloc (Nat.le_refl _) _) (fun W2 hbo hzz hB2 hi2 => ?_)
    have hWW : W.heap.size + 1 = W2.heap.size := by rw [hzz]; simp
    clear hzz hK
    have hx : Two W2 W.heap.size (.int .i64 x.1.N) (.int .i64 x.1.D) := by
      have e : W2.heap[W.heap.size]? = some (.cells #[.int .i64 x.1.N, .int .i64 x.1.D] 42) := (hbo.same W.heap.size (by simp) (by omega)).trans (World.alloc_heap_new W _)
      exact ⟨by omega, by simp [World.cell?, e], by simp [World.cell?, e], by simp [World.frozen?, e], by simp [World.frozen?, e]⟩
    obtain ⟨he0, c1, c2, v, c3, hrow⟩ := hi2
    have m0 := boxed_butK b0 hB2 (by omega)
    have hBW2 : Below w.heap.size w W2 := hB.trans (hB2.below (by omega) (fun k e => by omega))
    obtain ⟨x, xe⟩ := x
    simp only at hx HX hpx
    have HXx := hideK hx
    have HC := hideK (And.intro he0 (And.intro c1 (And.intro c2 (And.intro c3 (And.intro hrow (And.intro m0 hBW2))))))
    have q1 := c1.cell
    have q1f := c1.frozen
    have q2 := c2.cell
    have q2f := c2.frozen
    obtain ⟨_, k0, k1, _, _⟩ := hx
    have km := m0.cell
    clear hpx hbo hB2 he0 c1 c2 c3 hrow hBW2 m0
    by_cases hxe : xe = 0
    · subst hxe
      obtain ⟨r, hr⟩ : ∃ r, f x = r := ⟨_, rfl⟩
      have HR := hideK hr
      rw [hr] at HX
      clear hr
      gi_wp2_with fail
      refine ⟨trivial, ?_⟩
      refine (callsIn_wide.2 (HX.out W2 HC.out.2.2.2.2.2.2)).mono ?_
      rintro e w4 ⟨rfl, b4⟩
      have HB4 := hideK b4
      clear b4 HX q1 q1f q2 q2f k0 k1 km
      gi_upto_region 8 with fail
      obtain ⟨w5, hw5⟩ : ∃ w5, w4.alloc (.cells #[.int .i64 r.1.N, .int .i64 r.1.D] 42) = w5 := ⟨_, rfl⟩
      have HB5 : Hid (Below W2.heap.size W2 w5 ∧ Two w5 w4.heap.size (.int .i64 r.1.N) (.int .i64 r.1.D)) := hideK (by
        rw [← hw5]
        exact ⟨bup HB4.out (bel1 _ _), Two.new _ _ _ _⟩)
      rw [hw5]
      clear hw5
      generalize w4.heap.size = B4 at *
      obtain ⟨_, y0, y1, _, _⟩ := HB5.out.2
      obtain ⟨he0, c1, c2, c3, hrow, m0, hBW2⟩ := HC.out
      have kp : ∀ {k : Nat} {t : TypeId} {u : Value}, Boxed W2 k t u → Boxed w5 k t u := fun h => (HB5.out.1.block _ h.lt).trans h
      have hz5 := HB5.out.1.size
      by_cases hre : r.2 = 0
      · obtain ⟨_, k0, k1, _, _⟩ := HXx.out.keep HB5.out.1
        have c3' := kp c3
        have hrow5 := own_growK hrow HB5.out.1
        have e3 := c3'.cell
        have HD := hideK (And.intro he0 (And.intro (kp c1) (And.intro (kp c2) (And.intro c3' hrow5))))
        clear c1 c2 c3 hrow m0 hBW2 he0
        gi_upto_region 10 with fail
        gi_wp2_with (gi_at_builtin; refine wpListIn_append_own _ rfl _ _ 22 rfl (V.heap.size + 2 + 0) 45 j0 (.agg #[.int .i64 0, .int .i64 0, .int .i64 0, .int .i64 0]) 4 32 Try.underlying22 hJ hy0 hy1 hy2 rfl (by decide) _ _ _ rfl (hrow5.alloc _) ⟨w5.heap.size, 0, none⟩ 1 1 [.int .i64 x.N, .int .i64 x.D, .int .i64 r.1.N, .int .i64 r.1.D] rfl rfl (cell_fourK _ _ _ _ _ _) (fun u hu => by simp at hu; rcases hu with rfl | rfl | rfl | rfl <;> rfl) (by unfold maxLen; omega) (by omega) (by simp; omega) ?_; intro v' Y1 hown' hgrow _; obtain ⟨g2, cap2, rfl⟩ := ownsRow_succ hown'; have d3 : Boxed Y1 (w.heap.size + 1 + 1 + 1) 22 v := (c3'.alloc _).kept hgrow (fun e => by have := (hrow5.lt _ e.symm).1; omega); have k3 := d3.cell; have f3 := d3.frozen)
        refine ⟨(((But.grown HB5.out.1).alloc _).trans (but_grownK hgrow (fun k e => .inr (hrow5.lt k e).1))).setCell (p := ⟨w.heap.size + 1 + 1 + 1, 0, none⟩) (.inl (.inr (.inr rfl))) _, ?_, ?_, ?_, _, Boxed.set _ d3, ?_⟩
        · rw [errK_app, if_pos HD.out.1]
          simp [errK, HR.out, hre]
        · exact ((HD.out.2.1.alloc _).kept hgrow (fun e => by have := (hrow5.lt _ e.symm).1; omega)).kept (grownBy_setCell' _ _ _) (by simp)
        · exact ((HD.out.2.2.1.alloc _).kept hgrow (fun e => by have := (hrow5.lt _ e.symm).1; omega)).kept (grownBy_setCell' _ _ _) (by simp)
        · rw [List.length_append, show kntK f (pre ++ [(x, 0)]) = kntK f pre ++ [⟨x, r.1⟩] by simp [kntK, HR.out], flatKn_app]
          exact hown'.kept (grownBy_setCell' Y1 _ _) (.inr (fun e => by have := (hown'.lt _ e).1; omega))
      · have e1 := (kp c1).cell
        have e1f := (kp c1).frozen
        have c2' : Boxed (w5.setCell ⟨w.heap.size + 1, 0, none⟩ (.slice none 0 0)) (w.heap.size + 1 + 1) 26 (.int .i64 0) := (kp c2).kept (grownBy_setCell' _ _ _) (by simp)
        have e2 := c2'.cell
        have e2f := c2'.frozen
        have HD := hideK (And.intro he0 (And.intro (kp c1) c2'))
        clear c1 c2 c3 hrow m0 hBW2 he0 c2'
        gi_wp2
        refine ⟨(((But.grown HB5.out.1).setCell (p := ⟨w.heap.size + 1, 0, none⟩) (.inl (.inl rfl)) _).setCell (p := ⟨w.heap.size + 1 + 1, 0, none⟩) (.inl (.inr (.inl rfl))) _), rfl, r.2, hre, ?_, ?_, ?_⟩
        · rw [errK_app, if_pos HD.out.1]
          simp [errK, HR.out, hre]
        · exact (Boxed.set _ HD.out.2.1).kept (grownBy_setCell' _ _ _) (by simp)
        · exact Boxed.set _ HD.out.2.2
    · have c2' : Boxed (W2.setCell ⟨w.heap.size + 1, 0, none⟩ (.slice none 0 0)) (w.heap.size + 1 + 1) 26 (.int .i64 0) := HC.out.2.2.1.kept (grownBy_setCell' _ _ _) (by simp)
      have e2 := c2'.cell
      have e2f := c2'.frozen
      have HD := hideK c2'
      clear c2' q2 q2f
      gi_wp2
      refine ⟨((But.set W2 ⟨w.heap.size + 1, 0, none⟩ _ (.inl (.inl rfl))).setCell (p := ⟨w.heap.size + 1 + 1, 0, none⟩) (.inl (.inr (.inl rfl))) _), rfl, xe, hxe, ?_, ?_, ?_⟩
      · rw [errK_app, if_pos HC.out.1]
        simp [errK, hxe]
      · exact (Boxed.set _ HC.out.2.1).kept (grownBy_setCell' _ _ _) (by simp)
      · exact Boxed.set _ HD.out
  case done =>
    rintro D W hD ⟨he, c1, c2, v, hv, hrow⟩ hBW hK
    have k0 := hv.cell
    have q1 := c1.cell
    have q1f := c1.frozen
    obtain ⟨o2, p2, rfl, _, _, _⟩ := own_kn (show W.ownsRow _ _ 4 v P.length (flatKn (kntK f P)) from hrow)
    have c2' : Boxed (W.setCell ⟨w.heap.size + 1, 0, none⟩ (.slice o2 P.length p2)) (w.heap.size + 1 + 1) 26 (.int .i64 0) := c2.kept (grownBy_setCell' _ _ _) (by simp)
    have e2 := c2'.cell
    have e2f := c2'.frozen
    have HD := hideK (And.intro c1 (And.intro c2' (And.intro hrow (And.intro hK (And.intro hBW he)))))
    clear c1 c2 c2' hv hrow hK hBW he
    gi_wp2
    obtain ⟨X, hX⟩ : ∃ X, (W.setCell ⟨w.heap.size + 1, 0, none⟩ (.slice o2 P.length p2)).setCell ⟨w.heap.size + 1 + 1, 0, none⟩ (.int .i64 0) = X := ⟨_, rfl⟩
    rw [hX]
    obtain ⟨c1, c2, hrow, hK, hBW, he⟩ := HD.out
    have bX : Below w.heap.size w X := by
      rw [← hX]
      exact ((hB.trans (hBW.below (by omega) (fun k e => by omega))).setCell (by show w.heap.size ≤ w.heap.size + 1; omega) _).setCell (by show w.heap.size ≤ w.heap.size + 1 + 1; omega) _
    have x1 : Boxed X (w.heap.size + 1) 22 (.slice o2 P.length p2) := by rw [← hX]; exact (Boxed.set _ c1).kept (grownBy_setCell' _ _ _) (by simp)
    have x2 : Boxed X (w.heap.size + 1 + 1) 26 (.int .i64 0) := by rw [← hX]; exact Boxed.set _ c2
    have xD : X.heap[D]? = some (.deferred (some [])) := by
      rw [← hX]
      exact ((Below.heap_setCell _ _ _ _ (by show D ≠ w.heap.size + 1 + 1; omega)).trans (Below.heap_setCell _ _ _ _ (by show D ≠ w.heap.size + 1; omega))).trans hK
    have xr : X.ownsRow (V.heap.size + 2 + 0) 45 4 (.slice o2 P.length p2) P.length (flatKn (kntK f P)) := by
      rw [← hX]
      refine ((show W.ownsRow _ _ 4 _ P.length _ from hrow).kept (grownBy_setCell' W _ _) (.inr (fun e => ?_))).kept (grownBy_setCell' _ _ _) (.inr (fun e => ?_))
      · have := (hrow.lt _ e).1
        omega
      · have := (hrow.lt _ e).1
        omega
    clear hX c1 c2 hrow hK hBW HD
    refine ⟨by simp, .inl ⟨_, _, rfl, run_takeDeferred xD, ?_⟩⟩
    have y1 := (boxed_putK (o' := .deferred none) x1 xD).cell
    have y2 := (boxed_putK (o' := .deferred none) x2 xD).cell
    refine ⟨.tuple #[.slice o2 P.length p2, .int .i64 0], by simp [results, Try.f21, go_sem, y1, y2], .slice o2 P.length p2, by rw [he], fun _ => ?_, bX.trans ((putObj_belowL _ _ _).mono (by omega))⟩
    exact own_fromK (own_putK xr xD) (by omega)
  case stop =>
    rintro D c pre W hD hpre ⟨rfl, er, hne, her, c1, c2⟩ hBW hK
    have q1 := c1.cell
    have q2 := c2.cell
    have HD := hideK (And.intro c1 (And.intro c2 (And.intro hK (And.intro hBW her))))
    clear c1 c2 hK hBW her
    gi_wp2
    obtain ⟨c1, c2, hK, hBW, her⟩ := HD.out
    refine ⟨by simp, .inl ⟨_, _, rfl, run_takeDeferred hK, ?_⟩⟩
    have y1 := (boxed_putK (o' := .deferred none) c1 hK).cell
    have y2 := (boxed_putK (o' := .deferred none) c2 hK).cell
    have hE : errK f P = er := by rw [errK_front hpre (by rw [her]; exact hne), her]
    refine ⟨.tuple #[.slice none 0 0, .int .i64 er], by simp [results, Try.f21, go_sem, y1, y2], .slice none 0 0, by rw [hE], fun h => absurd (hE.symm.trans h) hne, ?_⟩
    exact (hB.trans (hBW.below (by omega) (fun k e => by omega))).trans ((putObj_belowL _ _ _).mono (by omega))
end Go.Proofs.Ytipnefaggpigfaa

/- One map behind another, at a time: the closure of Then (chapter 6). -/
namespace Go.Proofs.Ytipnefaggpigfaa
open Go.RowKit Go.Shelf

def bothF (K1 K2 : List Kn) (t : Rt) : Rt × Int := if ¬ (appF K1 (slsK K1) t).2 = 0 then (⟨0, 0⟩, (appF K1 (slsK K1) t).2) else appF K2 (slsK K2) (appF K1 (slsK K1) t).1
set_option maxRecDepth 100000 in
set_option maxHeartbeats 1000000 in
theorem both_walk (B1 B2 p1 p2 : Nat) (t : Rt) (a : Rt × Int) (b : Rt × Int) (r : Rt × Int) (hr : r = if ¬ a.2 = 0 then (⟨0, 0⟩, a.2) else b) (w : World) (hp1 : p1 < w.heap.size) (hp2 : p2 < w.heap.size)
    (k1 : w.cell? ⟨p1, 0, none⟩ = some (.pointer (some ⟨B1, 0, none⟩))) (k2 : w.cell? ⟨p2, 0, none⟩ = some (.pointer (some ⟨B2, 0, none⟩)))
    (H1 : ∀ W, Below w.heap.size w W → Calls Try.prog 16 #[.pointer (some ⟨B1, 0, none⟩), .agg #[.int .i64 t.N, .int .i64 t.D]] W fun e w' => e = .returned (.tuple #[.agg #[.int .i64 a.1.N, .int .i64 a.1.D], .int .i64 a.2]) ∧ Below W.heap.size W w')
    (H2 : a.2 = 0 → ∀ W, Below w.heap.size w W → Calls Try.prog 16 #[.pointer (some ⟨B2, 0, none⟩), .agg #[.int .i64 a.1.N, .int .i64 a.1.D]] W fun e w' => e = .returned (.tuple #[.agg #[.int .i64 b.1.N, .int .i64 b.1.D], .int .i64 b.2]) ∧ Below W.heap.size W w') :
    Calls Try.prog 36 #[.agg #[.int .i64 t.N, .int .i64 t.D], .pointer (some ⟨p1, 0, none⟩), .pointer (some ⟨p2, 0, none⟩)] w fun e w' => e = .returned (.tuple #[.agg #[.int .i64 r.1.N, .int .i64 r.1.D], .int .i64 r.2]) ∧ Below w.heap.size w w' := by
  obtain ⟨PO, hPO⟩ : ∃ PO : Ending → World → Prop, (fun e w' => e = .returned (.tuple #[.agg #[.int .i64 r.1.N, .int .i64 r.1.D], .int .i64 r.2]) ∧ Below w.heap.size w w') = PO := ⟨_, rfl⟩
  have HP := hideK hPO
  rw [hPO]
  have HH1 := hideK H1
  have HH2 := hideK H2
  have HR := hideK hr
  have HK1 := hideK k1
  have HK2 := hideK k2
  clear hPO H1 H2 hr
  go_enter Try.func36, Try.ntmps36
  go_upto_region 1 with fail
  obtain ⟨V, hV⟩ : ∃ V, (w.alloc (.cells #[.int .i64 t.N, .int .i64 t.D] 42)).alloc (.cells #[.int .i64 0, .int .i64 0] 42) = V := ⟨_, rfl⟩
  have HV : Hid (Below w.heap.size w V ∧ Two V w.heap.size (.int .i64 t.N) (.int .i64 t.D) ∧ Two V (w.heap.size + 1) (.int .i64 0) (.int .i64 0)) := hideK (by
    rw [← hV]
    have h2 := Two.new (w.alloc (.cells #[.int .i64 t.N, .int .i64 t.D] 42)) (.int .i64 0) (.int .i64 0) 42
    rw [World.size_alloc] at h2
    exact ⟨bup (bel1 _ _) (bel1 _ _), (Two.new _ _ _ _).alloc _, h2⟩)
  rw [hV]
  clear hV
  have q1 := (HV.out.1.cell (p := ⟨p1, 0, none⟩) hp1).trans HK1.out
  obtain ⟨_, c0, c1, _, _⟩ := HV.out.2.1
  clear k1 k2
  go_wp2_with fail
  refine (HH1.out V HV.out.1).mono ?_
  rintro e w1 ⟨rfl, b1⟩
  have H1 : Hid (Below w.heap.size w w1 ∧ Two w1 w.heap.size (.int .i64 t.N) (.int .i64 t.D) ∧ Two w1 (w.heap.size + 1) (.int .i64 0) (.int .i64 0)) := hideK ⟨bup HV.out.1 b1, HV.out.2.1.keep b1, HV.out.2.2.keep b1⟩
  clear b1 HH1 HV q1 c0 c1
  obtain ⟨_, c0, c1, f0, f1⟩ := H1.out.2.1
  go_upto_region 2 with fail
  obtain ⟨V, hV⟩ : ∃ V, (w1.setCell ⟨w.heap.size, 0, none⟩ (.int .i64 a.1.N)).setCell ⟨w.heap.size, 1, none⟩ (.int .i64 a.1.D) = V := ⟨_, rfl⟩
  have HV : Hid (Below w.heap.size w V ∧ Two V w.heap.size (.int .i64 a.1.N) (.int .i64 a.1.D) ∧ Two V (w.heap.size + 1) (.int .i64 0) (.int .i64 0)) := hideK (by
    rw [← hV]
    exact ⟨(H1.out.1.setCell (Nat.le_refl _) _).setCell (Nat.le_refl _) _, H1.out.2.1.set, H1.out.2.2.other (by omega)⟩)
  rw [hV]
  clear hV c0 c1 f0 f1 H1
  by_cases ha : a.2 = 0
  · have HH := hideK (HH2.out ha)
    have HA := hideK ha
    have q2 := (HV.out.1.cell (p := ⟨p2, 0, none⟩) hp2).trans HK2.out
    obtain ⟨_, c0, c1, _, _⟩ := HV.out.2.1
    go_wp2_with fail
    refine (HH.out V HV.out.1).mono ?_
    rintro e w2 ⟨rfl, b2⟩
    have H2 : Hid (Below w.heap.size w w2 ∧ Two w2 (w.heap.size + 1) (.int .i64 0) (.int .i64 0)) := hideK ⟨bup HV.out.1 b2, HV.out.2.2.keep b2⟩
    clear b2 HH HV q2 c0 c1
    obtain ⟨_, c0, c1, f0, f1⟩ := H2.out.2
    go_wp2_with fail
    refine bodyPost_ret (v := .tuple #[.agg #[.int .i64 b.1.N, .int .i64 b.1.D], .int .i64 b.2]) (by simp [results, Try.results36, go_sem, c0, c1]) rfl ?_
    rw [← HP.out, HR.out, if_neg (fun e => e HA.out)]
    exact ⟨rfl, (H2.out.1.setCell (by show w.heap.size ≤ w.heap.size + 1; omega) _).setCell (by show w.heap.size ≤ w.heap.size + 1; omega) _⟩
  · have HA := hideK ha
    obtain ⟨_, c0, c1, f0, f1⟩ := HV.out.2.2
    go_wp2_with fail
    refine bodyPost_ret (v := .tuple #[.agg #[.int .i64 0, .int .i64 0], .int .i64 a.2]) (by simp [results, Try.results36, go_sem, c0, c1]) rfl ?_
    rw [← HP.out, HR.out, if_pos HA.out]
    exact ⟨rfl, (HV.out.1.setCell (by show w.heap.size ≤ w.heap.size + 1; omega) _).setCell (by show w.heap.size ≤ w.heap.size + 1; omega) _⟩
theorem both_any (K1 K2 : List Kn) (B1 B2 p1 p2 : Nat) (t : Rt) (h1 : (∀ x ∈ K1, KnIn x) ∧ (slsK K1).length = K1.length + 1 ∧ K1.length ≤ 1000 ∧ 1 ≤ K1.length ∧ RisQ (·.i) K1 ∧ ∀ x ∈ slsK K1, RtIn x) (h2 : (∀ x ∈ K2, KnIn x) ∧ (slsK K2).length = K2.length + 1 ∧ K2.length ≤ 1000 ∧ 1 ≤ K2.length ∧ RisQ (·.i) K2 ∧ ∀ x ∈ slsK K2, RtIn x)
    (ht : RtIn t) (w : World) (hp1 : p1 < w.heap.size) (hp2 : p2 < w.heap.size) (k1 : w.cell? ⟨p1, 0, none⟩ = some (.pointer (some ⟨B1, 0, none⟩))) (k2 : w.cell? ⟨p2, 0, none⟩ = some (.pointer (some ⟨B2, 0, none⟩))) (hM1 : MapAt w B1 K1 (slsK K1)) (hM2 : MapAt w B2 K2 (slsK K2)) :
    Calls Try.prog 36 #[.agg #[.int .i64 t.N, .int .i64 t.D], .pointer (some ⟨p1, 0, none⟩), .pointer (some ⟨p2, 0, none⟩)] w fun e w' => e = .returned (.tuple #[.agg #[.int .i64 (bothF K1 K2 t).1.N, .int .i64 (bothF K1 K2 t).1.D], .int .i64 (bothF K1 K2 t).2]) ∧ Below w.heap.size w w' :=
  both_walk B1 B2 p1 p2 t (appF K1 (slsK K1) t) (appF K2 (slsK K2) (appF K1 (slsK K1) t).1) (bothF K1 K2 t) rfl w hp1 hp2 k1 k2
    (fun W q => apply_fun K1 (slsK K1) B1 t h1.1 h1.2.2.2.2.2 ht h1.2.1 h1.2.2.1 h1.2.2.2.1 h1.2.2.2.2.1 W (hM1.keep q))
    (fun _ W q => apply_fun K2 (slsK K2) B2 _ h2.1 h2.2.2.2.2.2 (appF_in _ _ _) h2.2.1 h2.2.2.1 h2.2.2.2.1 h2.2.2.2.2.1 W (hM2.keep q))
end Go.Proofs.Ytipnefaggpigfaa

/- One map and then another: retime's Then is walked (chapter 6). -/
namespace Go.Proofs.Ytipnefaggpigfaa
open Go.RowKit Go.Shelf

def thnC (K1 K2 : List Kn) : List Rt := allQ (undF K1 (slsK K1)) (bndK K2)
def thnB (K1 K2 : List Kn) : List Rt := mrgR (bndK K1) (thnC K1 K2)
def thnP (K1 K2 : List Kn) : List (Rt × Int) := ptsA (thnB K1 K2)
def thnL (K1 K2 : List Kn) : List Kn := kntK (bothF K1 K2) (thnP K1 K2)
def thnE (K1 K2 : List Kn) : Int := if ¬ (allI (undF K1 (slsK K1)) 0 (bndK K2)).2 = 0 then (allI (undF K1 (slsK K1)) 0 (bndK K2)).2 else if ¬ errK (bothF K1 K2) (thnP K1 K2) = 0 then errK (bothF K1 K2) (thnP K1 K2) else newE (thnL K1 K2)
def MpK (K : List Kn) : Prop := (∀ x ∈ K, KnIn x) ∧ (slsK K).length = K.length + 1 ∧ K.length ≤ 1000 ∧ 1 ≤ K.length ∧ RisQ (·.i) K ∧ ∀ x ∈ slsK K, RtIn x
theorem own_rt0 {W : World} {base n : Nat} {o : Option Addr} {cap : Nat} {xs : List Value} {e : TypeId} {sz : Nat} (h : W.ownsRow base e sz (.slice o n cap) n xs) : o = none → cap = 0 := by
  rintro rfl
  rcases h.2 with ⟨e, -⟩ | ⟨g, cap, cur, e, _⟩
  · cases e
    rfl
  · cases e
theorem allQ_in {f : Rt → Rt × Int} (hf : ∀ t, RtIn (f t).1) (T : List Rt) : (∀ x ∈ allQ f T, RtIn x) ∧ (allQ f T).length ≤ T.length := by
  unfold allQ
  split
  · exact ⟨fun x hx => (by obtain ⟨t, -, rfl⟩ := List.mem_map.1 hx; exact hf t), by simp⟩
  · exact ⟨fun x hx => (by cases hx), by simp⟩
theorem mrg_len : ∀ (A C : List Rt), (mrgR A C).length ≤ A.length + C.length
  | [], C => by simp [mrgR]
  | a :: A, [] => by simp [mrgR]
  | a :: A, c :: C => by
    rw [mrgR]
    have h1 := mrg_len A (c :: C)
    have h2 := mrg_len A C
    have h3 := mrg_len (a :: A) C
    simp only [List.length_cons] at *
    split
    · simp only [List.length_cons]; omega
    · split <;> simp only [List.length_cons] <;> omega
termination_by A C => A.length + C.length
theorem bothF_in (K1 K2 : List Kn) (t : Rt) : RtIn (bothF K1 K2 t).1 := by
  unfold bothF
  split
  · exact bad_inK
  · exact appF_in _ _ _
theorem thn_in (K1 K2 : List Kn) (h1 : ∀ x ∈ K1, KnIn x) : (∀ x ∈ thnB K1 K2, RtIn x) ∧ (∀ x ∈ thnL K1 K2, KnIn x) ∧ (thnB K1 K2).length ≤ K1.length + K2.length := by
  have hc := allQ_in (f := undF K1 (slsK K1)) (fun t => undF_in _ _ _) (bndK K2)
  have hb : ∀ x ∈ thnB K1 K2, RtIn x := fun x hx => by
    rcases mrg_mem _ _ x hx with h | h
    · exact bnd_in K1 h1 x h
    · exact hc.1 x h
  refine ⟨hb, fun x hx => ?_, ?_⟩
  · obtain ⟨p, hp, rfl⟩ := List.mem_map.1 hx
    exact ⟨(pts_in _ hb).1 p hp, bothF_in K1 K2 p.1⟩
  · have := mrg_len (bndK K1) (thnC K1 K2)
    have e1 := bnd_len K1
    have e2 := bnd_len K2
    have e3 : (thnC K1 K2).length ≤ (bndK K2).length := hc.2
    show (mrgR _ _).length ≤ _
    omega
set_option maxRecDepth 100000 in
set_option maxHeartbeats 4000000 in
theorem then_any6 (K1 K2 : List Kn) (B1 B2 : Nat) (h1 : MpK K1) (h2 : MpK K2) (ho1 : RisQ (·.o) K1) (w : World) (hM1 : MapAt w B1 K1 (slsK K1)) (hM2 : MapAt w B2 K2 (slsK K2)) :
    Calls Try.prog 10 #[.pointer (some ⟨B1, 0, none⟩), .pointer (some ⟨B2, 0, none⟩)] w fun e w' => Below w.heap.size w w' ∧ ((thnE K1 K2 = 0 ∧ ∃ B, e = .returned (.tuple #[.pointer (some ⟨B, 0, none⟩), .int .i64 0]) ∧ w.heap.size ≤ B ∧ MapAt w' B (newK (thnL K1 K2)) (slsK (newK (thnL K1 K2)))) ∨ (¬ thnE K1 K2 = 0 ∧ e = .returned (.tuple #[.pointer none, .int .i64 (thnE K1 K2)]))) := by
  obtain ⟨PO, hPO⟩ : ∃ PO : Ending → World → Prop, (fun e w' => Below w.heap.size w w' ∧ ((thnE K1 K2 = 0 ∧ ∃ B, e = .returned (.tuple #[.pointer (some ⟨B, 0, none⟩), .int .i64 0]) ∧ w.heap.size ≤ B ∧ MapAt w' B (newK (thnL K1 K2)) (slsK (newK (thnL K1 K2)))) ∨ (¬ thnE K1 K2 = 0 ∧ e = .returned (.tuple #[.pointer none, .int .i64 (thnE K1 K2)])))) = PO := ⟨_, rfl⟩
  have HP := hideK hPO
  have Hm := hideK (And.intro h1 (And.intro h2 ho1))
  have HM := hideK (And.intro hM1 hM2)
  rw [hPO]
  clear hPO h1 h2 ho1 hM1 hM2
  go_enter Try.func10, Try.ntmps10
  go_upto_region 1 with fail
  obtain ⟨V, hV⟩ : ∃ V, (w.alloc (.cells #[.pointer (some ⟨B1, 0, none⟩)] 25)).alloc (.cells #[.pointer (some ⟨B2, 0, none⟩)] 25) = V := ⟨_, rfl⟩
  have HV : Hid (Below w.heap.size w V ∧ w.heap.size + 1 < V.heap.size ∧ V.cell? ⟨w.heap.size, 0, none⟩ = some (.pointer (some ⟨B1, 0, none⟩)) ∧ V.cell? ⟨w.heap.size + 1, 0, none⟩ = some (.pointer (some ⟨B2, 0, none⟩))) := hideK (by
    rw [← hV]
    have e1 := Boxed.new w 25 (.pointer (some ⟨B1, 0, none⟩))
    have e2 := Boxed.new (w.alloc (.cells #[.pointer (some ⟨B1, 0, none⟩)] 25)) 25 (.pointer (some ⟨B2, 0, none⟩))
    rw [World.size_alloc] at e2
    exact ⟨bup (bel1 _ _) (bel1 _ _), by simp, (e1.alloc _).cell, e2.cell⟩)
  rw [hV]
  clear hV
  have HK : Hid (∀ W, Below V.heap.size V W → W.cell? ⟨w.heap.size, 0, none⟩ = some (.pointer (some ⟨B1, 0, none⟩)) ∧ W.cell? ⟨w.heap.size + 1, 0, none⟩ = some (.pointer (some ⟨B2, 0, none⟩))) := hideK (fun W q => ⟨(q.cell (p := ⟨w.heap.size, 0, none⟩) (show w.heap.size < V.heap.size by have := HV.out.2.1; omega)).trans HV.out.2.2.1, (q.cell (p := ⟨w.heap.size + 1, 0, none⟩) HV.out.2.1).trans HV.out.2.2.2⟩)
  have HM1 : Hid (∀ W, Below V.heap.size V W → MapAt W B1 K1 (slsK K1) ∧ MapAt W B2 K2 (slsK K2)) := hideK (fun W q => ⟨HM.out.1.keep (bup HV.out.1 q), HM.out.2.keep (bup HV.out.1 q)⟩)
  have HBn : Hid (∀ W, Below V.heap.size V W → Calls Try.prog 23 #[.pointer (some ⟨B2, 0, none⟩)] W fun e w' => ∃ (o : Option Addr) (c : Nat), e = .returned (.slice o (bndK K2).length c) ∧ ((bndK K2).length ≤ c ∧ c ≤ maxLen) ∧ RtO w' o (bndK K2) ∧ Below W.heap.size W w') := hideK (fun W q => by
    refine (bends_any K2 (slsK K2) B2 Hm.out.2.1.2.1 Hm.out.2.1.2.2.1 W (HM1.out W q).2).mono ?_
    rintro e w' ⟨v, rfl, hown, b⟩
    obtain ⟨o, c, rfl, hc, hr, hl⟩ := own_rt (Q := bndK K2) hown
    refine ⟨o, c, ?_, by rw [hl]; exact hc, hr, b⟩
    rw [hl])
  have HEa : Hid (∀ W (o : Option Addr) (c : Nat), Below V.heap.size V W → ((bndK K2).length ≤ c ∧ c ≤ maxLen) → RtO W o (bndK K2) → Calls Try.prog 33 #[.slice o (bndK K2).length c, .func (.func 17) #[.pointer (some ⟨B1, 0, none⟩)] #[]] W fun e w' => ∃ (o' : Option Addr) (c' : Nat), e = .returned (.tuple #[.slice o' (thnC K1 K2).length c', .int .i64 (allI (undF K1 (slsK K1)) 0 (bndK K2)).1, .int .i64 (allI (undF K1 (slsK K1)) 0 (bndK K2)).2]) ∧ ((thnC K1 K2).length ≤ c' ∧ c' ≤ maxLen) ∧ (o' = none → c' = 0) ∧ RtO w' o' (thnC K1 K2) ∧ Below W.heap.size W w') := hideK (fun W o c q hc hr => by
    have hbi := bnd_in K2 Hm.out.2.1.1
    have hbl := bnd_len K2
    have hm := Hm.out.2.1.2.2.1
    refine (eachU_any6 (undF K1 (slsK K1)) B1 (bndK K2) o c hc (by omega) W hr (fun t ht W' q' => undo_fun K1 (slsK K1) B1 t Hm.out.1.1 Hm.out.1.2.2.2.2.2 (hbi t ht) Hm.out.1.2.1 Hm.out.1.2.2.1 Hm.out.1.2.2.2.1 Hm.out.2.2 W' (HM1.out W' (bup q q')).1)).mono ?_
    rintro e w' ⟨v, rfl, hown, b⟩
    obtain ⟨o', c', rfl, hc', hr', hl⟩ := own_rt (Q := thnC K1 K2) hown
    exact ⟨o', c', rfl, hc', own_rt0 hown, hr', b⟩)
  obtain ⟨c0, c1⟩ := HK.out V (Below.refl _ _)
  obtain ⟨nb, hnb⟩ : ∃ n, (bndK K2).length = n := ⟨_, rfl⟩
  obtain ⟨nc, hnc⟩ : ∃ n, (thnC K1 K2).length = n := ⟨_, rfl⟩
  obtain ⟨ei, hei⟩ : ∃ n, (allI (undF K1 (slsK K1)) 0 (bndK K2)).1 = n := ⟨_, rfl⟩
  obtain ⟨ee, hee⟩ : ∃ n, (allI (undF K1 (slsK K1)) 0 (bndK K2)).2 = n := ⟨_, rfl⟩
  have HNC := hideK (And.intro hnb (And.intro hnc hee))
  rw [hnb] at HBn HEa
  rw [hnc, hei, hee] at HEa
  clear hnb hnc hei hee
  go_cut [6, 8] (fun p e wx => ∃ o c, p = .slice o nc c ∧ e = .int .i64 ee ∧ (nc ≤ c ∧ c ≤ maxLen) ∧ (o = none → c = 0) ∧ RtO wx o (thnC K1 K2) ∧ Below V.heap.size V wx)
  case first =>
    go_region_held3 (fun W => W.cell? ⟨w.heap.size, 0, none⟩ = some (.pointer (some ⟨B1, 0, none⟩)) ∧ W.cell? ⟨w.heap.size + 1, 0, none⟩ = some (.pointer (some ⟨B2, 0, none⟩))) (first | go_keep | assumption) (first
      | (go_at_call 23; (with_reducible refine Calls.mono (HBn.out _ (by first | exact Below.refl V.heap.size V | exact (Below.refl V.heap.size V).drew)) ?_); rintro e v1 ⟨o1, q1, rfl, hq1, hr1, b1⟩; have k1 : Below V.heap.size V v1 := (by first | exact b1 | exact Below.drew_of b1 | exact bup (Below.refl V.heap.size V).drew b1); obtain ⟨e0, e1⟩ := HK.out _ k1)
      | (go_at_call 33; (with_reducible refine Calls.mono (HEa.out _ _ _ (by first | exact k1 | exact k1.drew) hq1 (by first | exact hr1 | exact hr1.keep ((Below.refl _ _).drew))) ?_); rintro e v2 ⟨o2, q2, rfl, hq2, hn2, hr2, b2⟩; have k2 : Below V.heap.size V v2 := (by first | exact bup k1 b2 | exact bup k1.drew b2); obtain ⟨g0, g1⟩ := HK.out _ k2))
    all_goals
      go_wp2_with fail
      go_meet
      case rel => exact ⟨o2, q2, rfl, rfl, hq2, hn2, hr2, k2⟩
  case rest =>
    obtain ⟨o2, q2, rfl, rfl, hq2, hn2, hr2, k2⟩ := hcut
    obtain ⟨X, rfl⟩ : ∃ X, X = wc := ⟨_, rfl⟩
    have HX := hideK (And.intro hr2 k2)
    clear hr2 k2 c0 c1 HBn HEa
    by_cases hz : ee = 0
    · subst hz
      obtain ⟨c0, c1⟩ := HK.out X HX.out.2
      have HBm := hideK (bends_any K1 (slsK K1) B1 Hm.out.1.2.1 Hm.out.1.2.2.1 X (HM1.out X HX.out.2).1)
      go_wp2_with fail
      refine HBm.out.mono ?_
      rintro e X2 ⟨v, rfl, hown, b2⟩
      obtain ⟨o3, q3, rfl, hq3, hr3, hl3⟩ := own_rt (Q := bndK K1) hown
      have hn3 := own_rt0 hown
      have HX2 := hideK (And.intro (bup HX.out.2 b2) (And.intro hr3 (HX.out.1.keep b2)))
      have hbl1 := bnd_len K1
      have hbl2 : (thnC K1 K2).length ≤ (bndK K2).length := (allQ_in (f := undF K1 (slsK K1)) (fun t => undF_in _ _ _) (bndK K2)).2
      have hbl3 := bnd_len K2
      have HMr := hideK (merge_any6 (bndK K1) (thnC K1 K2) o3 o2 q3 q2 (bnd_in K1 Hm.out.1.1) (allQ_in (f := undF K1 (slsK K1)) (fun t => undF_in _ _ _) (bndK K2)).1 (by rw [hl3]; exact hq3) (by rw [HNC.out.2.1]; exact hq2) (by have := Hm.out.1.2.2.1; omega) (by have := Hm.out.2.1.2.2.1; omega) hn3 hn2 X2 hr3 (HX.out.1.keep b2))
      rw [hl3, HNC.out.2.1] at HMr
      generalize (bntK K1 (slsK K1)).length = n3 at *
      clear hown hr3 hl3 b2 HBm c0 c1 hq3 hn3 hbl1 hbl2 hbl3 hq2 hn2
      go_wp2_with fail
      refine HMr.out.mono ?_
      rintro e X3 ⟨v, rfl, hown, b3⟩
      obtain ⟨o4, q4, rfl, hq4, hr4, hl4⟩ := own_rt (Q := thnB K1 K2) hown
      have HX3 := hideK (And.intro (bup HX2.out.1 b3) hr4)
      clear hown hr4 b3 HMr HX HX2
      have hl4' : (thnB K1 K2).length = (mrgR (bndK K1) (thnC K1 K2)).length := rfl
      rw [← hl4'] at hq4 ⊢
      obtain ⟨nb4, hnb4⟩ : ∃ n, (thnB K1 K2).length = n := ⟨_, rfl⟩
      have HN4 := hideK hnb4
      have HQ4 := hideK hq4
      rw [hnb4] at hq4 ⊢
      clear hl4 hl4' hnb4 hq4
      go_wp2_with fail
      refine (points_mk o4 nb4 q4 X3).mono ?_
      rintro e X4 ⟨rfl, hX4⟩
      have b4 : Below X3.heap.size X3 X4 := by rw [hX4]; exact bel1 _ _
      have hbx : Boxed X4 X3.heap.size 23 (.slice o4 nb4 q4) := by rw [hX4]; exact Boxed.new _ _ _
      have HPt : Hid (PtV X4 X3.heap.size o4 (thnB K1 K2) q4) := hideK ⟨by rw [HN4.out]; exact hbx.cell, hbx.lt, HX3.out.2.keep b4⟩
      have HX4 := hideK (bup HX3.out.1 b4)
      clear hX4 b4 hbx
      generalize X3.heap.size = bx at *
      have hin := thn_in K1 K2 Hm.out.1.1
      have hpi := pts_in (thnB K1 K2) hin.1
      have hm1 := Hm.out.1.2.2.1
      have hm2 := Hm.out.2.1.2.2.1
      have hPl : (thnP K1 K2).length ≤ 10000 := by show (ptsA (thnB K1 K2)).length ≤ _; omega
      have HAp := hideK (fun (x : Rt × Int) (hx : x ∈ thnP K1 K2) (W : World) (q : Below X4.heap.size X4 W) => both_any K1 K2 B1 B2 w.heap.size (w.heap.size + 1) x.1 Hm.out.1 Hm.out.2.1 (hpi.1 x hx) W (by have := HV.out.2.1; have := (bup HX4.out q).size; omega) (by have := HV.out.2.1; have := (bup HX4.out q).size; omega) (HK.out W (bup HX4.out q)).1 (HK.out W (bup HX4.out q)).2 (HM1.out W (bup HX4.out q)).1 (HM1.out W (bup HX4.out q)).2)
      have hka : Hid (Calls Try.prog 21 #[.func (.func 54) #[] #[.pointer (some ⟨bx, 0, none⟩)], .func (.func 36) #[] #[.pointer (some ⟨w.heap.size, 0, none⟩), .pointer (some ⟨w.heap.size + 1, 0, none⟩)]] X4 fun e w' => ∃ v, e = .returned (.tuple #[v, .int .i64 (errK (bothF K1 K2) (thnP K1 K2))]) ∧ (errK (bothF K1 K2) (thnP K1 K2) = 0 → w'.ownsRow X4.heap.size 45 4 v (thnP K1 K2).length (flatKn (kntK (bothF K1 K2) (thnP K1 K2)))) ∧ Below X4.heap.size X4 w') := hideK (by
        have hp := HPt.out
        cases hbk : thnB K1 K2 with
        | nil =>
          rw [hbk] at hp
          refine knotsAtB_walk (bothF K1 K2) w.heap.size (w.heap.size + 1) bx (thnP K1 K2) hPl (fun _ => True) X4 (fun _ _ => trivial) (fun m W hm q => ?_) HAp.out
          unfold thnP
          rw [hbk]
          exact points_nil m bx hm o4 q4 W (hp.keep q)
        | cons b T =>
          rw [hbk] at hp
          have hcc : (b :: T).length ≤ q4 ∧ q4 ≤ maxLen := by rw [← hbk]; exact HQ4.out
          have hbi : ∀ x ∈ b :: T, RtIn x := by rw [← hbk]; exact hin.1
          obtain ⟨a, rfl, ha, -⟩ := hp.row.get (i := 0) (x := b) rfl
          have hlt := hp.lt
          refine knotsAtB_walk (bothF K1 K2) w.heap.size (w.heap.size + 1) bx (thnP K1 K2) hPl (fun k => k ≠ bx ∧ ∀ a', some a = some a' → k ≠ a'.block) X4 (fun k hk => ⟨by omega, fun a' e => by cases e; omega⟩) (fun m W hm q => ?_) HAp.out
          unfold thnP
          rw [hbk]
          exact points_cons m bx hm (some a) q4 b T hbi hcc W (hp.keep q))
      clear HAp
      go_wp2_with fail
      refine hka.out.mono ?_
      rintro e X5 ⟨v, rfl, hown, b5⟩
      have HX5 := hideK (bup HX4.out b5)
      have HOw := hideK hown
      clear hown b5 hka
      obtain ⟨ek, hek⟩ : ∃ ek, errK (bothF K1 K2) (thnP K1 K2) = ek := ⟨_, rfl⟩
      have HEk := hideK hek
      rw [hek]
      clear hek
      by_cases he0 : ek = 0
      · subst he0
        obtain ⟨o7, c7, rfl, hc7, hk7, hl7⟩ := own_kn (HOw.out HEk.out)
        have hln : (thnL K1 K2).length = (thnP K1 K2).length := by unfold thnL kntK; rw [List.length_map]
        have hth2 := hideK (new_any6 (thnL K1 K2) o7 c7 hin.2.1 (by rw [hln]; exact hc7) X5 hk7)
        rw [hln] at hth2
        have hE : thnE K1 K2 = newE (thnL K1 K2) := by unfold thnE; rw [if_neg (fun e => e HNC.out.2.2), if_neg (fun e => e HEk.out)]
        have HE := hideK hE
        clear hE hk7 hc7 hl7 hpi hin hln hPl hm1 hm2
        obtain ⟨m7, hm7⟩ : ∃ m7, (thnP K1 K2).length = m7 := ⟨_, rfl⟩
        rw [hm7] at hth2 ⊢
        clear hm7
        go_wp2_with fail
        refine hth2.out.mono ?_
        rintro e X6 ⟨b6, h6⟩
        have HX6 := hideK (bup HX5.out b6)
        have hzz := (bup HV.out.1 HX5.out).size
        rcases h6 with ⟨hs7, B7, rfl, hBz7, hm7⟩ | ⟨hs7, rfl⟩
        · have HM7 := hideK (And.intro hs7 (And.intro hBz7 hm7))
          clear hs7 hBz7 hm7 b6 hth2
          go_wp2_with fail
          rw [← HP.out]
          exact ⟨bup HV.out.1 HX6.out, .inl ⟨by rw [HE.out]; exact HM7.out.1, B7, rfl, Nat.le_trans hzz HM7.out.2.1, HM7.out.2.2⟩⟩
        · have HM7 := hideK hs7
          clear b6 hth2
          go_wp2_with fail
          rw [← HP.out]
          exact ⟨bup HV.out.1 HX6.out, .inr ⟨by rw [HE.out]; exact HM7.out, by rw [HE.out]; rfl⟩⟩
      · have hE : thnE K1 K2 = ek := by unfold thnE; rw [if_neg (fun e => e HNC.out.2.2), HEk.out, if_pos he0]
        have HE := hideK hE
        clear hE
        go_wp2_with fail
        rw [← HP.out]
        exact ⟨bup HV.out.1 HX5.out, .inr ⟨by rw [HE.out]; exact he0, by rw [HE.out]; rfl⟩⟩
    · have hE : thnE K1 K2 = ee := by unfold thnE; rw [HNC.out.2.2, if_pos hz]
      have HE := hideK (And.intro hE hz)
      clear hE
      go_wp2_with fail
      rw [← HP.out]
      exact ⟨bup HV.out.1 HX.out.2, .inr ⟨by rw [HE.out.1]; exact HE.out.2, by rw [HE.out.1]; rfl⟩⟩
end Go.Proofs.Ytipnefaggpigfaa

/- The map through knots, in rows of its own: retime's through, New (chapter 6). -/
namespace Go.Proofs.Ytipnefaggpigfaa
open Go.RowKit Go.Shelf

theorem thr_closeV {w7 w7' w8 : World} {B0 g g1 g2 c1 c2 n m : Nat} {Q : List Kn} {SL : List Rt} {zn zd : Int} (h7 : w7.ownsRow B0 45 4 (.slice (some ⟨g1, 0, none⟩) n c1) n (flatKn Q)) (hb : Below w7.heap.size w7 w7')
    (h8 : w8.ownsRow B0 42 2 (.slice (some ⟨g2, 0, none⟩) m c2) m (flatRt SL ++ [.int .i64 zn, .int .i64 zd])) (hg : w7'.grownBy w8 (some g)) (hne : g1 ≠ g) (hs : slsK Q = SL ++ [⟨zn, zd⟩]) :
    ∃ v u, MapO (w8.alloc (.cells #[.slice (some ⟨g1, 0, none⟩) n c1, .slice (some ⟨g2, 0, none⟩) m c2] 83)) B0 w8.heap.size v u Q (slsK Q) := by
  have e8 : flatRt SL ++ [.int .i64 zn, .int .i64 zd] = flatRt (slsK Q) := by rw [hs, flatRt_app]
  rw [e8] at h8
  have h7' := own_growK h7 hb
  have h9 : w8.ownsRow B0 45 4 (.slice (some ⟨g1, 0, none⟩) n c1) n (flatKn Q) := own_butK h7' (M := fun k => k = g) ⟨hg.os, hg.tape, hg.output, hg.size, fun k hk hn => hg.block k hk (fun e => hn (Option.some.inj e))⟩ (fun k hk e => hne ((Option.some.inj hk).trans e))
  have b9 := bel1 w8 (.cells #[.slice (some ⟨g1, 0, none⟩) n c1, .slice (some ⟨g2, 0, none⟩) m c2] 83)
  have l1 : Q.length = n := by
    have := h9.1
    rw [flatKn_len] at this
    omega
  have l2 : (slsK Q).length = m := by
    have := h8.1
    rw [flatRt_len] at this
    omega
  refine ⟨_, _, World.alloc_heap_new _ _, ?_, ?_⟩
  · rw [l1]
    exact own_growK h9 b9
  · rw [l2]
    exact own_growK h8 b9
set_option maxRecDepth 100000 in
set_option maxHeartbeats 2000000 in
theorem through_walkV (Q : List Kn) (oa : Option Addr) (c : Nat) (hQ : ∀ x ∈ Q, KnIn x) (hc : Q.length ≤ c ∧ c ≤ maxLen) (h1 : 1 ≤ Q.length) (h2 : Q.length ≤ 1000) (er : Int) (her : slE Q = er) (w : World) (hO : KnO w oa Q) :
    Calls Try.prog 20 #[.slice oa Q.length c] w fun e w' => Below w.heap.size w w' ∧ ((er = 0 ∧ ∃ B, e = .returned (.tuple #[.pointer (some ⟨B, 0, none⟩), .int .i64 0]) ∧ w.heap.size ≤ B ∧ ∃ v u, MapO w' w.heap.size B v u Q (slsK Q)) ∨ (¬ er = 0 ∧ e = .returned (.tuple #[.pointer none, .int .i64 er]))) := by
  obtain ⟨i0, hI, hz0, hz1, hz2⟩ := info_partsK infoRtK
  obtain ⟨j0, hJ, hy0, hy1, hy2⟩ := info_partsK infoKnK
  have hmx : maxLen ≤ 9223372036854775807 := by decide
  obtain ⟨n, hn⟩ : ∃ n, Q.length = n := ⟨_, rfl⟩
  have HN := hideK hn
  rw [hn] at hc h1 h2 ⊢
  have HQ := hideK hQ
  have HO := hideK hO
  have HE := hideK her
  clear hn hQ hO her
  obtain ⟨PO, hPO⟩ : ∃ PO : Ending → World → Prop, (fun e w' => Below w.heap.size w w' ∧ ((er = 0 ∧ ∃ B, e = .returned (.tuple #[.pointer (some ⟨B, 0, none⟩), .int .i64 0]) ∧ w.heap.size ≤ B ∧ ∃ v u, MapO w' w.heap.size B v u Q (slsK Q)) ∨ (¬ er = 0 ∧ e = .returned (.tuple #[.pointer none, .int .i64 er])))) = PO := ⟨_, rfl⟩
  have HP := hideK hPO
  rw [hPO]
  clear hPO
  go_enter Try.func20, Try.ntmps20
  go_wp2_with fail
  refine (whole6 1 w).mono ?_
  rintro e w1 ⟨rfl, b1⟩
  have HB1 := hideK b1
  clear b1
  go_wp2_with fail
  obtain ⟨V, hV⟩ : ∃ V, w1.alloc (.cells #[.int .i64 1, .int .i64 1] 42) = V := ⟨_, rfl⟩
  have HV : Hid (Below w.heap.size w V ∧ V.ownsRow w.heap.size 42 2 (.slice (some ⟨w1.heap.size, 0, none⟩) 1 1) 1 (flatRt [⟨1, 1⟩])) := hideK (by
    rw [← hV]
    exact ⟨bup HB1.out (bel1 _ _), rfl, .inr ⟨w1.heap.size, 1, _, rfl, HB1.out.size, World.alloc_heap_new _ _, Nat.le_refl _, by unfold maxLen; omega, rfl, rfl⟩⟩)
  rw [hV]
  clear hV
  generalize w1.heap.size = R0 at *
  go_loopw [4, 5] (fun sv iv wq => ∃ i : Nat, iv = .int .i64 ((i + 1 : Nat) : Int) ∧ i + 1 ≤ n ∧ wq.ownsRow w.heap.size 42 2 sv (i + 1) (flatRt (⟨1, 1⟩ :: (slL Q).take i)) ∧ slE (Q.drop i) = er ∧ Below w.heap.size w wq) (fun _ iv _ => n - (intOf iv).toNat)
  case atStart => exact ⟨0, rfl, h1, HV.out.2, by rw [List.drop_zero]; exact HE.out, HV.out.1⟩
  case round =>
    obtain ⟨i, rfl, hi1, hown, hs, hb⟩ := hrel
    obtain ⟨wq, rfl⟩ : ∃ wq, wq = wr := ⟨_, rfl⟩
    by_cases hlt : i + 1 < n
    · obtain ⟨a, ha⟩ : ∃ a, Q[i]? = some a := ⟨_, List.getElem?_eq_getElem (by rw [HN.out]; omega)⟩
      obtain ⟨b, hb'⟩ : ∃ b, Q[i + 1]? = some b := ⟨_, List.getElem?_eq_getElem (by rw [HN.out]; omega)⟩
      have HS := hideK (slE_step ha hb')
      have HT := hideK (slL_take ha hb')
      obtain ⟨A, rfl, hA, a0, a1, a2, a3⟩ := HO.out.keep hb i a ha
      obtain ⟨A', hA', -, b0, b1, b2, b3⟩ := HO.out.keep hb (i + 1) b hb'
      obtain rfl : A = A' := Option.some.inj hA'
      have kA : (A.add (i * 4)).block < wq.heap.size := by rw [addrN_block]; exact hA
      have kB : (A.add ((i + 1) * 4)).block < wq.heap.size := by rw [addrN_block]; exact hA
      have HC := hideK (show ∀ W : World, Calls Try.prog 53 #[.agg #[.int .i64 a.i.N, .int .i64 a.i.D, .int .i64 a.o.N, .int .i64 a.o.D], .agg #[.int .i64 b.i.N, .int .i64 b.i.D, .int .i64 b.o.N, .int .i64 b.o.D]] W fun e w' => e = .returned (.tuple #[.agg #[.int .i64 (slopeA a b).1.N, .int .i64 (slopeA a b).1.D], .int .i64 (slopeA a b).2]) ∧ Below W.heap.size W w' from fun W => slope_any a b (HQ.out a (List.mem_of_getElem? ha)) (HQ.out b (List.mem_of_getElem? hb')) W)
      obtain ⟨r, hr⟩ : ∃ r, slopeA a b = r := ⟨_, rfl⟩
      rw [hr] at HC HS HT
      have HA := hideK (And.intro hown (And.intro hs hb))
      clear hr hown hs hb ha hb' hA'
      obtain ⟨j, hj⟩ : ∃ j, i + 1 = j := ⟨_, rfl⟩
      have hj1 : 1 ≤ j ∧ j < n := by omega
      rw [hj] at b0 b1 b2 b3 kB HS HT HA ⊢
      have d1 : (j : Int) < (n : Int) := by omega
      have wj : IntKind.i64.wrap ((j : Int) - 1) = (i : Int) := by rw [show (j : Int) - 1 = (i : Int) by omega]; exact IntWalk.i64_in _ ⟨by omega, by omega⟩
      have wk : IntKind.i64.wrap ((j : Int) + 1) = ((j + 1 : Nat) : Int) := by rw [show ((j + 1 : Nat) : Int) = (j : Int) + 1 by omega]; exact IntWalk.i64_in _ ⟨by omega, by omega⟩
      have di : (i : Int) < (n : Int) := by omega
      generalize hPA : A.add (i * 4) = PA at *
      generalize hPB : A.add (j * 4) = PB at *
      have HK : Hid (∀ w' : World, Below wq.heap.size wq w' → (w'.cell? PA = some (.int .i64 a.i.N) ∧ w'.cell? ⟨PA.block, PA.off + 1, none⟩ = some (.int .i64 a.i.D) ∧ w'.cell? ⟨PA.block, PA.off + 2, none⟩ = some (.int .i64 a.o.N) ∧ w'.cell? ⟨PA.block, PA.off + 3, none⟩ = some (.int .i64 a.o.D) ∧ w'.cell? PB = some (.int .i64 b.i.N) ∧ w'.cell? ⟨PB.block, PB.off + 1, none⟩ = some (.int .i64 b.i.D) ∧ w'.cell? ⟨PB.block, PB.off + 2, none⟩ = some (.int .i64 b.o.N) ∧ w'.cell? ⟨PB.block, PB.off + 3, none⟩ = some (.int .i64 b.o.D))) := hideK (fun w' q => ⟨(q.cell kA).trans a0, (q.cell (p := ⟨PA.block, PA.off + 1, none⟩) kA).trans a1, (q.cell (p := ⟨PA.block, PA.off + 2, none⟩) kA).trans a2, (q.cell (p := ⟨PA.block, PA.off + 3, none⟩) kA).trans a3, (q.cell kB).trans b0, (q.cell (p := ⟨PB.block, PB.off + 1, none⟩) kB).trans b1, (q.cell (p := ⟨PB.block, PB.off + 2, none⟩) kB).trans b2, (q.cell (p := ⟨PB.block, PB.off + 3, none⟩) kB).trans b3⟩)
      go_upto_region 5 with fail
      go_cut [6, 7] (fun p e wx => ∃ q, p = .pointer (some ⟨q, 0, none⟩) ∧ e = .int .i64 r.2 ∧ wq.heap.size ≤ q ∧ Two wx q (.int .i64 r.1.N) (.int .i64 r.1.D) ∧ Below wq.heap.size wq wx)
      case first =>
        go_region_held3 (fun w' => w'.cell? PA = some (.int .i64 a.i.N) ∧ w'.cell? ⟨PA.block, PA.off + 1, none⟩ = some (.int .i64 a.i.D) ∧ w'.cell? ⟨PA.block, PA.off + 2, none⟩ = some (.int .i64 a.o.N) ∧ w'.cell? ⟨PA.block, PA.off + 3, none⟩ = some (.int .i64 a.o.D) ∧ w'.cell? PB = some (.int .i64 b.i.N) ∧ w'.cell? ⟨PB.block, PB.off + 1, none⟩ = some (.int .i64 b.i.D) ∧ w'.cell? ⟨PB.block, PB.off + 2, none⟩ = some (.int .i64 b.o.N) ∧ w'.cell? ⟨PB.block, PB.off + 3, none⟩ = some (.int .i64 b.o.D)) (first | go_keep | assumption | exact HK.out _ (((bup c4 (bel1 _ _)).setCell (by simp; omega) _).setCell (by simp; omega) _) | exact HK.out _ ((c4.setCell (by simp) _).setCell (by simp) _)) (first
          | (go_at_call 53; (with_reducible refine Calls.mono (HC.out _) ?_); rintro e w4 ⟨rfl, b4⟩; (first | (have c4 : Below wq.heap.size wq w4 := (Below.refl wq.heap.size wq).drew.trans b4) | (have T4 : Hid (Two w4 wq.heap.size (.int .i64 0) (.int .i64 0)) := hideK ((Two.new wq.drew (.int .i64 0) (.int .i64 0) 42).keep b4); obtain ⟨_, g0, g1, g2, g3⟩ := T4.out; have c4 : Below wq.heap.size wq w4 := bup (bup (Below.refl _ wq).drew (bel1 wq.drew _)) b4)); have z4 := c4.size; obtain ⟨e0, e1, e2, e3, f0, f1, f2, f3⟩ := HK.out _ c4))
        all_goals first | go_wp2_with fail | skip
        all_goals go_meet
        all_goals first
          | exact ⟨_, rfl, rfl, z4, Two.new w4 _ _ _, bup c4 (bel1 _ _)⟩
          | exact ⟨_, rfl, rfl, Nat.le_refl _, T4.out.set, (c4.setCell (by simp) _).setCell (by simp) _⟩
      case rest =>
        obtain ⟨q, rfl, rfl, hq, hT, hbx⟩ := hcut
        generalize wc = X at *
        have HX := hideK (And.intro hq (And.intro hT hbx))
        clear hq hT hbx HK a0 a1 a2 a3 b0 b1 b2 b3 kA kB HC HO
        obtain ⟨_, k0, k1, _, _⟩ := HX.out.2.1
        have hzX := HX.out.2.2.size
        have hzw := HA.out.2.2.size
        by_cases hr : r.2 = 0
        · have hownX := own_growK HA.out.1 HX.out.2.2
          go_wp2_with (at_builtin; refine wpList_append_lies _ rfl _ _ 23 rfl w.heap.size 42 i0 _ 2 16 Try.underlying23 hI hz0 hz1 hz2 rfl (by decide) _ j (flatRt (⟨1, 1⟩ :: (slL Q).take i)) rfl (hownX.alloc _) ⟨X.heap.size, 0, none⟩ 1 1 [.int .i64 r.1.N, .int .i64 r.1.D] rfl rfl (World.news_of_block (cs := #[.int .i64 r.1.N, .int .i64 r.1.D]) (t := 42) (fr := (0, 0)) (World.alloc_heap_new X _)) (by simp [Value.oneCell']) (by omega) (by unfold maxLen; omega) (by omega) (by simp; omega) (X.heap.size + 1) (by simp) ?_; intro gg cap2 w6 hown6 hgrow6 hat6 hlt6)
          go_roundw
          case rel =>
            refine ⟨j, by first | rfl | simp, by omega, ?_, ?_, ?_⟩
            · rw [HT.out, ← List.cons_append, flatRt_app]
              exact hown6
            · have h9 := HS.out
              rw [if_pos hr, HA.out.2.1] at h9
              exact h9.symm
            · exact Below.grown ((HA.out.2.2.trans (HX.out.2.2.mono hzw)).alloc (by omega) _) hgrow6 (by rw [World.size_alloc]; omega) (fun k hk => (hownX.lt k hk).1)
          case measure => simp [intOf]; omega
        · have he : er = r.2 := by
            have h9 := HS.out
            rw [if_neg hr, HA.out.2.1] at h9
            exact h9
          have HEr := hideK he
          clear he
          go_wp2_with fail
          rw [← HP.out]
          exact ⟨bup HA.out.2.2 HX.out.2.2, .inr ⟨by rw [HEr.out]; exact hr, by rw [HEr.out]; rfl⟩⟩
    · obtain rfl : er = 0 := by rw [← hs]; exact slE_end (by rw [HN.out]; omega)
      have hin : i + 1 = n := by omega
      have hSL : (slL Q).take i = slL Q := List.take_of_length_le (by rw [slL_len, HN.out]; omega)
      rw [hSL] at hown
      obtain ⟨g, cap, rfl, hg1, hg2⟩ := World.ownsRow.form hown (by omega)
      have HA := hideK (And.intro hown hb)
      have hlen : (slL Q).length = i := by rw [slL_len, HN.out]; omega
      have HL := hideK hlen
      clear hown hs hb hSL hlen
      subst hin
      have d1 : ¬ ((i + 1 : Nat) : Int) < ((i + 1 : Nat) : Int) := by omega
      have d2 : ¬ ((i : Nat) : Int) + 1 < ((i : Nat) : Int) + 1 := by omega
      go_upto_if 38 with fail
      go_cut [] (fun wx => wx.ownsRow w.heap.size 42 2 (.slice (some ⟨g, 0, none⟩) (i + 1) cap) (i + 1) (flatRt ((slL Q).headD ⟨1, 1⟩ :: slL Q)) ∧ Below w.heap.size w wx)
      case first =>
        cases hsl : slL Q with
        | nil =>
          have hi0 : i = 0 := by rw [← HL.out, hsl]; rfl
          subst hi0
          have p1 := HA.out
          rw [hsl] at p1
          go_wp2_with fail
          go_meet
          rw [hsl]
          exact p1
        | cons s T =>
          have hi0 : 0 < i := by rw [← HL.out, hsl]; simp
          have p1 := HA.out
          rw [hsl] at p1
          have c2 := p1.1.cellAt 2 (by omega)
          have c3 := p1.1.cellAt 3 (by omega)
          have f0 := p1.1.frozenAt 0
          have f1 := p1.1.frozenAt 1
          have c0 := p1.1.cellAt 0 (by omega)
          have c1 := p1.1.cellAt 1 (by omega)
          rw [show (flatRt (⟨1, 1⟩ :: s :: T))[2]? = some (.int .i64 s.N) from rfl] at c2
          rw [show (flatRt (⟨1, 1⟩ :: s :: T))[3]? = some (.int .i64 s.D) from rfl] at c3
          rw [show (flatRt (⟨1, 1⟩ :: s :: T))[0]? = some (.int .i64 1) from rfl] at c0
          rw [show (flatRt (⟨1, 1⟩ :: s :: T))[1]? = some (.int .i64 1) from rfl] at c1
          have d3 : (1 : Int) < (i : Int) + 1 := by omega
          have d4 : (0 : Int) < (i : Int) + 1 := by omega
          have HP1 := hideK p1
          clear p1
          go_wp2_with fail
          go_meet
          rw [hsl]
          exact ⟨((HP1.out.1.stored 0 _).1.stored 1 _).1, (HP1.out.2.setCell (by simpa using hg1) _).setCell (by simpa using hg1) _⟩
      case rest =>
        obtain ⟨hown, hb⟩ := hcut
        generalize wc = X at *
        clear HA hg2
        obtain ⟨x0, hx0⟩ : ∃ x, Q[0]? = some x := ⟨_, List.getElem?_eq_getElem (by rw [HN.out]; omega)⟩
        obtain ⟨A, rfl, hA, -⟩ := HO.out 0 x0 hx0
        clear hx0
        have hzl := last_K ⟨1, 1⟩ (slL Q)
        rw [HL.out] at hzl
        have hsz : slsK Q = ((slL Q).headD ⟨1, 1⟩ :: slL Q) ++ [(slL Q).getLastD ⟨1, 1⟩] := rfl
        generalize (slL Q).getLastD ⟨1, 1⟩ = z at hzl hsz
        obtain ⟨zn, zd⟩ := z
        generalize (slL Q).headD ⟨1, 1⟩ :: slL Q = SL at hzl hsz hown
        have k01 := flatRt_get hzl
        have HSz := hideK hsz
        have HS : Hid (∀ W, Below X.heap.size X W → W.cell? ⟨g, i * 2, none⟩ = some (.int .i64 zn) ∧ W.cell? ⟨g, i * 2 + 1, none⟩ = some (.int .i64 zd) ∧ W.ownsRow w.heap.size 42 2 (.slice (some ⟨g, 0, none⟩) (i + 1) cap) (i + 1) (flatRt SL)) := hideK (fun W q => by
          have ho := own_growK hown q
          refine ⟨?_, ?_, ho⟩
          · rw [ho.cellAt _ (by omega)]
            exact k01.1
          · rw [ho.cellAt _ (by omega)]
            exact k01.2)
        have HX := hideK (And.intro hown hb)
        obtain ⟨k0, k1, -⟩ := HS.out X (Below.refl _ _)
        clear hown hb hzl hsz k01
        have hXz := HX.out.2.size
        have wi : IntKind.i64.wrap (i : Int) = (i : Int) := IntWalk.i64_in _ ⟨by omega, by omega⟩
        have di : (i : Int) < (i : Int) + 1 := by omega
        have HW : Hid (∀ W, Below X.heap.size X W → ∀ j u, (flatKn Q)[j]? = some u → W.cell? (A.add j) = some u) := hideK (fun W q => KnO.news ((HO.out.keep HX.out.2).keep q))
        go_upto_region 11 with fail
        go_region_law (first
          | (refine step_append_lies _ (by rfl) _ _ 22 (by rfl) w.heap.size 45 j0 _ 4 32 Try.underlying22 hJ hy0 hy1 hy2 rfl (by decide) (.slice none 0 0) 0 [] (by rfl) (World.ownsRow_nil _ _ _ _) A (i + 1) c (flatKn Q) (by rfl) (by rw [flatKn_len, HN.out]) (HW.out _ (by first | exact (Below.refl X.heap.size X).drew | exact (Below.refl X.heap.size X).drew.alloc (Nat.le_refl _) _)) (flatKn_one Q) (by omega) (by unfold maxLen; omega) (by omega) (by first | exact hXz | exact Nat.le_succ_of_le hXz | (simp; omega)) _ rfl ?_; intro g1 cap1 w7 hown7 hgr7 hat7 hlt7; (have B7 : Below X.heap.size X w7 := by first | exact Below.grown_none (Below.refl X.heap.size X).drew hgr7 | exact Below.grown_none ((Below.refl X.heap.size X).drew.alloc (Nat.le_refl _) _) hgr7); obtain ⟨k70, k71, hS7⟩ := HS.out _ B7)
          | (refine step_append_lies _ (by rfl) _ _ 23 (by rfl) w.heap.size 42 i0 _ 2 16 Try.underlying23 hI hz0 hz1 hz2 rfl (by decide) (.slice (some ⟨g, 0, none⟩) (i + 1) cap) (i + 1) (flatRt SL) (by rfl) (hS7.alloc _) ⟨w7.heap.size, 0, none⟩ 1 1 [.int .i64 zn, .int .i64 zd] (by rfl) rfl (World.news_of_block (cs := #[.int .i64 zn, .int .i64 zd]) (t := 42) (fr := (0, 0)) (World.alloc_heap_new w7 _)) (by simp [Value.oneCell']) (by omega) (by unfold maxLen; omega) (by omega) (by have := B7.size; simp; omega) _ rfl ?_; intro g2 cap2 w8 hown8 hgr8 hat8 hlt8)
          | (refine step_append_lies _ (by rfl) _ _ 23 (by rfl) w.heap.size 42 i0 _ 2 16 Try.underlying23 hI hz0 hz1 hz2 rfl (by decide) (.slice (some ⟨g, 0, none⟩) (i + 1) cap) (i + 1) (flatRt SL) (by rfl) hS7 ⟨X.heap.size, 0, none⟩ 1 1 [.int .i64 zn, .int .i64 zd] (by rfl) rfl (World.news_of_block (cs := #[.int .i64 zn, .int .i64 zd]) (t := 42) (fr := (0, 0)) ((hgr7.block X.heap.size (by simp) (fun e => by cases e)).trans (World.alloc_heap_new X.drew _))) (by simp [Value.oneCell']) (by omega) (by unfold maxLen; omega) (by omega) (by have := B7.size; omega) _ rfl ?_; intro g2 cap2 w8 hown8 hgr8 hat8 hlt8))
        all_goals
          have HF := hideK (And.intro hown7 (And.intro hown8 (And.intro hgr8 (And.intro hat7 B7))))
          have hgX := (HX.out.1.lt g rfl).2
          clear hown7 hown8 hgr8 hat7 B7 k0 k1 k70 k71 hS7
          go_wp2_with fail
          obtain ⟨h7, h8, h9, h10, hB7⟩ := HF.out
          rw [Nat.zero_add] at h7
          have hge : X.heap.size ≤ g1 := by
            rcases h10 with e | e
            · cases e
            · rw [e]
              first | exact Nat.le_refl _ | exact Nat.le_succ _ | (simp; done) | (rw [World.size_alloc]; exact Nat.le_succ _)
          have hB8 := (bup HX.out.2 hB7)
          have hz7 := hB8.size
          have hz8 := h9.size
          have hgw : w.heap.size ≤ g := (HX.out.1.lt g rfl).1
          have hne : g1 ≠ g := by omega
          rw [← HP.out]
          first
            | exact ⟨bup (Below.grown hB8 h9 hz7 (fun k hk => by cases hk; exact hgw)) (bel1 _ _), .inl ⟨by first | trivial | rfl, w8.heap.size, rfl, Nat.le_trans hz7 hz8, thr_closeV h7 (Below.refl _ _) h8 h9 hne HSz.out⟩⟩
            | exact ⟨bup (Below.grown (bup hB8 (bel1 _ _)) h9 (by rw [World.size_alloc]; omega) (fun k hk => by cases hk; exact hgw)) (bel1 _ _), .inl ⟨by first | trivial | rfl, w8.heap.size, rfl, Nat.le_trans hz7 (Nat.le_trans (Nat.le_succ _) (by rw [World.size_alloc] at hz8; exact hz8)), thr_closeV h7 (bel1 _ _) h8 h9 hne HSz.out⟩⟩
set_option maxRecDepth 100000 in
set_option maxHeartbeats 2000000 in
theorem new_fresh (L : List Kn) (oa : Option Addr) (c : Nat) (hL : ∀ x ∈ L, KnIn x) (hc : L.length ≤ c ∧ c ≤ maxLen) (w : World) (hO : KnO w oa L) :
    Calls Try.prog 6 #[.slice oa L.length c] w fun e w' => Below w.heap.size w w' ∧ ((newE L = 0 ∧ ∃ B, e = .returned (.tuple #[.pointer (some ⟨B, 0, none⟩), .int .i64 0]) ∧ w.heap.size ≤ B ∧ ∃ v u base, w.heap.size ≤ base ∧ MapO w' base B v u (newK L) (slsK (newK L))) ∨ (¬ newE L = 0 ∧ e = .returned (.tuple #[.pointer none, .int .i64 (newE L)]))) := by
  obtain ⟨PO, hPO⟩ : ∃ PO : Ending → World → Prop, (fun e w' => Below w.heap.size w w' ∧ ((newE L = 0 ∧ ∃ B, e = .returned (.tuple #[.pointer (some ⟨B, 0, none⟩), .int .i64 0]) ∧ w.heap.size ≤ B ∧ ∃ v u base, w.heap.size ≤ base ∧ MapO w' base B v u (newK L) (slsK (newK L))) ∨ (¬ newE L = 0 ∧ e = .returned (.tuple #[.pointer none, .int .i64 (newE L)])))) = PO := ⟨_, rfl⟩
  have HP := hideK hPO
  have HO := hideK hO
  have HL := hideK hL
  have hck := hideK (check_any6 L oa c hL hc w hO)
  obtain ⟨n, hn⟩ : ∃ n, L.length = n := ⟨_, rfl⟩
  have HN := hideK hn
  rw [hPO]
  have Hc := hideK hc
  rw [hn] at hck ⊢
  clear hPO hO hL hn hc
  go_enter Try.func6, Try.ntmps6
  go_wp2_with fail
  refine hck.out.mono ?_
  rintro e w1 ⟨rfl, b1⟩
  have HB1 := hideK b1
  clear b1 hck
  obtain ⟨ck, hk⟩ : ∃ ck, chkK L = ck := ⟨_, rfl⟩
  have HCK := hideK hk
  rw [hk]
  clear hk
  by_cases h0 : ck = 0
  · subst h0
    obtain ⟨hl1, hl2, hri, hro⟩ := chk_ok HCK.out
    have hth := hideK (through_any L oa c HL.out Hc.out hl1 (by omega) w1 (HO.out.keep HB1.out))
    rw [HN.out] at hth
    go_wp2_with fail
    refine hth.out.mono ?_
    rintro e w2 ⟨b2, h2⟩
    have HB2 := hideK (bup HB1.out b2)
    rcases h2 with ⟨hs0, B, rfl, hBz, hm⟩ | ⟨hs0, rfl⟩
    · have HM := hideK hm
      have HS0 := hideK hs0
      clear hm hs0 hth b2
      have hpl := prd_len L hl1
      have hbn := hideK (bends_any L (slsK L) B (sls_len L hl1) (by omega) w2 HM.out)
      go_wp2_with fail
      refine hbn.out.mono ?_
      rintro e w3 ⟨v, rfl, hown, b3⟩
      have HB3 := hideK (bup HB2.out b3)
      have HM3 := hideK (HM.out.keep b3)
      obtain ⟨ob, cb, rfl, hcb, hro3, hlb⟩ := own_rt hown
      have hlb' : (bndK L).length = (bntK L (slsK L)).length := hlb
      have HRo := hideK (show RtO w3 ob (bndK L) from hro3)
      have HCb := hideK hcb
      have HLb := hideK hlb'
      clear hown b3 hbn hro3 hlb hcb hlb'
      obtain ⟨nb, hnb⟩ : ∃ nb, (bntK L (slsK L)).length = nb := ⟨_, rfl⟩
      rw [hnb] at HCb HLb ⊢
      clear hnb
      go_wp2_with fail
      refine (points_mk ob nb cb w3).mono ?_
      rintro e w4 ⟨rfl, hw4⟩
      have b4 : Below w3.heap.size w3 w4 := by rw [hw4]; exact bel1 _ _
      have hbx : Boxed w4 w3.heap.size 23 (.slice ob nb cb) := by rw [hw4]; exact Boxed.new _ _ _
      have HPt : Hid (PtV w4 w3.heap.size ob (bndK L) cb) := hideK ⟨by rw [HLb.out]; exact hbx.cell, hbx.lt, HRo.out.keep b4⟩
      have HB4 := hideK (bup HB3.out b4)
      have HM4 := hideK (HM3.out.keep b4)
      clear hw4 b4 hbx
      generalize w3.heap.size = bx at *
      have hpr := hideK (pared_any L (slsK L) B (sls_len L hl1) (by omega) hl1 w4 HM4.out)
      go_wp2_with fail
      refine hpr.out.mono ?_
      rintro e w5 ⟨R, rfl, hRz, hmR, b5⟩
      have HB5 := hideK (bup HB4.out b5)
      have HPt5 := hideK (HPt.out.keep b5)
      have HMR := hideK hmR
      clear hmR b5 hpr
      have hin := prd_in L HL.out
      have hpi := pts_in (bndK L) (bnd_in L HL.out)
      have hbl := bnd_len L
      have HAp := hideK (fun (x : Rt × Int) (hx : x ∈ ownP L) (W : World) (q : Below w5.heap.size w5 W) => apply_fun (prdK L (slsK L)) (prdS L (slsK L)) R x.1 hin.1 hin.2 (hpi.1 x hx) hpl.1 (by omega) hpl.2.1 (ris_sub (prd_sub L (slsK L)) hri) W (HMR.out.keep q))
      have hka : Hid (Calls Try.prog 21 #[.func (.func 54) #[] #[.pointer (some ⟨bx, 0, none⟩)], .func (.func 16) #[.pointer (some ⟨R, 0, none⟩)] #[]] w5 fun e w' => ∃ v, e = .returned (.tuple #[v, .int .i64 (errK (newF L) (ownP L))]) ∧ (errK (newF L) (ownP L) = 0 → w'.ownsRow w5.heap.size 45 4 v (ownP L).length (flatKn (kntK (newF L) (ownP L)))) ∧ Below w5.heap.size w5 w') := hideK (by
        have hp := HPt5.out
        cases hbk : bndK L with
        | nil =>
          rw [hbk] at hp
          refine knotsAt_walk (newF L) R bx (ownP L) (by show (ptsA (bndK L)).length ≤ _; omega) (fun _ => True) w5 (fun _ _ => trivial) (fun m W hm q => ?_) HAp.out
          unfold ownP
          rw [hbk]
          exact points_nil m bx hm ob cb W (hp.keep q)
        | cons b T =>
          rw [hbk] at hp
          have hcc : (b :: T).length ≤ cb ∧ cb ≤ maxLen := by rw [← hbk, HLb.out]; exact HCb.out
          have hbi : ∀ x ∈ b :: T, RtIn x := by rw [← hbk]; exact bnd_in L HL.out
          obtain ⟨a, rfl, ha, -⟩ := hp.row.get (i := 0) (x := b) rfl
          have hlt := hp.lt
          refine knotsAt_walk (newF L) R bx (ownP L) (by show (ptsA (bndK L)).length ≤ _; omega) (fun k => k ≠ bx ∧ ∀ a', some a = some a' → k ≠ a'.block) w5 (fun k hk => ⟨by omega, fun a' e => by cases e; omega⟩) (fun m W hm q => ?_) HAp.out
          unfold ownP
          rw [hbk]
          exact points_cons m bx hm (some a) cb b T hbi hcc W (hp.keep q))
      clear HAp
      go_wp2_with fail
      refine hka.out.mono ?_
      rintro e w6 ⟨v, rfl, hown, b6⟩
      have HB6 := hideK (bup HB5.out b6)
      have HOw := hideK hown
      clear hown b6 hka
      obtain ⟨ek, hek⟩ : ∃ ek, errK (newF L) (ownP L) = ek := ⟨_, rfl⟩
      have HEk := hideK hek
      rw [hek]
      clear hek
      by_cases he0 : ek = 0
      · subst he0
        obtain ⟨o7, c7, rfl, hc7, hk7, hl7⟩ := own_kn (HOw.out HEk.out)
        have hni := new_in L HL.out
        have hth2 := hideK (through_walkV (newK L) o7 c7 hni.1 (by rw [hni.2]; exact hc7) (by rw [hni.2]; exact hpi.2.2) (by rw [hni.2]; show (ptsA (bndK L)).length ≤ _; omega) _ rfl w6 hk7)
        rw [hni.2] at hth2
        have hE : newE L = slE (newK L) := by unfold newE; rw [if_neg (by rw [HCK.out]; simp), if_neg (by rw [HS0.out]; simp), if_neg (by rw [HEk.out]; simp)]
        have HE := hideK hE
        clear hE hk7 hc7 hl7 hpi hin hbl
        obtain ⟨m7, hm7⟩ : ∃ m7, (ownP L).length = m7 := ⟨_, rfl⟩
        rw [hm7] at hth2 ⊢
        clear hm7
        go_wp2_with fail
        refine hth2.out.mono ?_
        rintro e w7 ⟨b7, h7⟩
        have HB7 := hideK (bup HB6.out b7)
        rcases h7 with ⟨hs7, B7, rfl, hBz7, hm7⟩ | ⟨hs7, rfl⟩
        · have HM7 := hideK (And.intro hs7 (And.intro hBz7 hm7))
          clear hs7 hBz7 hm7 b7 hth2
          go_wp2_with fail
          rw [← HP.out]
          obtain ⟨v7, u7, hm9⟩ := HM7.out.2.2
          exact ⟨HB7.out, .inl ⟨by rw [HE.out]; exact HM7.out.1, B7, rfl, Nat.le_trans HB6.out.size HM7.out.2.1, v7, u7, w6.heap.size, HB6.out.size, hm9⟩⟩
        · have HM7 := hideK hs7
          clear b7 hth2
          go_wp2_with fail
          rw [← HP.out]
          exact ⟨HB7.out, .inr ⟨by rw [HE.out]; exact HM7.out, by rw [HE.out]; rfl⟩⟩
      · have hE : newE L = ek := by unfold newE; rw [if_neg (by rw [HCK.out]; simp), if_neg (by rw [HS0.out]; simp), HEk.out, if_pos he0]
        have HE := hideK hE
        clear hE
        go_wp2_with fail
        rw [← HP.out]
        exact ⟨HB6.out, .inr ⟨by rw [HE.out]; exact he0, by rw [HE.out]; rfl⟩⟩
    · have HS0 := hideK hs0
      clear hth b2
      go_wp2_with fail
      rw [← HP.out]
      have hE : newE L = slE L := by unfold newE; rw [if_neg (by rw [HCK.out]; simp), if_pos HS0.out]
      exact ⟨HB2.out, .inr ⟨by rw [hE]; exact HS0.out, by rw [hE]; rfl⟩⟩
  · go_wp2_with fail
    rw [← HP.out]
    have hE : newE L = ck := by unfold newE; rw [HCK.out, if_pos h0]
    exact ⟨HB1.out, .inr ⟨by rw [hE]; exact h0, by rw [hE]; rfl⟩⟩
end Go.Proofs.Ytipnefaggpigfaa

/- The map that undoes: retime's Inverse is walked (chapter 6). -/
namespace Go.Proofs.Ytipnefaggpigfaa
open Go.RowKit Go.Shelf

theorem flatKn_consV (x : Kn) (L : List Kn) : flatKn (x :: L) = .int .i64 x.i.N :: .int .i64 x.i.D :: .int .i64 x.o.N :: .int .i64 x.o.D :: flatKn L := by
  unfold flatKn
  rw [List.flatMap_cons]
  rfl
theorem flatKn_set : ∀ (L : List Kn) (i : Nat) (y : Kn), i < L.length → ((((flatKn L).set (i * 4) (.int .i64 y.i.N)).set (i * 4 + 1) (.int .i64 y.i.D)).set (i * 4 + 2) (.int .i64 y.o.N)).set (i * 4 + 3) (.int .i64 y.o.D) = flatKn (L.set i y)
  | [], _, _, h => by cases h
  | x :: L, 0, y, _ => by
    rw [List.set_cons_zero, flatKn_consV, flatKn_consV]
    rfl
  | x :: L, i + 1, y, h => by
    have ih := flatKn_set L i y (by simpa using h)
    rw [List.set_cons_succ, flatKn_consV, flatKn_consV, ← ih, show (i + 1) * 4 = i * 4 + 1 + 1 + 1 + 1 by omega]
    rfl
theorem sw_step {K : List Kn} {i : Nat} {x : Kn} (hx : K[i]? = some x) : (swK (K.take i) ++ K.drop i).set i ⟨x.o, x.i⟩ = swK (K.take (i + 1)) ++ K.drop (i + 1) := by
  obtain ⟨h1, e1⟩ := List.getElem?_eq_some_iff.1 hx
  have hl : (swK (K.take i)).length = i := by rw [sw_len, List.length_take]; omega
  rw [List.set_append_right _ _ (by omega), hl, Nat.sub_self, List.drop_eq_getElem_cons h1, List.set_cons_zero, List.take_succ_eq_append_getElem h1, e1]
  unfold swK
  rw [List.map_append, List.append_assoc]
  rfl
theorem sw_at {K : List Kn} {i : Nat} {x : Kn} (hx : K[i]? = some x) : (swK (K.take i) ++ K.drop i)[i]? = some x := by
  obtain ⟨h1, e1⟩ := List.getElem?_eq_some_iff.1 hx
  have hl : (swK (K.take i)).length = i := by rw [sw_len, List.length_take]; omega
  rw [List.getElem?_append_right (by omega), hl, Nat.sub_self, List.drop_eq_getElem_cons h1, e1]
  rfl
set_option maxRecDepth 100000 in
set_option maxHeartbeats 2000000 in
theorem inverse_any6 (K : List Kn) (B : Nat) (hK : ∀ x ∈ K, KnIn x) (hl : K.length ≤ 1000) (h1K : 1 ≤ K.length) (w : World) (hM : MapAt w B K (slsK K)) :
    Calls Try.prog 12 #[.pointer (some ⟨B, 0, none⟩)] w fun e w' => Below w.heap.size w w' ∧ ((newE (swK K) = 0 ∧ ∃ B', e = .returned (.tuple #[.pointer (some ⟨B', 0, none⟩), .int .i64 0]) ∧ w.heap.size ≤ B' ∧ MapAt w' B' (newK (swK K)) (slsK (newK (swK K)))) ∨ (¬ newE (swK K) = 0 ∧ e = .returned (.tuple #[.pointer none, .int .i64 (newE (swK K))]))) := by
  have hmx : maxLen ≤ 9223372036854775807 := by decide
  obtain ⟨PO, hPO⟩ : ∃ PO : Ending → World → Prop, (fun e w' => Below w.heap.size w w' ∧ ((newE (swK K) = 0 ∧ ∃ B', e = .returned (.tuple #[.pointer (some ⟨B', 0, none⟩), .int .i64 0]) ∧ w.heap.size ≤ B' ∧ MapAt w' B' (newK (swK K)) (slsK (newK (swK K)))) ∨ (¬ newE (swK K) = 0 ∧ e = .returned (.tuple #[.pointer none, .int .i64 (newE (swK K))])))) = PO := ⟨_, rfl⟩
  have HP := hideK hPO
  have HK := hideK hK
  have hks := hideK (knots_any6 K (slsK K) B hl h1K w hM)
  obtain ⟨n, hn⟩ : ∃ n, K.length = n := ⟨_, rfl⟩
  have HN := hideK hn
  rw [hPO]
  rw [hn] at hks hl h1K
  clear hPO hK hM hn
  go_enter Try.func12, Try.ntmps12
  go_wp2_with fail
  refine hks.out.mono ?_
  rintro e w1 ⟨v, rfl, hown, b1⟩
  obtain ⟨g, c, rfl⟩ : ∃ g c, v = .slice (some ⟨g, 0, none⟩) n c := by
    rcases hown.2 with ⟨-, h⟩ | ⟨g, cap, cur, rfl, _⟩
    · omega
    · exact ⟨g, cap, rfl⟩
  have hg := hown.lt g rfl
  have hcc : n ≤ c ∧ c ≤ maxLen := by
    obtain ⟨o, cap, e, h, -, -⟩ := own_kn hown
    cases e
    exact h
  have HO := hideK (And.intro hown b1)
  clear hown b1 hks
  go_wp2_with fail
  go_loopw [11] (fun iv wq => ∃ i : Nat, iv = .int .i64 (i : Nat) ∧ i ≤ n ∧ wq.ownsRow w.heap.size 45 4 (.slice (some ⟨g, 0, none⟩) n c) n (flatKn (swK (K.take i) ++ K.drop i)) ∧ But (fun k => k = g) w1 wq) (fun iv _ => n - (intOf iv).toNat)
  case atStart => exact ⟨0, rfl, Nat.zero_le _, by simpa [swK] using HO.out.1, But.refl _ _⟩
  case round =>
    obtain ⟨i, rfl, hi, hown, hbt⟩ := hrel
    obtain ⟨wq, rfl⟩ : ∃ wq, wq = wr := ⟨_, rfl⟩
    by_cases hlt : i < n
    · obtain ⟨x, hx⟩ : ∃ x, K[i]? = some x := ⟨_, List.getElem?_eq_getElem (by rw [HN.out]; omega)⟩
      have HX := hideK (And.intro (sw_step hx) (flatKn_set (swK (K.take i) ++ K.drop i) i ⟨x.o, x.i⟩ (by simp [sw_len, HN.out]; omega)))
      obtain ⟨k0, k1, k2, k3⟩ := flatKn_get (sw_at hx)
      have hxl := hown.1
      have q0 := (hown.cellAt (i * 4) (by omega)).trans k0
      have q1 := (hown.cellAt (i * 4 + 1) (by omega)).trans k1
      have q2 := (hown.cellAt (i * 4 + 2) (by omega)).trans k2
      have q3 := (hown.cellAt (i * 4 + 3) (by omega)).trans k3
      have di : (i : Int) < (n : Int) := by omega
      have wk : IntKind.i64.wrap ((i : Int) + 1) = ((i + 1 : Nat) : Int) := by rw [show ((i + 1 : Nat) : Int) = (i : Int) + 1 by omega]; exact IntWalk.i64_in _ ⟨by omega, by omega⟩
      have HA := hideK (And.intro hown hbt)
      clear hown hbt hxl k0 k1 k2 k3 hx
      go_upto_region 5 with fail
      obtain ⟨V, hV⟩ : ∃ V, wq.alloc (.cells #[.int .i64 x.i.N, .int .i64 x.i.D, .int .i64 x.o.N, .int .i64 x.o.D] 45) = V := ⟨_, rfl⟩
      have HV : Hid (Below wq.heap.size wq V ∧ V.heap[wq.heap.size]? = some (.cells #[.int .i64 x.i.N, .int .i64 x.i.D, .int .i64 x.o.N, .int .i64 x.o.D] 45)) := hideK (by
        rw [← hV]
        exact ⟨bel1 _ _, World.alloc_heap_new _ _⟩)
      rw [hV]
      clear hV q0 q1 q2 q3
      have k0 : V.cell? ⟨wq.heap.size, 0, none⟩ = some (.int .i64 x.i.N) := by simp [World.cell?, HV.out.2]
      have k1 : V.cell? ⟨wq.heap.size, 1, none⟩ = some (.int .i64 x.i.D) := by simp [World.cell?, HV.out.2]
      have k2 : V.cell? ⟨wq.heap.size, 2, none⟩ = some (.int .i64 x.o.N) := by simp [World.cell?, HV.out.2]
      have k3 : V.cell? ⟨wq.heap.size, 3, none⟩ = some (.int .i64 x.o.D) := by simp [World.cell?, HV.out.2]
      have hownV := own_growK HA.out.1 HV.out.1
      have hxl := hownV.1
      have e0 := hownV.cellAt (i * 4) (by omega)
      have e1 := hownV.cellAt (i * 4 + 1) (by omega)
      have e2 := hownV.cellAt (i * 4 + 2) (by omega)
      have e3 := hownV.cellAt (i * 4 + 3) (by omega)
      rw [List.getElem?_eq_getElem (by omega)] at e0 e1 e2 e3
      have f0 := hownV.frozenAt (i * 4)
      have f1 := hownV.frozenAt (i * 4 + 1)
      have f2 := hownV.frozenAt (i * 4 + 2)
      have f3 := hownV.frozenAt (i * 4 + 3)
      have HW := hideK hownV
      generalize (flatKn (swK (K.take i) ++ K.drop i))[i * 4]'(by omega) = q0 at e0
      generalize (flatKn (swK (K.take i) ++ K.drop i))[i * 4 + 1]'(by omega) = q1 at e1
      generalize (flatKn (swK (K.take i) ++ K.drop i))[i * 4 + 2]'(by omega) = q2 at e2
      generalize (flatKn (swK (K.take i) ++ K.drop i))[i * 4 + 3]'(by omega) = q3 at e3
      clear hownV hxl
      go_wp2_with fail
      go_roundw
      case rel =>
        refine ⟨i + 1, by first | rfl | simp, by omega, ?_, ?_⟩
        · have h9 := ((((HW.out.stored (i * 4) (.int .i64 x.o.N)).1.stored (i * 4 + 1) (.int .i64 x.o.D)).1.stored (i * 4 + 2) (.int .i64 x.i.N)).1.stored (i * 4 + 3) (.int .i64 x.i.D)).1
          rw [← HX.out.1, ← HX.out.2]
          exact h9
        · exact ((((HA.out.2.trans (But.grown HV.out.1)).setCell (p := ⟨g, i * 4, none⟩) rfl _).setCell (p := ⟨g, i * 4 + 1, none⟩) rfl _).setCell (p := ⟨g, i * 4 + 2, none⟩) rfl _).setCell (p := ⟨g, i * 4 + 3, none⟩) rfl _
      case measure => simp [intOf]; omega
    · obtain rfl : i = n := by omega
      have d1 : ¬ (i : Int) < (i : Int) := by omega
      have hk : K.take i = K := List.take_of_length_le (by rw [HN.out]; exact Nat.le_refl _)
      have hk2 : K.drop i = [] := List.drop_eq_nil_of_le (by rw [HN.out]; exact Nat.le_refl _)
      rw [hk, hk2, List.append_nil] at hown
      obtain ⟨o7, c7, e7, hc7, hk7, hl7⟩ := own_kn hown
      cases e7
      have hbw : Below w.heap.size w wq := HO.out.2.trans (hbt.below (by have := HO.out.2.size; omega) (fun k e => by rw [e]; exact hg.1))
      have hnw := hideK (new_any6 (swK K) (some ⟨g, 0, none⟩) c (fun x hx => by
        obtain ⟨y, hy, rfl⟩ := List.mem_map.1 hx
        exact ⟨(HK.out y hy).2, (HK.out y hy).1⟩) (by rw [sw_len, HN.out]; exact hc7) wq hk7)
      rw [sw_len, HN.out] at hnw
      have HB := hideK hbw
      clear hk hk2 hown hc7 hk7 hl7 hbw hbt
      go_wp2_with fail
      refine hnw.out.mono ?_
      rintro e w2 ⟨b2, h2⟩
      have H2 := hideK (bup HB.out b2)
      have hz := HB.out.size
      rcases h2 with ⟨hE, B2, rfl, hB2, hM2⟩ | ⟨hE, rfl⟩
      · have HE := hideK (And.intro hE (And.intro hB2 hM2))
        clear hE hB2 hM2 b2 hnw
        go_wp2_with fail
        rw [← HP.out]
        exact ⟨H2.out, .inl ⟨HE.out.1, B2, rfl, by have := HE.out.2.1; omega, HE.out.2.2⟩⟩
      · have HE := hideK hE
        clear hE b2 hnw
        go_wp2_with fail
        rw [← HP.out]
        exact ⟨H2.out, .inr ⟨HE.out, rfl⟩⟩
end Go.Proofs.Ytipnefaggpigfaa

/- What maps do, one behind the other, and backwards (chapter 6). -/
namespace Go.Proofs.Ytipnefaggpigfaa

theorem allI_all {f : Rt → Rt × Int} : ∀ (T : List Rt) (k : Nat), (allI f k T).2 = 0 → ∀ t ∈ T, (f t).2 = 0
  | [], _, _, t, ht => by cases ht
  | u :: T, k, h, t, ht => by
    have h' : (if (f u).2 = 0 then allI f (k + 1) T else ((k : Int), (f u).2)).2 = 0 := h
    by_cases h0 : (f u).2 = 0
    · rw [if_pos h0] at h'
      rcases List.mem_cons.1 ht with rfl | ht
      · exact h0
      · exact allI_all T (k + 1) h' t ht
    · rw [if_neg h0] at h'
      exact absurd h' h0
theorem thnE_zero {K1 K2 : List Kn} (h : thnE K1 K2 = 0) : (allI (undF K1 (slsK K1)) 0 (bndK K2)).2 = 0 ∧ errK (bothF K1 K2) (thnP K1 K2) = 0 ∧ newE (thnL K1 K2) = 0 := by
  unfold thnE at h
  by_cases h1 : (allI (undF K1 (slsK K1)) 0 (bndK K2)).2 = 0
  · rw [if_neg (fun e => e h1)] at h
    by_cases h2 : errK (bothF K1 K2) (thnP K1 K2) = 0
    · rw [if_neg (fun e => e h2)] at h
      exact ⟨h1, h2, h⟩
    · rw [if_pos h2] at h
      exact absurd h h2
  · rw [if_pos h1] at h
    exact absurd h h1
/-- The knots of Then lie on the line of one map behind the other. -/
theorem thn_line {f1 f2 : Rat → Rat} {K1 K2 : List Kn} (l1 : LineOf f1 K1 (slsK K1)) (l2 : LineOf f2 K2 (slsK K2)) (hm : ∀ t u, t < u → f1 t < f1 u) (hp : ∀ s ∈ slsK K1, 0 < valQ s) (n1 : 1 ≤ K1.length) (n2 : 1 ≤ K2.length) (hz : thnE K1 K2 = 0) : LineOf (fun t => f2 (f1 t)) (thnL K1 K2) (slsK (thnL K1 K2)) := by
  obtain ⟨z1, z2, z3⟩ := thnE_zero hz
  have hu := allI_all _ _ z1
  have hC : thnC K1 K2 = (bndK K2).map fun t => (undF K1 (slsK K1) t).1 := by unfold thnC allQ; rw [if_pos z1]
  have hb2 := bnd_ris l2.ris
  have hCr : RisL (thnC K1 K2) := by
    rw [hC]
    refine ⟨fun x hx => ?_, ?_⟩
    · obtain ⟨t, ht, rfl⟩ := List.mem_map.1 hx
      exact (line_und l1 hp n1 (hu t ht)).2.1
    · rw [List.pairwise_map]
      refine List.Pairwise.imp_of_mem (fun {a b} ha hb hab => ?_) hb2.2
      have ea := (line_und l1 hp n1 (hu a ha)).2.2
      have eb := (line_und l1 hp n1 (hu b hb)).2.2
      by_cases hc : valQ (undF K1 (slsK K1) a).1 < valQ (undF K1 (slsK K1) b).1
      · exact hc
      · have := mono_le hm (show valQ (undF K1 (slsK K1) b).1 ≤ valQ (undF K1 (slsK K1) a).1 by grind)
        grind
  have hb1 := bnd_ris l1.ris
  have hB : RisL (thnB K1 K2) := ⟨fun x hx => by
    rcases mrg_mem _ _ x hx with h | h
    · exact hb1.1 x h
    · exact hCr.1 x h, mrg_ris _ _ hb1 hCr⟩
  obtain ⟨c1, c2⟩ := mrg_has (bndK K1) (thnC K1 K2) hb1.1 hCr.1
  have herr := errK_all z2
  have hins : (thnL K1 K2).map (fun x => valQ x.i) = ptV (thnB K1 K2) := by
    rw [← ptsA_vals (B := thnB K1 K2) (fun x hx => (herr x hx).1)]
    unfold thnL kntK thnP
    rw [List.map_map]
    rfl
  have hpr := pts_ris hB (fun x hx => (herr x hx).1)
  have hri : RisQ (·.i) (thnL K1 K2) := by
    refine ⟨fun x hx => ?_, ?_⟩
    · obtain ⟨p, hp, rfl⟩ := List.mem_map.1 hx
      exact hpr.1 p.1 (List.mem_map.2 ⟨p, hp, rfl⟩)
    · have h9 := hpr.2
      unfold thnL kntK thnP
      rw [List.pairwise_map] at h9 ⊢
      exact h9
  refine pts_line hB (aff_comp l1 l2 hm c1 (fun b hb => ?_)) hins hri (newE_zero z3).2.1 (fun x hx => ?_)
  · obtain ⟨x, hx, e⟩ := c2 (undF K1 (slsK K1) b).1 (by rw [hC]; exact List.mem_map.2 ⟨b, hb, rfl⟩)
    exact ⟨x, hx, by rw [e]; exact (line_und l1 hp n1 (hu b hb)).2.2⟩
  · obtain ⟨p, hp', rfl⟩ := List.mem_map.1 hx
    have h0 := (herr p hp').2
    show rightB (bothF K1 K2 p.1).1 = true ∧ f2 (f1 (valQ p.1)) = valQ (bothF K1 K2 p.1).1
    unfold bothF at h0 ⊢
    by_cases ha : (appF K1 (slsK K1) p.1).2 = 0
    · rw [if_neg (fun e => e ha)] at h0 ⊢
      have e1 := line_app l1 n1 ha
      have e2 := line_app l2 n2 h0
      exact ⟨e2.1, by rw [e2.2, e1.2]⟩
    · rw [if_pos ha] at h0
      exact absurd h0 ha
/-- A map that New makes of knots does what h says. -/
structure Mp (h : Rat → Rat) (L : List Kn) : Prop where
  ok : newE L = 0
  mono : ∀ t u, t < u → h t < h u
  given : LineOf h L (slsK L)
  own : LineOf h (newK L) (slsK (newK L))
theorem new_len2 (L : List Kn) : 2 ≤ (newK L).length := by
  unfold newK kntK ownP
  rw [List.length_map]
  cases bndK L <;> simp [ptsA]
theorem Mp.of {L : List Kn} (hz : newE L = 0) : ∃ h, Mp h L := by
  obtain ⟨h, hm, hl, ho⟩ := rises_line2 hz
  exact ⟨h, hz, hm, hl, ho⟩
theorem Mp.ro {h : Rat → Rat} {L : List Kn} (m : Mp h L) : RisQ (·.o) (newK L) := outs_ris m.mono m.own.ris m.own.outs
theorem Mp.pos {h : Rat → Rat} {L : List Kn} (m : Mp h L) : ∀ s ∈ slsK (newK L), 0 < valQ s := sls_pos m.own.ris m.ro (newE_zero m.ok).2.2.2
theorem Mp.mpk {h : Rat → Rat} {L : List Kn} (m : Mp h L) (hL : ∀ x ∈ L, KnIn x) : MpK (newK L) := by
  have hni := new_in L hL
  have hpi := pts_in (bndK L) (bnd_in L hL)
  have hbl := bnd_len L
  have h64 := (chk_ok (newE_zero m.ok).1).2.1
  have h2 := new_len2 L
  refine ⟨hni.1, sls_len _ (by omega), ?_, by omega, m.own.ris, sls_in _ hni.1⟩
  rw [hni.2]
  show (ptsA (bndK L)).length ≤ _
  omega
theorem Mp.inv {h : Rat → Rat} {L : List Kn} (m : Mp h L) (hz : newE (swK (newK L)) = 0) : ∃ g, Mp g (swK (newK L)) ∧ (∀ t, g (h t) = t) ∧ ∀ u, h (g u) = u := by
  obtain ⟨g, e1, e2, gm, gl⟩ := line_inv (new_len2 L) m.mono m.own (newE_zero m.ok).2.2.2 (newE_zero hz).2.1
  exact ⟨g, ⟨hz, gm, gl, own_line hz gl⟩, e1, e2⟩
theorem Mp.thn {f1 f2 : Rat → Rat} {L1 L2 : List Kn} (m1 : Mp f1 L1) (m2 : Mp f2 L2) (hz : thnE (newK L1) (newK L2) = 0) : Mp (fun t => f2 (f1 t)) (thnL (newK L1) (newK L2)) := by
  have n1 := new_len2 L1
  have n2 := new_len2 L2
  have hl := thn_line m1.own m2.own m1.mono m1.pos (by omega) (by omega) hz
  have hz3 := (thnE_zero hz).2.2
  exact ⟨hz3, fun t u htu => m2.mono _ _ (m1.mono _ _ htu), hl, own_line hz3 hl⟩
theorem Mp.same {h : Rat → Rat} {L M : List Kn} (a : Mp h L) (b : Mp h M) : newK M = newK L := own_same a.ok b.ok a.given b.given
theorem Mp.app {h : Rat → Rat} {L : List Kn} {t : Rt} (m : Mp h L) (h0 : (appF (newK L) (slsK (newK L)) t).2 = 0) : rightB t = true ∧ rightB (appF (newK L) (slsK (newK L)) t).1 = true ∧ valQ (appF (newK L) (slsK (newK L)) t).1 = h (valQ t) := by
  have n1 := new_len2 L
  have := line_app m.own (by omega) h0
  exact ⟨app_right h0, this.1, this.2⟩
theorem Mp.und {h : Rat → Rat} {L : List Kn} {t : Rt} (m : Mp h L) (h0 : (undF (newK L) (slsK (newK L)) t).2 = 0) : rightB t = true ∧ rightB (undF (newK L) (slsK (newK L)) t).1 = true ∧ h (valQ (undF (newK L) (slsK (newK L)) t).1) = valQ t := by
  have n1 := new_len2 L
  exact line_und m.own m.pos (by omega) h0
def I06 : List Kn := [⟨⟨0, 1⟩, ⟨0, 1⟩⟩, ⟨⟨1, 1⟩, ⟨1, 1⟩⟩]
theorem i06_k : newK I06 = I06 := by kernel_rfl
theorem i06_e : newE I06 = 0 := by kernel_rfl
theorem i06_s : slsK I06 = [⟨1, 1⟩, ⟨1, 1⟩, ⟨1, 1⟩] := by kernel_rfl
theorem i06_mp : Mp (fun t => t) I06 := by
  have hc := chk_ok (newE_zero i06_e).1
  have hl : LineOf (fun t => t) I06 (slsK I06) := by
    refine ⟨hc.2.2.1, fun s hs => ?_, fun x hx => ?_, 0, 0, ⟨1, 1⟩, [⟨1, 1⟩, ⟨1, 1⟩], i06_s, rfl, fun t => ?_⟩
    · rw [i06_s] at hs
      simp at hs
      rw [hs]
      decide +kernel
    · refine ⟨hc.2.2.2.1 x hx, ?_⟩
      rcases List.mem_cons.1 hx with rfl | hx
      · rfl
      · rw [List.mem_singleton.1 hx]
    · show t = hev 0 0 (valQ ⟨1, 1⟩) [(valQ ⟨0, 1⟩, valQ ⟨1, 1⟩), (valQ ⟨1, 1⟩, valQ ⟨1, 1⟩)] t
      rw [val_oneK, val_zeroH, hev_drop _ _ _ _ _ _ (fun y hy => by rw [List.mem_singleton.1 hy]; exact (by decide +kernel : (0 : Rat) ≤ 1)), hev_drop _ _ _ _ _ _ (fun _ h => by cases h), hev_nil]
      grind
  exact ⟨i06_e, fun t u h => h, hl, by rw [i06_k]; exact hl⟩
/-- All that RetimeInverts asks. -/
theorem inverts_facts {L : List Kn} (hz : newE L = 0) (hv : newE (swK (newK L)) = 0) :
    (newE (swK (newK (swK (newK L)))) = 0 → newK (swK (newK (swK (newK L)))) = newK L) ∧
    (thnE (newK L) (newK (swK (newK L))) = 0 → newK (thnL (newK L) (newK (swK (newK L)))) = I06) ∧
    ∀ t : Rt, (appF (newK L) (slsK (newK L)) t).2 = 0 →
      ((appF (newK (swK (newK L))) (slsK (newK (swK (newK L)))) (appF (newK L) (slsK (newK L)) t).1).2 = 0 → (appF (newK (swK (newK L))) (slsK (newK (swK (newK L)))) (appF (newK L) (slsK (newK L)) t).1).1 = t) ∧
      ((undF (newK (swK (newK L))) (slsK (newK (swK (newK L)))) t).2 = 0 → (undF (newK (swK (newK L))) (slsK (newK (swK (newK L)))) t).1 = (appF (newK L) (slsK (newK L)) t).1) := by
  obtain ⟨h, m⟩ := Mp.of hz
  obtain ⟨g, mg, gh, hg⟩ := m.inv hv
  refine ⟨fun hw => ?_, fun ht => ?_, fun t h0 => ⟨fun h1 => ?_, fun h1 => ?_⟩⟩
  · obtain ⟨k, mk, kg, gk⟩ := mg.inv hw
    have e : k = h := funext fun u => by
      have := kg (h u)
      rw [gh] at this
      exact this
    rw [e] at mk
    exact Mp.same m mk
  · have mt := m.thn mg ht
    have e : (fun t => g (h t)) = fun t => t := funext gh
    rw [e] at mt
    have := Mp.same i06_mp mt
    rw [this, i06_k]
  · obtain ⟨r, r1, v1⟩ := m.app h0
    obtain ⟨_, r2, v2⟩ := mg.app h1
    exact right_inj _ _ r2 r (by rw [v2, v1, gh])
  · obtain ⟨r, r1, v1⟩ := m.app h0
    obtain ⟨_, r2, v2⟩ := mg.und h1
    exact right_inj _ _ r2 r1 (by rw [v1, ← v2, hg])
/-- All that RetimeComposes asks. -/
theorem comp_same {A B C : List Kn} (ha : newE A = 0) (hb : newE B = 0) (hc : newE C = 0) (e1 : thnE (newK A) (newK B) = 0) (e2 : thnE (newK B) (newK C) = 0)
    (e3 : thnE (newK (thnL (newK A) (newK B))) (newK C) = 0) (e4 : thnE (newK A) (newK (thnL (newK B) (newK C))) = 0) :
    newK (thnL (newK (thnL (newK A) (newK B))) (newK C)) = newK (thnL (newK A) (newK (thnL (newK B) (newK C)))) := by
  obtain ⟨f, mf⟩ := Mp.of ha
  obtain ⟨g, mg⟩ := Mp.of hb
  obtain ⟨h, mh⟩ := Mp.of hc
  have m1 := (mf.thn mg e1).thn mh e3
  have m2 := mf.thn (mg.thn mh e2) e4
  exact Mp.same m2 m1
theorem comp_times {A B : List Kn} (ha : newE A = 0) (hb : newE B = 0) (t : Rt) (h0 : (appF (newK A) (slsK (newK A)) t).2 = 0) :
    ((undF (newK A) (slsK (newK A)) (appF (newK A) (slsK (newK A)) t).1).2 = 0 → (undF (newK A) (slsK (newK A)) (appF (newK A) (slsK (newK A)) t).1).1 = t) ∧
    (thnE (newK A) (newK B) = 0 → (appF (newK B) (slsK (newK B)) (appF (newK A) (slsK (newK A)) t).1).2 = 0 →
      ((appF (newK (thnL (newK A) (newK B))) (slsK (newK (thnL (newK A) (newK B)))) t).2 = 0 → (appF (newK (thnL (newK A) (newK B))) (slsK (newK (thnL (newK A) (newK B)))) t).1 = (appF (newK B) (slsK (newK B)) (appF (newK A) (slsK (newK A)) t).1).1) ∧
      ((undF (newK (thnL (newK A) (newK B))) (slsK (newK (thnL (newK A) (newK B)))) (appF (newK B) (slsK (newK B)) (appF (newK A) (slsK (newK A)) t).1).1).2 = 0 → (undF (newK (thnL (newK A) (newK B))) (slsK (newK (thnL (newK A) (newK B)))) (appF (newK B) (slsK (newK B)) (appF (newK A) (slsK (newK A)) t).1).1).1 = t)) := by
  obtain ⟨f, mf⟩ := Mp.of ha
  obtain ⟨g, mg⟩ := Mp.of hb
  obtain ⟨r, r1, v1⟩ := mf.app h0
  refine ⟨fun h1 => ?_, fun hz h1 => ?_⟩
  · obtain ⟨_, r2, v2⟩ := mf.und h1
    exact right_inj _ _ r2 r (mono_inj mf.mono (by rw [v2, v1]))
  · have mt := mf.thn mg hz
    obtain ⟨_, r2, v2⟩ := mg.app h1
    refine ⟨fun h2 => ?_, fun h2 => ?_⟩
    · obtain ⟨_, r3, v3⟩ := mt.app h2
      exact right_inj _ _ r3 r2 (by rw [v3, v2, v1])
    · obtain ⟨_, r3, v3⟩ := mt.und h2
      exact right_inj _ _ r3 r (mono_inj mt.mono (by rw [v3, v2, v1]))
end Go.Proofs.Ytipnefaggpigfaa
