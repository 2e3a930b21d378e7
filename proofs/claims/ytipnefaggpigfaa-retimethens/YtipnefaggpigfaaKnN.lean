/- The knots at points: retime's knotsAt (chapter 6). -/
import Derived.Test.YtipnefaggpigfaaKnM
import Derived.Test.YtipnefaggpigfaaKnH
import Derived.Maps.AppendAt
import Derived.OwnWalkIn
namespace Go.Proofs.Ytipnefaggpigfaa
open Go.RowKit Go.Shelf
attribute [local go_sem] Oper.semAt_some

/-- The first error of points and what is told at them. -/
def errK (f : Rt → Rt × Int) : List (Rt × Int) → Int
  | [] => 0
  | x :: P => if ¬ x.2 = 0 then x.2 else if ¬ (f x.1).2 = 0 then (f x.1).2 else errK f P
def kntK (f : Rt → Rt × Int) (P : List (Rt × Int)) : List Kn := P.map fun x => ⟨x.1, (f x.1).1⟩
theorem errK_app (f : Rt → Rt × Int) : ∀ A B : List (Rt × Int), errK f (A ++ B) = if errK f A = 0 then errK f B else errK f A
  | [], B => rfl
  | x :: A, B => by
    show (if ¬ x.2 = 0 then x.2 else if ¬ (f x.1).2 = 0 then (f x.1).2 else errK f (A ++ B)) = if (if ¬ x.2 = 0 then x.2 else if ¬ (f x.1).2 = 0 then (f x.1).2 else errK f A) = 0 then errK f B else (if ¬ x.2 = 0 then x.2 else if ¬ (f x.1).2 = 0 then (f x.1).2 else errK f A)
    by_cases h1 : x.2 = 0
    · by_cases h2 : (f x.1).2 = 0
      · simp only [h1, h2, not_true, if_false, errK_app f A B]
      · simp [h1, h2]
    · simp [h1]
theorem boxed_butK {M : Nat → Prop} {A W : World} {B : Nat} {t : TypeId} {v : Value} (h : Boxed A B t v) (hb : But M A W) (hm : ¬ M B) : Boxed W B t v := (hb.same B h.lt hm).trans h
theorem boxed_keepsK {m b : Nat} {A W : World} {B : Nat} {t : TypeId} {v : Value} (h : Boxed A B t v) (hb : Keeps m b A W) (hm : B < m) : Boxed W B t v := (hb.same B h.lt (.inl hm)).trans h
theorem own_keepsK {A B : World} {m hi : Nat} {e : TypeId} {size : Nat} {v : Value} {n : Nat} {xs : List Value} (h : A.ownsRow hi e size v n xs) (hk : Keeps m hi A B) : B.ownsRow hi e size v n xs := by
  refine ⟨h.1, ?_⟩
  rcases h.2 with hn | ⟨g, cap, cur, rfl, hb, hgg, rest⟩
  · exact .inl hn
  · exact .inr ⟨g, cap, cur, rfl, hb, (hk.same g (Array.getElem?_eq_some_iff.1 hgg).1 (.inr hb)).trans hgg, rest⟩
theorem own_putK {A : World} {hi D : Nat} {e : TypeId} {size : Nat} {v : Value} {n : Nat} {xs : List Value} {o : Option (List Deferred)} {o' : Obj} (h : A.ownsRow hi e size v n xs) (hD : A.heap[D]? = some (.deferred o)) : (A.putObj D o').ownsRow hi e size v n xs := by
  refine ⟨h.1, ?_⟩
  rcases h.2 with hn | ⟨g, cap, cur, rfl, hb, hgg, rest⟩
  · exact .inl hn
  · refine .inr ⟨g, cap, cur, rfl, hb, (World.putObj_heap_other (fun e => ?_)).trans hgg, rest⟩
    subst e
    rw [hgg] at hD
    cases hD
theorem own_fromK {A : World} {m hi : Nat} {e : TypeId} {size : Nat} {v : Value} {n : Nat} {xs : List Value} (h : A.ownsRow hi e size v n xs) (hm : m ≤ hi) : A.ownsRow m e size v n xs := by
  refine ⟨h.1, ?_⟩
  rcases h.2 with hn | ⟨g, cap, cur, rfl, hb, rest⟩
  · exact .inl hn
  · exact .inr ⟨g, cap, cur, rfl, by omega, rest⟩
theorem but_grownK {M : Nat → Prop} {A B : World} {row : Option Nat} (h : A.grownBy B row) (hr : ∀ k, row = some k → M k) : But M A B := ⟨h.os, h.tape, h.output, h.size, fun k hk hm => h.block k hk (fun e => hm (hr k e.symm))⟩
theorem cell_fourK (w : World) (a b c d : Value) (t : TypeId) : ∀ j u, [a, b, c, d][j]? = some u → (w.alloc (.cells #[a, b, c, d] t)).cell? ((⟨w.heap.size, 0, none⟩ : Addr).add j) = some u := World.news_of_block (cs := #[a, b, c, d]) (t := t) (fr := (0, 0)) (World.alloc_heap_new w _)

theorem boxed_putK {X : World} {k D : Nat} {t : TypeId} {v : Value} {o : Option (List Deferred)} {o' : Obj} (h : Boxed X k t v) (hD : X.heap[D]? = some (.deferred o)) : Boxed (X.putObj D o') k t v := by
  refine (World.putObj_heap_other (fun e => ?_)).trans h
  subst e
  have h9 : X.heap[k]? = some (.cells #[v] t (0, 0)) := h
  rw [h9] at hD
  cases hD
theorem errK_front {f : Rt → Rt × Int} {A P : List (Rt × Int)} (h : A <+: P) (hA : ¬ errK f A = 0) : errK f P = errK f A := by
  obtain ⟨B, rfl⟩ := h
  rw [errK_app, if_neg hA]
set_option maxRecDepth 100000 in
set_option maxHeartbeats 4000000 in
theorem knotsAt_walk (f : Rt → Rt × Int) (R bx : Nat) (P : List (Rt × Int)) (hP : P.length ≤ 10000) (Free : Nat → Prop) (w : World) (hFr : ∀ k, w.heap.size ≤ k → Free k)
    (hsq : ∀ n W, 1 ≤ n → Below w.heap.size w W → SeqL n 0 Try.prog 54 #[.pointer (some ⟨bx, 0, none⟩)] encP P Free W)
    (H : ∀ x ∈ P, ∀ W, Below w.heap.size w W → Calls Try.prog 16 #[.pointer (some ⟨R, 0, none⟩), .agg #[.int .i64 x.1.N, .int .i64 x.1.D]] W fun e w' => e = .returned (.tuple #[.agg #[.int .i64 (f x.1).1.N, .int .i64 (f x.1).1.D], .int .i64 (f x.1).2]) ∧ Below W.heap.size W w') :
    Calls Try.prog 21 #[.func (.func 54) #[] #[.pointer (some ⟨bx, 0, none⟩)], .func (.func 16) #[.pointer (some ⟨R, 0, none⟩)] #[]] w fun e w' => ∃ v, e = .returned (.tuple #[v, .int .i64 (errK f P)]) ∧ (errK f P = 0 → w'.ownsRow w.heap.size 45 4 v P.length (flatKn (kntK f P))) ∧ Below w.heap.size w w' := by
  obtain ⟨j0, hJ, hy0, hy1, hy2⟩ := info_partsK infoKnK
  have HH := hideK H
  have HSq := hideK hsq
  clear H hsq
  refine (callsIn_wide (n := 9)).1 ?_
  refine callsIn_of_wp_marks Try.func21 rfl trivial ?_ rfl
  simp only [Try.ntmps21, List.size_toArray, List.length_cons, List.length_nil, Nat.reduceAdd, Nat.reduceSub, Array.replicate_succ, Array.replicate_zero, List.push_toArray, List.append_toArray, List.nil_append, List.cons_append]
  gi_wp2_with fail
  obtain ⟨V, hV⟩ : ∃ V, (((w.alloc (.cells #[.func (.func 16) #[.pointer (some ⟨R, 0, none⟩)] #[]] 47)).alloc (.cells #[.slice none 0 0] 22)).alloc (.cells #[.int .i64 0] 26)).alloc (.cells #[.slice none 0 0] 22) = V := ⟨_, rfl⟩
  have hzV : V.heap.size = w.heap.size + 4 := by rw [← hV]; simp
  have b0 : Boxed V w.heap.size 47 (.func (.func 16) #[.pointer (some ⟨R, 0, none⟩)] #[]) := by rw [← hV]; exact (((Boxed.new w _ _).alloc _).alloc _).alloc _
  have b1 : Boxed V (w.heap.size + 1) 22 (.slice none 0 0) := by
    rw [← hV]
    have h := Boxed.new (w.alloc (.cells #[.func (.func 16) #[.pointer (some ⟨R, 0, none⟩)] #[]] 47)) 22 (.slice none 0 0)
    rw [World.size_alloc] at h
    exact (h.alloc _).alloc _
  have b2 : Boxed V (w.heap.size + 1 + 1) 26 (.int .i64 0) := by
    rw [← hV]
    have h := Boxed.new ((w.alloc (.cells #[.func (.func 16) #[.pointer (some ⟨R, 0, none⟩)] #[]] 47)).alloc (.cells #[.slice none 0 0] 22)) 26 (.int .i64 0)
    rw [World.size_alloc, World.size_alloc] at h
    exact h.alloc _
  have b3 : Boxed V (w.heap.size + 1 + 1 + 1) 22 (.slice none 0 0) := by
    rw [← hV]
    have h := Boxed.new (((w.alloc (.cells #[.func (.func 16) #[.pointer (some ⟨R, 0, none⟩)] #[]] 47)).alloc (.cells #[.slice none 0 0] 22)).alloc (.cells #[.int .i64 0] 26)) 22 (.slice none 0 0)
    rw [World.size_alloc, World.size_alloc, World.size_alloc] at h
    exact h
  have hB : Below w.heap.size w V := by
    rw [← hV]
    exact bup (bup (bup (bel1 _ _) (bel1 _ _)) (bel1 _ _)) (bel1 _ _)
  rw [hV]
  clear hV
  refine rangeFunc_box (α := Rt × Int) (by omega) (gf := 54) (lb := #[.pointer (some ⟨bx, 0, none⟩)]) rfl (enters_of Try.func54 (by kernel_rfl) rfl)
    (HSq.out (9 - 1) V (by omega) hB) (fun _ => rfl)
    (fun k => k = w.heap.size + 1 ∨ k = w.heap.size + 1 + 1 ∨ k = w.heap.size + 1 + 1 + 1) (fun k e => ⟨by omega, hFr k (by omega)⟩)
    (fun pre W => errK f pre = 0 ∧ Boxed W (w.heap.size + 1) 22 (.slice none 0 0) ∧ Boxed W (w.heap.size + 1 + 1) 26 (.int .i64 0) ∧ ∃ v, Boxed W (w.heap.size + 1 + 1 + 1) 22 v ∧ W.ownsRow (V.heap.size + 2 + 0) 45 4 v pre.length (flatKn (kntK f pre)))
    (fun c pre W => c = .ret ∧ ∃ er, ¬ er = 0 ∧ errK f pre = er ∧ Boxed W (w.heap.size + 1) 22 (.slice none 0 0) ∧ Boxed W (w.heap.size + 1 + 1) 26 (.int .i64 er))
    (fun pre A B h hk => by
      obtain ⟨h0, h1, h2, v, h3, h4⟩ := h
      exact ⟨h0, boxed_keepsK h1 hk (by omega), boxed_keepsK h2 hk (by omega), v, boxed_keepsK h3 hk (by omega), own_keepsK h4 hk⟩)
    (fun c pre A B h hk => by
      obtain ⟨h0, er, h1, h2, h3, h4⟩ := h
      exact ⟨h0, er, h1, h2, boxed_keepsK h3 hk (by omega), boxed_keepsK h4 hk (by omega)⟩)
    ⟨rfl, b1, b2, _, b3, World.ownsRow_nil _ _ _ _⟩ ?round ?done ?stop
  case round =>
    rintro l pre x W K hl hlW hhi hlh hBW hip hpx hK
    have hWz := hBW.size
    have hpl : pre.length + 1 ≤ P.length := by have := hpx.length_le; simpa using this
    have HX := hideK (HH.out x (by
      obtain ⟨T, hT⟩ := hpx
      rw [← hT]
      simp))
    simp only [encP]
    gi_wp2
    refine hK _ _ ((Below.refl _ W).alloc (Nat.le_refl _) _) (fun W2 hbo hzz hB2 hi2 => ?_)
    have hWW : W.heap.size + 1 = W2.heap.size := by rw [hzz]; simp
    clear hzz hK
    have hx : Two W2 W.heap.size (.int .i64 x.1.N) (.int .i64 x.1.D) := by
      have e : W2.heap[W.heap.size]? = some (.cells #[.int .i64 x.1.N, .int .i64 x.1.D] 42) := (hbo.same W.heap.size (by simp) (by omega)).trans (World.alloc_heap_new W _)
      exact ⟨by omega, by simp [World.cell?, e], by simp [World.cell?, e], by simp [World.frozen?, e], by simp [World.frozen?, e]⟩
    obtain ⟨he0, c1, c2, v, c3, hrow⟩ := hi2
    have m0 := boxed_butK b0 hB2 (by omega)
    have hBW2 : Below w.heap.size w W2 := hB.trans (hB2.below (by omega) (fun k e => by omega))
    obtain ⟨x, xe⟩ := x
    simp only at hx HX hpx
    have HXx := hideK hx
    have HC := hideK (And.intro he0 (And.intro c1 (And.intro c2 (And.intro c3 (And.intro hrow (And.intro m0 hBW2))))))
    have q1 := c1.cell
    have q1f := c1.frozen
    have q2 := c2.cell
    have q2f := c2.frozen
    obtain ⟨_, k0, k1, _, _⟩ := hx
    have km := m0.cell
    clear hpx hbo hB2 he0 c1 c2 c3 hrow hBW2 m0
    by_cases hxe : xe = 0
    · subst hxe
      obtain ⟨r, hr⟩ : ∃ r, f x = r := ⟨_, rfl⟩
      have HR := hideK hr
      rw [hr] at HX
      clear hr
      gi_wp2_with fail
      refine ⟨trivial, ?_⟩
      refine (callsIn_wide.2 (HX.out W2 HC.out.2.2.2.2.2.2)).mono ?_
      rintro e w4 ⟨rfl, b4⟩
      have HB4 := hideK b4
      clear b4 HX q1 q1f q2 q2f k0 k1 km
      gi_upto_region 8 with fail
      obtain ⟨w5, hw5⟩ : ∃ w5, w4.alloc (.cells #[.int .i64 r.1.N, .int .i64 r.1.D] 42) = w5 := ⟨_, rfl⟩
      have HB5 : Hid (Below W2.heap.size W2 w5 ∧ Two w5 w4.heap.size (.int .i64 r.1.N) (.int .i64 r.1.D)) := hideK (by
        rw [← hw5]
        exact ⟨bup HB4.out (bel1 _ _), Two.new _ _ _ _⟩)
      rw [hw5]
      clear hw5
      generalize w4.heap.size = B4 at *
      obtain ⟨_, y0, y1, _, _⟩ := HB5.out.2
      obtain ⟨he0, c1, c2, c3, hrow, m0, hBW2⟩ := HC.out
      have kp : ∀ {k : Nat} {t : TypeId} {u : Value}, Boxed W2 k t u → Boxed w5 k t u := fun h => (HB5.out.1.block _ h.lt).trans h
      have hz5 := HB5.out.1.size
      by_cases hre : r.2 = 0
      · obtain ⟨_, k0, k1, _, _⟩ := HXx.out.keep HB5.out.1
        have c3' := kp c3
        have hrow5 := own_growK hrow HB5.out.1
        have e3 := c3'.cell
        have HD := hideK (And.intro he0 (And.intro (kp c1) (And.intro (kp c2) (And.intro c3' hrow5))))
        clear c1 c2 c3 hrow m0 hBW2 he0
        gi_upto_region 10 with fail
        gi_wp2_with (gi_at_builtin; refine wpListIn_append_own _ rfl _ _ 22 rfl (V.heap.size + 2 + 0) 45 j0 (.agg #[.int .i64 0, .int .i64 0, .int .i64 0, .int .i64 0]) 4 32 Try.underlying22 hJ hy0 hy1 hy2 rfl (by decide) _ _ _ rfl (hrow5.alloc _) ⟨w5.heap.size, 0, none⟩ 1 1 [.int .i64 x.N, .int .i64 x.D, .int .i64 r.1.N, .int .i64 r.1.D] rfl rfl (cell_fourK _ _ _ _ _ _) (fun u hu => by simp at hu; rcases hu with rfl | rfl | rfl | rfl <;> rfl) (by unfold maxLen; omega) (by omega) (by simp; omega) ?_; intro v' Y1 hown' hgrow _; obtain ⟨g2, cap2, rfl⟩ := ownsRow_succ hown'; have d3 : Boxed Y1 (w.heap.size + 1 + 1 + 1) 22 v := (c3'.alloc _).kept hgrow (fun e => by have := (hrow5.lt _ e.symm).1; omega); have k3 := d3.cell; have f3 := d3.frozen)
        refine ⟨(((But.grown HB5.out.1).alloc _).trans (but_grownK hgrow (fun k e => .inr (hrow5.lt k e).1))).setCell (p := ⟨w.heap.size + 1 + 1 + 1, 0, none⟩) (.inl (.inr (.inr rfl))) _, ?_, ?_, ?_, _, Boxed.set _ d3, ?_⟩
        · rw [errK_app, if_pos HD.out.1]
          simp [errK, HR.out, hre]
        · exact ((HD.out.2.1.alloc _).kept hgrow (fun e => by have := (hrow5.lt _ e.symm).1; omega)).kept (grownBy_setCell' _ _ _) (by simp)
        · exact ((HD.out.2.2.1.alloc _).kept hgrow (fun e => by have := (hrow5.lt _ e.symm).1; omega)).kept (grownBy_setCell' _ _ _) (by simp)
        · rw [List.length_append, show kntK f (pre ++ [(x, 0)]) = kntK f pre ++ [⟨x, r.1⟩] by simp [kntK, HR.out], flatKn_app]
          exact hown'.kept (grownBy_setCell' Y1 _ _) (.inr (fun e => by have := (hown'.lt _ e).1; omega))
      · have e1 := (kp c1).cell
        have e1f := (kp c1).frozen
        have c2' : Boxed (w5.setCell ⟨w.heap.size + 1, 0, none⟩ (.slice none 0 0)) (w.heap.size + 1 + 1) 26 (.int .i64 0) := (kp c2).kept (grownBy_setCell' _ _ _) (by simp)
        have e2 := c2'.cell
        have e2f := c2'.frozen
        have HD := hideK (And.intro he0 (And.intro (kp c1) c2'))
        clear c1 c2 c3 hrow m0 hBW2 he0 c2'
        gi_wp2
        refine ⟨(((But.grown HB5.out.1).setCell (p := ⟨w.heap.size + 1, 0, none⟩) (.inl (.inl rfl)) _).setCell (p := ⟨w.heap.size + 1 + 1, 0, none⟩) (.inl (.inr (.inl rfl))) _), rfl, r.2, hre, ?_, ?_, ?_⟩
        · rw [errK_app, if_pos HD.out.1]
          simp [errK, HR.out, hre]
        · exact (Boxed.set _ HD.out.2.1).kept (grownBy_setCell' _ _ _) (by simp)
        · exact Boxed.set _ HD.out.2.2
    · have c2' : Boxed (W2.setCell ⟨w.heap.size + 1, 0, none⟩ (.slice none 0 0)) (w.heap.size + 1 + 1) 26 (.int .i64 0) := HC.out.2.2.1.kept (grownBy_setCell' _ _ _) (by simp)
      have e2 := c2'.cell
      have e2f := c2'.frozen
      have HD := hideK c2'
      clear c2' q2 q2f
      gi_wp2
      refine ⟨((But.set W2 ⟨w.heap.size + 1, 0, none⟩ _ (.inl (.inl rfl))).setCell (p := ⟨w.heap.size + 1 + 1, 0, none⟩) (.inl (.inr (.inl rfl))) _), rfl, xe, hxe, ?_, ?_, ?_⟩
      · rw [errK_app, if_pos HC.out.1]
        simp [errK, hxe]
      · exact (Boxed.set _ HC.out.2.1).kept (grownBy_setCell' _ _ _) (by simp)
      · exact Boxed.set _ HD.out
  case done =>
    rintro D W hD ⟨he, c1, c2, v, hv, hrow⟩ hBW hK
    have k0 := hv.cell
    have q1 := c1.cell
    have q1f := c1.frozen
    obtain ⟨o2, p2, rfl, _, _, _⟩ := own_kn (show W.ownsRow _ _ 4 v P.length (flatKn (kntK f P)) from hrow)
    have c2' : Boxed (W.setCell ⟨w.heap.size + 1, 0, none⟩ (.slice o2 P.length p2)) (w.heap.size + 1 + 1) 26 (.int .i64 0) := c2.kept (grownBy_setCell' _ _ _) (by simp)
    have e2 := c2'.cell
    have e2f := c2'.frozen
    have HD := hideK (And.intro c1 (And.intro c2' (And.intro hrow (And.intro hK (And.intro hBW he)))))
    clear c1 c2 c2' hv hrow hK hBW he
    gi_wp2
    obtain ⟨X, hX⟩ : ∃ X, (W.setCell ⟨w.heap.size + 1, 0, none⟩ (.slice o2 P.length p2)).setCell ⟨w.heap.size + 1 + 1, 0, none⟩ (.int .i64 0) = X := ⟨_, rfl⟩
    rw [hX]
    obtain ⟨c1, c2, hrow, hK, hBW, he⟩ := HD.out
    have bX : Below w.heap.size w X := by
      rw [← hX]
      exact ((hB.trans (hBW.below (by omega) (fun k e => by omega))).setCell (by show w.heap.size ≤ w.heap.size + 1; omega) _).setCell (by show w.heap.size ≤ w.heap.size + 1 + 1; omega) _
    have x1 : Boxed X (w.heap.size + 1) 22 (.slice o2 P.length p2) := by rw [← hX]; exact (Boxed.set _ c1).kept (grownBy_setCell' _ _ _) (by simp)
    have x2 : Boxed X (w.heap.size + 1 + 1) 26 (.int .i64 0) := by rw [← hX]; exact Boxed.set _ c2
    have xD : X.heap[D]? = some (.deferred (some [])) := by
      rw [← hX]
      exact ((Below.heap_setCell _ _ _ _ (by show D ≠ w.heap.size + 1 + 1; omega)).trans (Below.heap_setCell _ _ _ _ (by show D ≠ w.heap.size + 1; omega))).trans hK
    have xr : X.ownsRow (V.heap.size + 2 + 0) 45 4 (.slice o2 P.length p2) P.length (flatKn (kntK f P)) := by
      rw [← hX]
      refine ((show W.ownsRow _ _ 4 _ P.length _ from hrow).kept (grownBy_setCell' W _ _) (.inr (fun e => ?_))).kept (grownBy_setCell' _ _ _) (.inr (fun e => ?_))
      · have := (hrow.lt _ e).1
        omega
      · have := (hrow.lt _ e).1
        omega
    clear hX c1 c2 hrow hK hBW HD
    refine ⟨by simp, .inl ⟨_, _, rfl, run_takeDeferred xD, ?_⟩⟩
    have y1 := (boxed_putK (o' := .deferred none) x1 xD).cell
    have y2 := (boxed_putK (o' := .deferred none) x2 xD).cell
    refine ⟨.tuple #[.slice o2 P.length p2, .int .i64 0], by simp [results, Try.f21, go_sem, y1, y2], .slice o2 P.length p2, by rw [he], fun _ => ?_, bX.trans ((putObj_belowL _ _ _).mono (by omega))⟩
    exact own_fromK (own_putK xr xD) (by omega)
  case stop =>
    rintro D c pre W hD hpre ⟨rfl, er, hne, her, c1, c2⟩ hBW hK
    have q1 := c1.cell
    have q2 := c2.cell
    have HD := hideK (And.intro c1 (And.intro c2 (And.intro hK (And.intro hBW her))))
    clear c1 c2 hK hBW her
    gi_wp2
    obtain ⟨c1, c2, hK, hBW, her⟩ := HD.out
    refine ⟨by simp, .inl ⟨_, _, rfl, run_takeDeferred hK, ?_⟩⟩
    have y1 := (boxed_putK (o' := .deferred none) c1 hK).cell
    have y2 := (boxed_putK (o' := .deferred none) c2 hK).cell
    have hE : errK f P = er := by rw [errK_front hpre (by rw [her]; exact hne), her]
    refine ⟨.tuple #[.slice none 0 0, .int .i64 er], by simp [results, Try.f21, go_sem, y1, y2], .slice none 0 0, by rw [hE], fun h => absurd (hE.symm.trans h) hne, ?_⟩
    exact (hB.trans (hBW.below (by omega) (fun k e => by omega))).trans ((putObj_belowL _ _ _).mono (by omega))
end Go.Proofs.Ytipnefaggpigfaa
