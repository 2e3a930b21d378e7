/- Package wrap: the badness of a way. -/
import Derived.Test.YteignefcijmmeaaDoorWrL
namespace Go.Proofs.YteignefcijmmeaaDoor
open Go.RowKit Go.Shelf
attribute [local go_sem] Oper.semAt_some

/-- A line's badness, and whether it fits. -/
def lnB (wd : Int) (p : Ln) : Int × Bool := sbadI p.x.kind p.x.fin.ce p.c wd
def sumB (wd : Int) (l : List Ln) : Int := (l.map fun p => (lnB wd p).1).sum
def allB (wd : Int) (l : List Ln) : Bool := l.all fun p => (lnB wd p).2
theorem sumB_snoc (wd : Int) (l : List Ln) (p : Ln) : sumB wd (l ++ [p]) = sumB wd l + (lnB wd p).1 := by simp [sumB]
theorem allB_snoc (wd : Int) (l : List Ln) (p : Ln) : allB wd (l ++ [p]) = (allB wd l && (lnB wd p).2) := by simp [allB]
def SmL (l : List Ln) : Prop := ∀ p ∈ l, (0 ≤ p.x.fin.ce ∧ p.x.fin.ce ≤ 100000) ∧ 0 ≤ p.c ∧ p.c ≤ 100000
theorem linesG_sm : ∀ (L : List St) (a b c : Int), SmN L → (0 ≤ c ∧ c ≤ 100000) → SmL (linesG a b c L)
  | [], _, _, _, _, _ => fun p hp => by simp [linesG] at hp
  | x :: L, a, b, c, h, hc => fun p hp => by
    rw [linesG, List.mem_cons] at hp
    rcases hp with rfl | hp
    · exact ⟨(h x (List.mem_cons_self ..)).1, hc⟩
    · exact linesG_sm L _ _ _ h.tail (h x (List.mem_cons_self ..)).2 p hp
theorem linesG_len : ∀ (L : List St) (a b c : Int), (linesG a b c L).length = L.length
  | [], _, _, _ => rfl
  | x :: L, _, _, _ => by rw [linesG, List.length_cons, linesG_len L, List.length_cons]
theorem sumB_bd (wd : Int) (hw : 0 ≤ wd ∧ wd ≤ 1000) : ∀ (l : List Ln), SmL l → 0 ≤ sumB wd l ∧ sumB wd l ≤ 100000000000 * (l.length : Int)
  | [], _ => by simp [sumB]
  | p :: l, h => by
    have h1 := sumB_bd wd hw l (fun q hq => h q (List.mem_cons_of_mem _ hq))
    have h2 := h p (List.mem_cons_self ..)
    have h3 := sbad_bd p.x.kind p.x.fin.ce p.c wd h2.1 h2.2 hw
    have e : sumB wd (p :: l) = (lnB wd p).1 + sumB wd l := by simp [sumB]
    rw [e, List.length_cons]
    unfold lnB
    omega
def wayB (wd : Int) (L : List St) : Int × Bool := if allB wd (linesG 0 0 0 L) = true then (sumB wd (linesG 0 0 0 L), true) else (0, false)

theorem boxO {W : World} {B C : Nat} {t : TypeId} {v u : Value} (h : Boxed W B t v) (hn : B ≠ C) : Boxed (W.setCell ⟨C, 0, none⟩ u) B t v := (Below.heap_setCell _ _ _ _ hn).trans h

set_option maxRecDepth 100000 in
set_option maxHeartbeats 1000000 in
theorem wbad_walk (L : List St) (G cap : Nat) (wd : Int) (hw : 0 ≤ wd ∧ wd ≤ 1000) (hl : L.length ≤ 5000) (hS : SmN L) (hc : L.length ≤ cap ∧ cap ≤ maxLen) (w : World) (hG : SRowO L G 0 w) :
    Calls Tryd.prog 29 #[.slice (some ⟨G, 0, none⟩) L.length cap, .int .i64 wd] w fun e w' => e = .returned (.tuple #[.int .i64 (wayB wd L).1, .bool (wayB wd L).2]) ∧ Below w.heap.size w w' := by
  refine (callsIn_wide (n := 9)).1 ?_
  refine callsIn_of_wp_marks Tryd.func29 rfl trivial ?_ rfl
  simp only [Tryd.ntmps29, List.size_toArray, List.length_cons, List.length_nil, Nat.reduceAdd, Nat.reduceSub, Array.replicate_succ, Array.replicate_zero, List.push_toArray, List.append_toArray, List.nil_append, List.cons_append]
  gi_wp2_with (refine ⟨trivial, ?_⟩; gi_at_call 34; refine (callsIn_wide.2 (lines_mk _ _ _ _)).mono ?_; rintro e w' ⟨rfl, rfl⟩)
  obtain ⟨V, hV⟩ : ∃ V, ((((w.alloc (.cells #[.int .i64 wd] 3)).alloc (.cells #[.int .i64 0] 2)).alloc (.cells #[.bool false] 4)).alloc (.cells #[.int .i64 0] 2)).alloc (.cells #[.slice (some ⟨G, 0, none⟩) L.length cap] 63) = V := ⟨_, rfl⟩
  have b0 : Boxed V w.heap.size 3 (.int .i64 wd) := by rw [← hV]; exact ((((Boxed.new w _ _).alloc _).alloc _).alloc _).alloc _
  have b1 : Boxed V (w.heap.size + 1) 2 (.int .i64 0) := by
    rw [← hV]
    have := Boxed.new (w.alloc (.cells #[.int .i64 wd] 3)) 2 (.int .i64 0)
    rw [World.size_alloc] at this
    exact ((this.alloc _).alloc _).alloc _
  have b2 : Boxed V (w.heap.size + 1 + 1) 4 (.bool false) := by
    rw [← hV]
    have := Boxed.new ((w.alloc (.cells #[.int .i64 wd] 3)).alloc (.cells #[.int .i64 0] 2)) 4 (.bool false)
    rw [World.size_alloc, World.size_alloc] at this
    exact (this.alloc _).alloc _
  have b3 : Boxed V (w.heap.size + 1 + 1 + 1) 2 (.int .i64 0) := by
    rw [← hV]
    have := Boxed.new (((w.alloc (.cells #[.int .i64 wd] 3)).alloc (.cells #[.int .i64 0] 2)).alloc (.cells #[.bool false] 4)) 2 (.int .i64 0)
    rw [World.size_alloc, World.size_alloc, World.size_alloc] at this
    exact this.alloc _
  have b4 : Boxed V (w.heap.size + 1 + 1 + 1 + 1) 63 (.slice (some ⟨G, 0, none⟩) L.length cap) := by
    rw [← hV]
    have := Boxed.new ((((w.alloc (.cells #[.int .i64 wd] 3)).alloc (.cells #[.int .i64 0] 2)).alloc (.cells #[.bool false] 4)).alloc (.cells #[.int .i64 0] 2)) 63 (.slice (some ⟨G, 0, none⟩) L.length cap)
    rw [World.size_alloc, World.size_alloc, World.size_alloc, World.size_alloc] at this
    exact this
  have hB : Below w.heap.size w V := by
    rw [← hV]
    exact bupW (bupW (bupW (bupW (bel1W w _) (bel1W _ _)) (bel1W _ _)) (bel1W _ _)) (bel1W _ _)
  have hz1 : w.heap.size + 5 ≤ V.heap.size := by rw [← hV]; simp
  have hz2 : V.heap.size ≤ w.heap.size + 5 := by rw [← hV]; simp
  have hVG := hG.keep hB hG.1
  have hGl := hG.1
  rw [hV]
  clear hV hG
  have hsm := linesG_sm L 0 0 0 hS ⟨by simp, by simp⟩
  have hln := linesG_len L 0 0 0
  refine rangeFunc_priv (α := Ln) (by omega) (gf := 57) (lb := #[.pointer (some ⟨w.heap.size + 1 + 1 + 1 + 1, 0, none⟩)]) rfl (enters_of Tryd.func57 (by kernel_rfl) rfl)
    (lines_seq (9 - 1) (w.heap.size + 1 + 1 + 1 + 1) G cap (by omega) L hc V b4 hVG) (fun _ => rfl)
    (fun k => k = w.heap.size + 1 ∨ k = w.heap.size + 1 + 1 ∨ k = w.heap.size + 1 + 1 + 1) (fun k e => by rcases e with e | e | e <;> subst e <;> exact ⟨by omega, by omega, by omega⟩)
    (fun pre W => Boxed W w.heap.size 3 (.int .i64 wd) ∧ Boxed W (w.heap.size + 1) 2 (.int .i64 0) ∧ Boxed W (w.heap.size + 1 + 1) 4 (.bool false) ∧ Boxed W (w.heap.size + 1 + 1 + 1) 2 (.int .i64 (sumB wd pre)) ∧ allB wd pre = true)
    (fun c pre W => c = .ret ∧ Boxed W (w.heap.size + 1) 2 (.int .i64 0) ∧ Boxed W (w.heap.size + 1 + 1) 4 (.bool false) ∧ allB wd pre = false)
    (fun pre A B h hk => by obtain ⟨h1, h2, h3, h4, h5⟩ := h; exact ⟨(hk.same _ h1.lt (.inl (by omega))).trans h1, (hk.same _ h2.lt (.inl (by omega))).trans h2, (hk.same _ h3.lt (.inl (by omega))).trans h3, (hk.same _ h4.lt (.inl (by omega))).trans h4, h5⟩)
    (fun c pre A B h hk => by obtain ⟨h1, h2, h3, h4⟩ := h; exact ⟨h1, (hk.same _ h2.lt (.inl (by omega))).trans h2, (hk.same _ h3.lt (.inl (by omega))).trans h3, h4⟩)
    ⟨b0, b1, b2, b3, rfl⟩ ?round ?done ?stop
  case round =>
    rintro l pre p W0 W K hl0 hlW hhi hlh hW0 hBW hip hpx hK
    have hWz := hBW.size
    have hW0z := hW0.size
    have hpl : pre.length + 1 ≤ L.length := by have := hpx.length_le; rw [hln] at this; simpa using this
    have hpm : p ∈ linesG 0 0 0 L := hpx.subset (by simp)
    have hps := hsm p hpm
    have hsb := sumB_bd wd hw pre (fun q hq => hsm q (hpx.subset (by simp [hq])))
    obtain ⟨pa, pb, pc, x⟩ := p
    simp only [Ln.enc, St.val]
    gi_wp2
    refine hK _ _ (bupW (bel1W W _) (bel1W _ _)) (fun W2 hbo hzz hB2 hi2 => ?_)
    have hWW : W.heap.size + 2 ≤ W2.heap.size := by rw [hzz]; simp
    have t0 : SpAt W2 W.heap.size pa pb pc := (hbo.same W.heap.size (by simp; omega) (by omega)).trans ((Below.heap_alloc _ _ _ (by simp)).trans (World.alloc_heap_new W _))
    have x0 : StAt W2 (W.heap.size + 1) x := by
      refine (hbo.same (W.heap.size + 1) (by simp) (by omega)).trans ?_
      have := World.alloc_heap_new (W.alloc (.cells #[.int .i64 pa, .int .i64 pb, .int .i64 pc] 79)) (.cells #[.int .i64 x.kind, .int .i64 x.fin.loc, .int .i64 x.fin.sg, .int .i64 x.fin.ce, .int .i64 x.nxt.loc, .int .i64 x.nxt.sg, .int .i64 x.nxt.ce] 81)
      rw [World.size_alloc] at this
      exact this
    obtain ⟨i0, i1, i2, i3, i4⟩ := hi2
    have ⟨a0, a1, a2⟩ := t0.cells
    have ⟨c0, c1, c2, c3, c4, c5, c6⟩ := x0.cells
    have k0 := i0.cell
    have hn1 := sumB_snoc wd pre ⟨pa, pb, pc, x⟩
    have hn2 := allB_snoc wd pre ⟨pa, pb, pc, x⟩
    rw [i4, Bool.true_and] at hn2
    have HBd := hideW (fun U => sbad_any x.kind x.fin x.nxt pa pb pc wd hps.1 hps.2 hw U)
    unfold stopV at HBd
    have hbb := sbad_bd x.kind x.fin.ce pc wd hps.1 hps.2 hw
    have e1 : (lnB wd ⟨pa, pb, pc, x⟩) = sbadI x.kind x.fin.ce pc wd := rfl
    rw [e1] at hn1 hn2
    obtain ⟨Ln1, hLn⟩ : ∃ Ln1, (sbadI x.kind x.fin.ce pc wd).1 = Ln1 := ⟨_, rfl⟩
    obtain ⟨ft, hft⟩ : ∃ ft, (sbadI x.kind x.fin.ce pc wd).2 = ft := ⟨_, rfl⟩
    rw [hLn, hft] at HBd
    rw [hLn] at hn1 hbb
    rw [hft] at hn2
    have HN := hideW (And.intro hn1 (And.intro hn2 i4))
    have HI := hideW (And.intro i0 (And.intro i1 (And.intro i2 (And.intro i3 hB2))))
    clear hn1 hn2 i0 i1 i2 i3 i4 hB2 hLn hft e1 hip hpx hpm hsm hbo hK t0 x0
    gi_wp2_with fail
    refine ⟨trivial, ?_⟩
    gi_at_call 50
    refine (callsIn_wide.2 (HBd.out _)).mono ?_
    rintro e w5 ⟨rfl, b5⟩
    obtain ⟨i0, i1, i2, i3, hB2⟩ := HI.out
    have g0 : Boxed w5 w.heap.size 3 (.int .i64 wd) := (b5.block _ i0.lt).trans i0
    have g1 : Boxed w5 (w.heap.size + 1) 2 (.int .i64 0) := (b5.block _ i1.lt).trans i1
    have g2 : Boxed w5 (w.heap.size + 1 + 1) 4 (.bool false) := (b5.block _ i2.lt).trans i2
    have g3 : Boxed w5 (w.heap.size + 1 + 1 + 1) 2 (.int .i64 (sumB wd pre)) := (b5.block _ i3.lt).trans i3
    have f1 := g1.cell
    have f2 := g2.cell
    have f3 := g3.cell
    have z1 := g1.frozen
    have z2 := g2.frozen
    have z3 := g3.frozen
    have HG := hideW (And.intro g0 (And.intro g1 (And.intro g2 (And.intro g3 b5))))
    clear i0 i1 i2 i3 hB2 g0 g1 g2 g3 b5 HI a0 a1 a2 c0 c1 c2 c3 c4 c5 c6 k0 HBd
    generalize sumB wd pre = sm at *
    have e2 : IntKind.i64.wrap (sm + Ln1) = sm + Ln1 := IntWalk.i64_in _ ⟨by omega, by omega⟩
    cases ft with
    | false =>
      gi_wp2
      obtain ⟨g0, g1, g2, g3, b5⟩ := HG.out
      obtain ⟨hn1, hn2, i4⟩ := HN.out
      refine ⟨?_, rfl, boxO (g1.set (.int .i64 0)) (by omega), (boxO g2 (by omega)).set (.bool false), hn2⟩
      exact ((But.grown b5).setCell (p := ⟨w.heap.size + 1, 0, none⟩) (.inl (.inl rfl)) _).setCell (p := ⟨w.heap.size + 1 + 1, 0, none⟩) (.inl (.inr (.inl rfl))) _
    | true =>
      gi_wp2
      obtain ⟨g0, g1, g2, g3, b5⟩ := HG.out
      obtain ⟨hn1, hn2, i4⟩ := HN.out
      refine ⟨?_, boxO g0 (by omega), boxO g1 (by omega), boxO g2 (by omega), ?_, hn2⟩
      · exact (But.grown b5).setCell (p := ⟨w.heap.size + 1 + 1 + 1, 0, none⟩) (.inl (.inr (.inr rfl))) _
      · rw [hn1]
        exact g3.set _
  case done =>
    rintro D W hD ⟨h0, h1, h2, h3, h4⟩ hBW hK
    have hWz := hBW.size
    have hwb : wayB wd L = (sumB wd (linesG 0 0 0 L), true) := by unfold wayB; rw [if_pos h4]
    have hBw : Below w.heap.size w W := hB.trans (hBW.below (by omega) (fun k e => by omega))
    have k1 := h1.cell
    have k2 := h2.cell
    have k3 := h3.cell
    have z1 := h1.frozen
    have z2 := h2.frozen
    have hDW : D < W.heap.size := (Array.getElem?_eq_some_iff.1 hK).1
    generalize sumB wd (linesG 0 0 0 L) = sm at *
    have e1 : Boxed (((W.setCell ⟨w.heap.size + 1, 0, none⟩ (.int .i64 sm)).setCell ⟨w.heap.size + 1 + 1, 0, none⟩ (.bool true))) (w.heap.size + 1) 2 (.int .i64 sm) := boxO (h1.set (.int .i64 sm)) (by omega)
    have e2 : Boxed (((W.setCell ⟨w.heap.size + 1, 0, none⟩ (.int .i64 sm)).setCell ⟨w.heap.size + 1 + 1, 0, none⟩ (.bool true))) (w.heap.size + 1 + 1) 4 (.bool true) := (boxO h2 (by omega)).set (.bool true)
    have e3 : ((W.setCell ⟨w.heap.size + 1, 0, none⟩ (.int .i64 sm)).setCell ⟨w.heap.size + 1 + 1, 0, none⟩ (.bool true)).heap[D]? = some (.deferred (some [])) := heap_set_other (by show w.heap.size + 1 + 1 ≠ D; omega) (heap_set_other (by show w.heap.size + 1 ≠ D; omega) hK)
    have e4 : Below w.heap.size w ((W.setCell ⟨w.heap.size + 1, 0, none⟩ (.int .i64 sm)).setCell ⟨w.heap.size + 1 + 1, 0, none⟩ (.bool true)) := (hBw.setCell (by simp) _).setCell (by simp; omega) _
    have HE := hideW (And.intro e1 (And.intro e2 (And.intro e3 (And.intro e4 hwb))))
    clear e1 e2 e3 e4 hwb hBw hK h0 h1 h2 h3 h4 hBW
    gi_wp2
    obtain ⟨e1, e2, e3, e4, hwb⟩ := HE.out
    generalize ((W.setCell ⟨w.heap.size + 1, 0, none⟩ (.int .i64 sm)).setCell ⟨w.heap.size + 1 + 1, 0, none⟩ (.bool true)) = X at *
    refine ⟨by simp, .inl ⟨_, _, rfl, run_takeDeferred e3, ?_⟩⟩
    have y1 := (World.cell?_of_block (World.putObj_heap_other (o := .deferred none) (show w.heap.size + 1 ≠ D by omega))).trans e1.cell
    have y2 := (World.cell?_of_block (World.putObj_heap_other (o := .deferred none) (show w.heap.size + 1 + 1 ≠ D by omega))).trans e2.cell
    rw [hwb]
    refine ⟨.tuple #[.int .i64 sm, .bool true], by simp [results, Tryd.f29, go_sem, y1, y2], rfl, e4.trans ((putObj_belowL _ _ _).mono (by omega))⟩
  case stop =>
    rintro D c pre W hD hpre ⟨rfl, h1, h2, h3⟩ hBW hK
    have hwb : wayB wd L = (0, false) := by
      unfold wayB
      rw [if_neg]
      intro h
      obtain ⟨r, hr⟩ := hpre
      rw [← hr] at h
      unfold allB at h h3
      rw [List.all_append, h3] at h
      simp at h
    have hBw : Below w.heap.size w W := hB.trans (hBW.below (by omega) (fun k e => by omega))
    gi_wp2
    refine ⟨by simp, .inl ⟨_, _, rfl, run_takeDeferred hK, ?_⟩⟩
    have y1 := (World.cell?_of_block (World.putObj_heap_other (o := .deferred none) (show w.heap.size + 1 ≠ D by omega))).trans h1.cell
    have y2 := (World.cell?_of_block (World.putObj_heap_other (o := .deferred none) (show w.heap.size + 1 + 1 ≠ D by omega))).trans h2.cell
    rw [hwb]
    refine ⟨.tuple #[.int .i64 0, .bool false], by simp [results, Tryd.f29, go_sem, y1, y2], rfl, hBw.trans ((putObj_belowL _ _ _).mono (by omega))⟩

end Go.Proofs.YteignefcijmmeaaDoor
