/- Package wrap: partsOf: a text's clusters, and behind them its end. -/
import Derived.Test.YteignefcijmmeaaDoorWrS
import Derived.Test.YteignefcijmmeaaDoorCellA
import Derived.Test.YteignefcijmmeaaDoorCellM3
import Derived.Test.YteignefcijmmeaaDoorWrR
import Derived.Maps.AppendAt
namespace Go.Proofs.YteignefcijmmeaaDoor
open Go.RowKit Go.Shelf
attribute [local go_sem] Oper.semAt_some

/-- Where a row of clusters ends: in bytes, signs, cells. -/
def endG : List Cl → Int × Int × Int → Int × Int × Int
  | [], e => e
  | x :: l, e => endG l (x.loc + x.len, x.to, e.2.2 + x.cells)
/-- The parts of these clusters, not classed yet. -/
def partsG : List Cl → Int × Int × Int → List Pt
  | [], _ => []
  | x :: l, e => ⟨e.1, e.2.1, e.2.2, 0, x.cells == 2⟩ :: partsG l (x.loc + x.len, x.to, e.2.2 + x.cells)
theorem endG_snoc : ∀ (l : List Cl) (x : Cl) (e : Int × Int × Int), endG (l ++ [x]) e = (x.loc + x.len, x.to, (endG l e).2.2 + x.cells)
  | [], _, _ => rfl
  | _ :: l, x, _ => endG_snoc l x _
theorem partsG_snoc : ∀ (l : List Cl) (x : Cl) (e : Int × Int × Int), partsG (l ++ [x]) e = partsG l e ++ [⟨(endG l e).1, (endG l e).2.1, (endG l e).2.2, 0, x.cells == 2⟩]
  | [], _, _ => rfl
  | _ :: l, x, _ => by
    show _ :: partsG (l ++ [x]) _ = _ :: partsG l _ ++ _
    rw [partsG_snoc l x]
    rfl
theorem partsG_len : ∀ (l : List Cl) (e : Int × Int × Int), (partsG l e).length = l.length
  | [], _ => rfl
  | _ :: l, _ => by
    show (partsG l _).length + 1 = l.length + 1
    rw [partsG_len l]
/-- Parts as the cells of a list. -/
def flatP (l : List Pt) : List Value := l.flatMap fun p => [.int .i64 p.loc, .int .i64 p.sg, .int .i64 p.ce, .int .i64 p.cl, .bool p.wd]
theorem flatP_snoc (l : List Pt) (p : Pt) : flatP (l ++ [p]) = flatP l ++ [.int .i64 p.loc, .int .i64 p.sg, .int .i64 p.ce, .int .i64 p.cl, .bool p.wd] := by simp [flatP]
def EndAt (W : World) (B : Nat) (e : Int × Int × Int) : Prop := W.heap[B]? = some (.cells #[.int .i64 e.1, .int .i64 e.2.1, .int .i64 e.2.2] 79 (0, 0))
theorem EndAt.row {W : World} {B : Nat} {e : Int × Int × Int} (h : EndAt W B e) : (W.cell? ⟨B, 0, none⟩ = some (.int .i64 e.1) ∧ W.cell? ⟨B, 1, none⟩ = some (.int .i64 e.2.1) ∧ W.cell? ⟨B, 2, none⟩ = some (.int .i64 e.2.2)) ∧ W.frozen? ⟨B, 0, none⟩ = false ∧ W.frozen? ⟨B, 1, none⟩ = false ∧ W.frozen? ⟨B, 2, none⟩ = false := by
  unfold EndAt at h
  simp [World.cell?, World.frozen?, h]
theorem endG_cells : ∀ (l : List Cl) (e : Int × Int × Int), (endG l e).2.2 = e.2.2 + cellsOf l
  | [], _ => by simp [endG, cellsOf]
  | x :: l, e => by
    show (endG l _).2.2 = _
    rw [endG_cells l]
    simp only [cellsOf, List.foldr_cons]
    omega
theorem row_apart {W : World} {b e n size : Nat} {v : Value} {xs : List Value} (h : W.ownsRow b e size v n xs) {B t : Nat} {cs : Array Value} {fr : Nat × Nat} (hB : W.heap[B]? = some (.cells cs t fr)) (ht : t ≠ e) : some B ≠ v.ownBlock := by
  rcases h.2 with ⟨rfl, _⟩ | ⟨g, cap, cur, rfl, _, hgg, _⟩
  · simp [Value.ownBlock]
  · intro e'
    have : B = g := by simpa [Value.ownBlock] using e'
    subst this
    rw [hgg] at hB
    injection hB with hB
    injection hB with _ h2
    exact ht h2.symm
theorem row_apart_def {W : World} {b e n size : Nat} {v : Value} {xs : List Value} (h : W.ownsRow b e size v n xs) {D : Nat} {o : Option (List Deferred)} (hD : W.heap[D]? = some (.deferred o)) : some D ≠ v.ownBlock := by
  rcases h.2 with ⟨rfl, _⟩ | ⟨g, cap, cur, rfl, _, hgg, _⟩
  · simp [Value.ownBlock]
  · intro e'
    have : D = g := by simpa [Value.ownBlock] using e'
    subst this
    rw [hgg] at hD
    cases hD
theorem infoPt : (Tryd.prog.info? 135).map (fun i => (i.zero, i.size, i.bytes)) = some (some (.agg #[.int .i64 0, .int .i64 0, .int .i64 0, .int .i64 0, .bool false]), 5, 40) := by kernel_rfl

theorem flatP_at : ∀ (Q : List Pt) (i : Nat) (p : Pt), Q[i]? = some p → (flatP Q)[i * 5]? = some (.int .i64 p.loc) ∧ (flatP Q)[i * 5 + 1]? = some (.int .i64 p.sg) ∧ (flatP Q)[i * 5 + 2]? = some (.int .i64 p.ce) ∧ (flatP Q)[i * 5 + 3]? = some (.int .i64 p.cl) ∧ (flatP Q)[i * 5 + 4]? = some (.bool p.wd)
  | [], _, _, h => by simp at h
  | q :: l, 0, p, h => by
    obtain rfl : q = p := by simpa using h
    exact ⟨rfl, rfl, rfl, rfl, rfl⟩
  | q :: l, i + 1, p, h => by
    have h' : l[i]? = some p := by simpa using h
    have e : ∀ j, (flatP (q :: l))[j + 5]? = (flatP l)[j]? := fun j => by
      show ((.int .i64 q.loc :: .int .i64 q.sg :: .int .i64 q.ce :: .int .i64 q.cl :: .bool q.wd :: flatP l : List Value))[j + 5]? = _
      simp
    obtain ⟨a0, a1, a2, a3, a4⟩ := flatP_at l i p h'
    have f : (i + 1) * 5 = i * 5 + 5 := by omega
    rw [f]
    exact ⟨(e (i * 5)).trans a0, (e (i * 5 + 1)).trans a1, (e (i * 5 + 2)).trans a2, (e (i * 5 + 3)).trans a3, (e (i * 5 + 4)).trans a4⟩
theorem RowC.of_owns {W : World} {base g n cap : Nat} {Q : List Pt} (h : W.ownsRow base 135 5 (.slice (some ⟨g, 0, none⟩) n cap) n (flatP Q)) : RowC W g Q ∧ base ≤ g ∧ n ≤ cap ∧ cap ≤ maxLen := by
  rcases h.2 with ⟨e, _⟩ | ⟨g2, cap2, cur, e, hb, hg, hcn, hcm, _, h4⟩
  · simp at e
  · obtain ⟨rfl, rfl⟩ : g = g2 ∧ cap = cap2 := by simpa using e
    refine ⟨⟨cur, hg, fun i p hp => ?_⟩, hb, hcn, hcm⟩
    have hk : ∀ (j : Nat) (v : Value), (flatP Q)[j]? = some v → cur[j]? = some v := fun j v hj => by
      rw [← h4, List.getElem?_take] at hj
      split at hj
      · simpa using hj
      · cases hj
    obtain ⟨a0, a1, a2, a3, a4⟩ := flatP_at Q i p hp
    exact ⟨hk _ _ a0, hk _ _ a1, hk _ _ a2, hk _ _ a3, hk _ _ a4⟩
theorem RowC.prow {W : World} {G : Nat} {Q : List Pt} (h : RowC W G Q) : PRow Q ⟨G, 0, none⟩ W := by
  refine ⟨h.lt, fun i p hp => ?_⟩
  obtain ⟨cur, h1, h2⟩ := h
  obtain ⟨c0, c1, c2, c3, c4⟩ := h2 i p hp
  simp only [addG]
  simp [World.cell?, h1, c0, c1, c2, c3, c4]
theorem clsL_len (s : ByteArray) (C : List Cl) (Q : List Pt) : ∀ n, (clsL s C Q n).length = Q.length
  | 0 => rfl
  | n + 1 => by
    show ((clsL s C Q n).modify n _).length = _
    rw [List.length_modify, clsL_len s C Q n]
theorem partsG_at : ∀ (l : List Cl) (e : Int × Int × Int) (n : Nat), n < l.length → ∃ p : Pt, (partsG l e)[n]? = some p ∧ p.loc = (endG (l.take n) e).1
  | [], _, _, h => by simp at h
  | x :: l, e, 0, _ => ⟨_, rfl, rfl⟩
  | x :: l, e, n + 1, h => by
    obtain ⟨p, h1, h2⟩ := partsG_at l (x.loc + x.len, x.to, e.2.2 + x.cells) n (by simpa using h)
    exact ⟨p, by show (_ :: partsG l _)[n + 1]? = _; simpa using h1, h2⟩
theorem endG_loc {s : ByteArray} {pre r : List Cl} (h : pre ++ r = clusters s) : (endG pre (0, 0, 0)).1 = lensOf pre := by
  rcases List.eq_nil_or_concat pre with rfl | ⟨l, x, rfl⟩
  · rfl
  · rw [List.concat_eq_append] at *
    have := (chain_at (pre := l) (c := x) (r := r) (by simpa using h)).1
    rw [endG_snoc, lensOf_snoc]
    show x.loc + x.len = _
    omega
/-- The parts of a text, its end behind them, not classed yet. -/
def partsR (s : ByteArray) : List Pt := partsG (clusters s) (0, 0, 0) ++ [⟨(endG (clusters s) (0, 0, 0)).1, (endG (clusters s) (0, 0, 0)).2.1, (endG (clusters s) (0, 0, 0)).2.2, 6, false⟩]
theorem partsQ (s : ByteArray) : (partsR s).length = (clusters s).length + 1 ∧ (∀ (n : Nat) (c : Cl), (clusters s)[n]? = some c → ∃ p : Pt, (partsR s)[n]? = some p ∧ p.loc = c.loc) ∧ ∃ p : Pt, (partsR s)[(clusters s).length]? = some p ∧ p.loc = s.size := by
  refine ⟨by simp [partsR, partsG_len], fun n c hc => ?_, ?_⟩
  · have hn : n < (clusters s).length := (List.getElem?_eq_some_iff.1 hc).1
    obtain ⟨p, h1, h2⟩ := partsG_at (clusters s) (0, 0, 0) n hn
    refine ⟨p, ?_, ?_⟩
    · unfold partsR
      rw [List.getElem?_append_left (by rw [partsG_len]; exact hn)]
      exact h1
    · have hd : (clusters s).take n ++ c :: (clusters s).drop (n + 1) = clusters s := by
        have h3 : (clusters s).drop n = c :: (clusters s).drop (n + 1) := by
          rw [List.drop_eq_getElem_cons hn]
          rw [List.getElem?_eq_getElem hn] at hc
          rw [Option.some.inj hc]
        rw [← h3, List.take_append_drop]
      rw [h2, endG_loc hd]
      exact (chain_at hd).1.symm
  · refine ⟨⟨(endG (clusters s) (0, 0, 0)).1, (endG (clusters s) (0, 0, 0)).2.1, (endG (clusters s) (0, 0, 0)).2.2, 6, false⟩, ?_, ?_⟩
    · unfold partsR
      rw [List.getElem?_append_right (by rw [partsG_len]; exact Nat.le_refl _), partsG_len, Nat.sub_self]
      rfl
    · show (endG (clusters s) (0, 0, 0)).1 = _
      rw [endG_loc (List.append_nil _)]
      exact (clusters_chain s).2.1

set_option maxRecDepth 100000 in
set_option maxHeartbeats 4000000 in
theorem parts_walk (s : ByteArray) (hs : s.size ≤ 1048576) (N : Nat) (w : World) (hT : Tabs N w) :
    Calls Tryd.prog 47 #[.string s] w fun e w' => ∃ G cap, e = .returned (.slice (some ⟨G, 0, none⟩) ((clusters s).length + 1) cap) ∧ RowC w' G (clsL s (clusters s) (partsR s) (clusters s).length) ∧ w.heap.size ≤ G ∧ ((clusters s).length + 1 ≤ cap ∧ cap ≤ maxLen) ∧ Below w.heap.size w w' := by
  obtain ⟨i0, hi, hz0, hz1, hz2⟩ := info_partsC infoPt
  have hsq := seq_some
  refine (callsIn_wide (n := 9)).1 ?_
  refine callsIn_of_wp_marks Tryd.func47 rfl trivial ?_ rfl
  simp only [Tryd.ntmps47, List.size_toArray, List.length_cons, List.length_nil, Nat.reduceAdd, Nat.reduceSub, Array.replicate_succ, Array.replicate_zero, List.push_toArray, List.append_toArray, List.nil_append, List.cons_append]
  gi_wp2_with (refine ⟨trivial, ?_⟩; gi_at_call 40; refine (callsIn_wide.2 (clusters_mk _ _)).mono ?_; rintro e w' ⟨rfl, rfl⟩)
  obtain ⟨V, hV⟩ : ∃ V, ((w.alloc (.cells #[.slice none 0 0] 105)).alloc (.cells #[.int .i64 0, .int .i64 0, .int .i64 0] 79)).alloc (.cells #[.string s] 9) = V := ⟨_, rfl⟩
  have b0 : Boxed V w.heap.size 105 (.slice none 0 0) := by rw [← hV]; exact ((Boxed.new w _ _).alloc _).alloc _
  have b1 : EndAt V (w.heap.size + 1) (0, 0, 0) := by
    rw [← hV]
    have := World.alloc_heap_new (w.alloc (.cells #[.slice none 0 0] 105)) (.cells #[.int .i64 0, .int .i64 0, .int .i64 0] 79)
    rw [World.size_alloc] at this
    exact (Below.heap_alloc _ _ _ (by simp)).trans this
  have b2 : Boxed V (w.heap.size + 1 + 1) 9 (.string s) := by
    rw [← hV]
    have := Boxed.new ((w.alloc (.cells #[.slice none 0 0] 105)).alloc (.cells #[.int .i64 0, .int .i64 0, .int .i64 0] 79)) 9 (.string s)
    rw [World.size_alloc, World.size_alloc] at this
    exact this
  have hB : Below w.heap.size w V := by
    rw [← hV]
    exact (((Below.refl _ w).alloc (Nat.le_refl _) _).alloc (by simp) _).alloc (by simp; omega) _
  have hz1' : w.heap.size + 3 ≤ V.heap.size := by rw [← hV]; simp
  have hz2' : V.heap.size ≤ w.heap.size + 3 := by rw [← hV]; simp
  rw [hV]
  clear hV hsq
  have hN := hT.room
  have hcl := clusters_length s
  refine rangeFunc_box (α := Cl) (by omega) (gf := 63) (lb := #[.pointer (some ⟨w.heap.size + 1 + 1, 0, none⟩)]) rfl (enters_of Tryd.func63 (by kernel_rfl) rfl)
    (clus_seq (9 - 1) (w.heap.size + 1 + 1) N (by omega) s (by omega) V (by omega) b2.cell (hT.below hB)) (fun _ => rfl)
    (fun k => k = w.heap.size ∨ k = w.heap.size + 1) (fun k e => by rcases e with e | e <;> subst e <;> exact ⟨by omega, by omega, by omega⟩)
    (fun pre W => ∃ v, Boxed W w.heap.size 105 v ∧ EndAt W (w.heap.size + 1) (endG pre (0, 0, 0)) ∧ W.ownsRow (V.heap.size + 2 + 2) 135 5 v pre.length (flatP (partsG pre (0, 0, 0)))) (fun _ _ _ => False)
    (fun pre A B h hk => by obtain ⟨v, h1, h2, h3⟩ := h; exact ⟨v, (hk.same _ h1.lt (.inl (by omega))).trans h1, (hk.same _ (Array.getElem?_eq_some_iff.1 h2).1 (.inl (by omega))).trans h2, ownsRow_keeps h3 hk⟩) (fun _ _ _ _ h _ => h) ⟨_, b0, b1, World.ownsRow_nil _ _ _ _⟩ ?round ?done ?stop
  case round =>
    rintro l pre x W K hl hlW hhi hlh hBW hip hpx hK
    have hWz := hBW.size
    have hpl : pre.length + 1 ≤ (clusters s).length := by have := hpx.length_le; simpa using this
    simp only [Cl.val]
    gi_wp2
    refine hK _ _ ((Below.refl _ W).alloc (Nat.le_refl _) _) (fun W2 hbo hzz hB2 hi2 => ?_)
    have hWW : W.heap.size ≤ W2.heap.size := by rw [hzz]; simp
    clear hzz
    have hx : ClAt W2 W.heap.size x := (hbo.same W.heap.size (by simp) (by omega)).trans (World.alloc_heap_new W _)
    obtain ⟨v, c0, hE, hrow⟩ := hi2
    obtain ⟨kc, xc0, xc1⟩ := front_bd hpx
    obtain ⟨r, hr⟩ := hpx
    have hat := chain_at (pre := pre) (c := x) (r := r) (by simpa using hr)
    have hle := lens_le (pre := pre ++ [x]) (r := r) hr
    rw [lensOf_snoc] at hle
    have ld : 0 ≤ x.loc + x.len ∧ x.loc + x.len ≤ 1048576 := by omega
    have ce := endG_cells pre (0, 0, 0)
    have HS := hideW (And.intro (endG_snoc pre x (0, 0, 0)) (partsG_snoc pre x (0, 0, 0)))
    generalize endG pre (0, 0, 0) = E at *
    have eb : 0 ≤ E.2.2 + x.cells ∧ E.2.2 + x.cells ≤ 3000000 := by simp only at ce; omega
    have hap := row_apart hrow hx (by decide)
    have hxl := hx.lt
    obtain ⟨x0, x1, x2, x3, x4⟩ := hx.row
    obtain ⟨⟨e0, e1, e2⟩, g0, g1, g2⟩ := hE.row
    have k0 := c0.cell
    clear hT hbo hr hat hle ce kc
    have w1 : IntKind.i64.wrap (x.loc + x.len) = x.loc + x.len := IntWalk.i64_in _ ⟨by omega, by omega⟩
    have w2 : IntKind.i64.wrap (E.2.2 + x.cells) = E.2.2 + x.cells := IntWalk.i64_in _ ⟨by omega, by omega⟩
    gi_wp2_with (gi_at_builtin; refine wpListIn_append_own _ rfl _ _ 105 rfl (V.heap.size + 2 + 2) 135 i0 (.agg #[.int .i64 0, .int .i64 0, .int .i64 0, .int .i64 0, .bool false]) 5 40 Tryd.underlying105 hi hz0 hz1 hz2 rfl (by decide) _ _ _ rfl (hrow.alloc _) ⟨W2.heap.size, 0, none⟩ 1 1 [.int .i64 E.1, .int .i64 E.2.1, .int .i64 E.2.2, .int .i64 0, .bool (x.cells == 2)] rfl rfl (cell_five_new _ _ _ _ _ _ _) (fun u hu => by simp at hu; rcases hu with rfl | rfl | rfl | rfl | rfl <;> rfl) (by unfold maxLen; omega) (by omega) (by simp; omega) ?_; intro v' w3 hown' hgrow _; obtain ⟨g', cap', rfl⟩ := ownsRow_succ hown'; have c3 : Boxed w3 w.heap.size 105 v := (c0.alloc _).kept hgrow (fun e => by have := (hrow.lt _ e.symm).1; omega); have E3 : EndAt w3 (w.heap.size + 1) E := (hgrow.block _ (by simp; omega) (fun e => by have := (hrow.lt _ e.symm).1; omega)).trans ((Below.heap_alloc _ _ _ (by omega)).trans hE); have X3 : ClAt w3 W.heap.size x := (hgrow.block _ (by simp; omega) hap).trans ((Below.heap_alloc _ _ _ (by omega)).trans hx); clear k0 x0 x1 x2 x3 x4 e0 e1 e2 g0 g1 g2; obtain ⟨x0, x1, x2, x3, x4⟩ := X3.row; obtain ⟨⟨e0, e1, e2⟩, g0, g1, g2⟩ := E3.row; have k0 := c3.cell; have k2 := c3.frozen)
    obtain ⟨hs1, hs2⟩ := HS.out
    have bS := ((((But.refl (fun k => k = w.heap.size ∨ k = w.heap.size + 1) w3).setCell (p := ⟨w.heap.size, 0, none⟩) (.inl rfl) (.slice (some ⟨g', 0, none⟩) (pre.length + 1) cap')).setCell (p := ⟨w.heap.size + 1, 0, none⟩) (.inr rfl) (.int .i64 (x.loc + x.len))).setCell (p := ⟨w.heap.size + 1, 1, none⟩) (.inr rfl) (.int .i64 x.to)).setCell (p := ⟨w.heap.size + 1, 2, none⟩) (.inr rfl) (.int .i64 (E.2.2 + x.cells))
    refine ⟨((But.refl _ W2).alloc _).trans ((but_grown hgrow (fun k e => .inr (hrow.lt k e).1)).trans (bS.mono (fun k _ e => .inl e))), .slice (some ⟨g', 0, none⟩) (pre.length + 1) cap', ?_, ?_, ?_⟩
    · have h0 := c3.set (.slice (some ⟨g', 0, none⟩) (pre.length + 1) cap')
      have no : ∀ (U : World) (i : Nat) (u : Value), (U.setCell ⟨w.heap.size + 1, i, none⟩ u).heap[w.heap.size]? = U.heap[w.heap.size]? := fun U i u => Below.heap_setCell _ _ _ _ (by show w.heap.size ≠ w.heap.size + 1; omega)
      exact (no _ _ _).trans ((no _ _ _).trans ((no _ _ _).trans h0))
    · have h0 : (w3.setCell ⟨w.heap.size, 0, none⟩ (.slice (some ⟨g', 0, none⟩) (pre.length + 1) cap')).heap[w.heap.size + 1]? = _ := (Below.heap_setCell _ _ _ _ (by show w.heap.size + 1 ≠ w.heap.size; omega)).trans E3
      have h1 : ((w3.setCell ⟨w.heap.size, 0, none⟩ (.slice (some ⟨g', 0, none⟩) (pre.length + 1) cap')).setCell ⟨w.heap.size + 1, 0, none⟩ (.int .i64 (x.loc + x.len))).heap[w.heap.size + 1]? = _ := heap_setCell_same _ _ _ _ _ _ h0
      have h2 : (((w3.setCell ⟨w.heap.size, 0, none⟩ (.slice (some ⟨g', 0, none⟩) (pre.length + 1) cap')).setCell ⟨w.heap.size + 1, 0, none⟩ (.int .i64 (x.loc + x.len))).setCell ⟨w.heap.size + 1, 1, none⟩ (.int .i64 x.to)).heap[w.heap.size + 1]? = _ := heap_setCell_same _ _ _ _ _ _ h1
      have h3 : ((((w3.setCell ⟨w.heap.size, 0, none⟩ (.slice (some ⟨g', 0, none⟩) (pre.length + 1) cap')).setCell ⟨w.heap.size + 1, 0, none⟩ (.int .i64 (x.loc + x.len))).setCell ⟨w.heap.size + 1, 1, none⟩ (.int .i64 x.to)).setCell ⟨w.heap.size + 1, 2, none⟩ (.int .i64 (E.2.2 + x.cells))).heap[w.heap.size + 1]? = _ := heap_setCell_same _ _ _ _ _ _ h2
      rw [hs1]
      exact h3
    · rw [List.length_append, hs2, flatP_snoc]
      exact ownsRow_keeps hown' (Keeps.of_but (m := w.heap.size) bS (fun k e => by omega))
  case done =>
    rintro D W hD ⟨v, hv, hE, hrow0⟩ hBW hK
    have hWz := hBW.size
    have hrow : W.ownsRow V.heap.size 135 5 v (clusters s).length (flatP (partsG (clusters s) (0, 0, 0))) := ownsRow_from hrow0 (by omega)
    have k0 := hv.cell
    obtain ⟨⟨e0, e1, e2⟩, g0, g1, g2⟩ := hE.row
    have HE := hideW hE
    clear hE hrow0
    have hPR : partsR s = partsG (clusters s) (0, 0, 0) ++ [⟨(endG (clusters s) (0, 0, 0)).1, (endG (clusters s) (0, 0, 0)).2.1, (endG (clusters s) (0, 0, 0)).2.2, 6, false⟩] := rfl
    generalize endG (clusters s) (0, 0, 0) = E at *
    generalize hQ : partsG (clusters s) (0, 0, 0) = P at *
    have HK := hideW hK
    clear hT hK
    gi_wp2_with (gi_at_builtin; refine wpListIn_append_own _ rfl _ _ 105 rfl V.heap.size 135 i0 (.agg #[.int .i64 0, .int .i64 0, .int .i64 0, .int .i64 0, .bool false]) 5 40 Tryd.underlying105 hi hz0 hz1 hz2 rfl (by decide) _ _ _ rfl (hrow.alloc _) ⟨W.heap.size, 0, none⟩ 1 1 [.int .i64 E.1, .int .i64 E.2.1, .int .i64 E.2.2, .int .i64 6, .bool false] rfl rfl (cell_five_new _ _ _ _ _ _ _) (fun u hu => by simp at hu; rcases hu with rfl | rfl | rfl | rfl | rfl <;> rfl) (by unfold maxLen; omega) (by omega) (by simp; omega) ?_; intro v' w3 hown' hgrow _; obtain ⟨g', cap', rfl⟩ := ownsRow_succ hown'; have c3 : Boxed w3 w.heap.size 105 v := (hv.alloc _).kept hgrow (fun e => by have := (hrow.lt _ e.symm).1; omega); clear k0 e0 e1 e2 g0 g1 g2; have k0 := c3.cell; have k2 := c3.frozen)
    rw [← flatP_snoc P ⟨E.1, E.2.1, E.2.2, 6, false⟩, ← hPR] at hown'
    obtain ⟨r3, hg3, hcn, hcm⟩ := RowC.of_owns hown'
    obtain ⟨q1, q2, q3⟩ := partsQ s
    have hDW : D < W.heap.size := (Array.getElem?_eq_some_iff.1 HK.out).1
    have d3 : w3.heap[D]? = some (.deferred (some [])) := (hgrow.block _ (by simp; omega) (row_apart_def hrow HK.out)).trans ((Below.heap_alloc _ _ _ hDW).trans HK.out)
    have hDg : D ≠ g' := by
      rintro rfl
      obtain ⟨cur, h1, _⟩ := r3
      rw [h1] at d3
      cases d3
    have c4 := c3.set (.slice (some ⟨g', 0, none⟩) ((clusters s).length + 1) cap')
    have d4 : (w3.setCell ⟨w.heap.size, 0, none⟩ (.slice (some ⟨g', 0, none⟩) ((clusters s).length + 1) cap')).heap[D]? = _ := heap_set_other (by show w.heap.size ≠ D; omega) d3
    have r4 : RowC (w3.setCell ⟨w.heap.size, 0, none⟩ (.slice (some ⟨g', 0, none⟩) ((clusters s).length + 1) cap')) g' (partsR s) := r3.same (heap_set_other (by show w.heap.size ≠ g'; omega) rfl)
    have B4 : But (fun k => w.heap.size ≤ k) W (w3.setCell ⟨w.heap.size, 0, none⟩ (.slice (some ⟨g', 0, none⟩) ((clusters s).length + 1) cap')) := ((But.refl _ W).alloc _).trans ((but_grown hgrow (fun k e => by have := (hrow.lt k e).1; show w.heap.size ≤ k; omega)).trans ((But.refl _ w3).setCell (p := ⟨w.heap.size, 0, none⟩) (Nat.le_refl _) _))
    generalize w3.setCell ⟨w.heap.size, 0, none⟩ (.slice (some ⟨g', 0, none⟩) ((clusters s).length + 1) cap') = w4 at *
    refine ⟨trivial, ?_⟩
    have hcw := classify_walk s hs g' cap' (partsR s) (clusters s) rfl q1 q2 q3 w4 r4
    rw [q1] at hcw
    refine (callsIn_wide.2 hcw).mono ?_
    rintro e w5 ⟨rfl, r5, B5⟩
    have c5 : Boxed w5 w.heap.size 105 (.slice (some ⟨g', 0, none⟩) ((clusters s).length + 1) cap') := (B5.same _ c4.lt (by show w.heap.size ≠ g'; omega)).trans c4
    have d5 : w5.heap[D]? = some (.deferred (some [])) := (B5.same _ (Array.getElem?_eq_some_iff.1 d4).1 hDg).trans d4
    have B6 : But (fun k => w.heap.size ≤ k) W w5 := B4.trans (B5.mono (fun k _ e => by show w.heap.size ≤ k; omega))
    have HF := hideW (And.intro r5 (And.intro B6 d5))
    clear r5 B5 B6 d5 d4 d3 r4 r3 B4 k0 k2 hown' hgrow c3 c4
    have k0 := c5.cell
    gi_wp2
    obtain ⟨r5, B6, d5⟩ := HF.out
    refine ⟨by simp, .inl ⟨_, _, rfl, run_takeDeferred d5, ?_⟩⟩
    refine ⟨.slice (some ⟨g', 0, none⟩) ((clusters s).length + 1) cap', by simp [results, Tryd.f47, go_sem], g', cap', rfl, r5.same (World.putObj_heap_other (by omega)), by omega, ⟨hcn, hcm⟩, ?_⟩
    exact ((hB.trans (hBW.below (by omega) (fun k e => by omega))).trans (B6.below (by omega) (fun k e => e))).trans ((putObj_belowL _ _ _).mono (by omega))
  case stop => rintro D c pre W hD hpre h; exact h.elim
/-- A text's parts, its end behind them. -/
def partsL (s : ByteArray) : List Pt := clsL s (clusters s) (partsR s) (clusters s).length
theorem partsL_len (s : ByteArray) : (partsL s).length = (clusters s).length + 1 := (clsL_len _ _ _ _).trans (partsQ s).1
theorem parts_any (s : ByteArray) (hs : s.size ≤ 1048576) (N : Nat) (w : World) (hT : Tabs N w) :
    Calls Tryd.prog 47 #[.string s] w fun e w' => ∃ G cap, e = .returned (.slice (some ⟨G, 0, none⟩) (partsL s).length cap) ∧ PRow (partsL s) ⟨G, 0, none⟩ w' ∧ w.heap.size ≤ G ∧ ((partsL s).length ≤ cap ∧ cap ≤ maxLen) ∧ Below w.heap.size w w' := by
  rw [partsL_len]
  refine (parts_walk s hs N w hT).mono ?_
  rintro e w' ⟨G, cap, rfl, h1, h2, h3, h4⟩
  exact ⟨G, cap, rfl, h1.prow, h2, h3, h4⟩
end Go.Proofs.YteignefcijmmeaaDoor
