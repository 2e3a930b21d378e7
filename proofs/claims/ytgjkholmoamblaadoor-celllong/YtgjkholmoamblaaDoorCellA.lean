/- The contract of the statements' own all: the clusters that cell.Clusters goes over, as a list. -/
import Derived.Test.YtgjkholmoamblaaDoorCellK
import Derived.Maps.AppendAt
namespace Go.Proofs.YtgjkholmoamblaaDoor
open Go.RowKit Go.Shelf
attribute [local go_sem] Oper.semAt_some

/-- Clusters as the cells of a list. -/
def flatC (l : List Cl) : List Value := l.flatMap fun x => [.int .i64 x.loc, .int .i64 x.len, .int .i64 x.fr, .int .i64 x.to, .int .i64 x.cells]
theorem flatC_snoc (l : List Cl) (x : Cl) : flatC (l ++ [x]) = flatC l ++ [.int .i64 x.loc, .int .i64 x.len, .int .i64 x.fr, .int .i64 x.to, .int .i64 x.cells] := by simp [flatC]
theorem infoCl : (Tryd.prog.info? 34).map (fun i => (i.zero, i.size, i.bytes)) = some (some (.agg #[.int .i64 0, .int .i64 0, .int .i64 0, .int .i64 0, .int .i64 0]), 5, 40) := by kernel_rfl
theorem info_partsC {P : Program} {t : TypeId} {z : Option Value} {a b : Nat} (h : (P.info? t).map (fun i => (i.zero, i.size, i.bytes)) = some (z, a, b)) : ∃ i, P.info? t = some i ∧ i.zero = z ∧ i.size = a ∧ i.bytes = b := by
  obtain ⟨i, hi, e⟩ := Option.map_eq_some_iff.1 h
  simp only [Prod.mk.injEq] at e
  exact ⟨i, hi, e.1, e.2.1, e.2.2⟩
theorem cell_five_new (w : World) (a b c d f : Value) (t : TypeId) : ∀ j u, [a, b, c, d, f][j]? = some u → (w.alloc (.cells #[a, b, c, d, f] t)).cell? ((⟨w.heap.size, 0, none⟩ : Addr).add j) = some u := by
  intro j u hj
  match j, hj with
  | 0, hj => simp at hj; subst hj; simp [Addr.add]
  | 1, hj => simp at hj; subst hj; simp [Addr.add]
  | 2, hj => simp at hj; subst hj; simp [Addr.add]
  | 3, hj => simp at hj; subst hj; simp [Addr.add]
  | 4, hj => simp at hj; subst hj; simp [Addr.add]
  | j + 5, hj => simp at hj
theorem ownsRow_keeps {A B : World} {m hi : Nat} {e : TypeId} {size : Nat} {v : Value} {n : Nat} {xs : List Value} (h : A.ownsRow hi e size v n xs) (hk : Keeps m hi A B) : B.ownsRow hi e size v n xs := by
  refine ⟨h.1, ?_⟩
  rcases h.2 with hn | ⟨g, cap, cur, rfl, hb, hgg, rest⟩
  · exact .inl hn
  · exact .inr ⟨g, cap, cur, rfl, hb, (hk.same g (Array.getElem?_eq_some_iff.1 hgg).1 (.inr hb)).trans hgg, rest⟩
theorem ownsRow_from {A : World} {m hi : Nat} {e : TypeId} {size : Nat} {v : Value} {n : Nat} {xs : List Value} (h : A.ownsRow hi e size v n xs) (hm : m ≤ hi) : A.ownsRow m e size v n xs := by
  refine ⟨h.1, ?_⟩
  rcases h.2 with hn | ⟨g, cap, cur, rfl, hb, rest⟩
  · exact .inl hn
  · exact .inr ⟨g, cap, cur, rfl, by omega, rest⟩
theorem ownsRow_putObjC {A : World} {hi D : Nat} {e : TypeId} {size : Nat} {v : Value} {n : Nat} {xs : List Value} {o : Option (List Deferred)} {o' : Obj} (h : A.ownsRow hi e size v n xs) (hD : A.heap[D]? = some (.deferred o)) : (A.putObj D o').ownsRow hi e size v n xs := by
  refine ⟨h.1, ?_⟩
  rcases h.2 with hn | ⟨g, cap, cur, rfl, hb, hgg, rest⟩
  · exact .inl hn
  · refine .inr ⟨g, cap, cur, rfl, hb, (World.putObj_heap_other (fun e => ?_)).trans hgg, rest⟩
    subst e
    rw [hgg] at hD
    cases hD
theorem but_grown {M : Nat → Prop} {A B : World} {row : Option Nat} (h : A.grownBy B row) (hr : ∀ k, row = some k → M k) : But M A B := ⟨h.os, h.tape, h.output, h.size, fun k hk hm => h.block k hk (fun e => hm (hr k e.symm))⟩

set_option maxRecDepth 100000 in
set_option maxHeartbeats 4000000 in
theorem allC_any (s : ByteArray) (hs : s.size ≤ 1048576) (most : Int) (hm : (clusters s).length ≤ most) (N : Nat) (w : World) (hT : Tabs N w) :
    Calls Tryd.prog 13 #[.string s, .int .i64 most] w fun e w' => ∃ v, e = .returned (.tuple #[v, .bool true]) ∧ w'.ownsRow w.heap.size 34 5 v (clusters s).length (flatC (clusters s)) ∧ Below w.heap.size w w' := by
  obtain ⟨i0, hi, hz0, hz1, hz2⟩ := info_partsC infoCl
  have hsq := seq_some
  refine (callsIn_wide (n := 9)).1 ?_
  refine callsIn_of_wp_marks Tryd.func13 rfl trivial ?_ rfl
  simp only [Tryd.ntmps13, List.size_toArray, List.length_cons, List.length_nil, Nat.reduceAdd, Nat.reduceSub, Array.replicate_succ, Array.replicate_zero, List.push_toArray, List.append_toArray, List.nil_append, List.cons_append]
  gi_wp2_with (refine ⟨trivial, ?_⟩; gi_at_call 23; refine (callsIn_wide.2 (clusters_mk _ _)).mono ?_; rintro e w' ⟨rfl, rfl⟩)
  obtain ⟨V, hV⟩ : ∃ V, ((w.alloc (.cells #[.int .i64 most] 3)).alloc (.cells #[.string s] 9)).alloc (.cells #[.slice none 0 0] 29) = V := ⟨_, rfl⟩
  have b0 : Boxed V w.heap.size 3 (.int .i64 most) := by rw [← hV]; exact ((Boxed.new w 3 _).alloc _).alloc _
  have b1 : Boxed V (w.heap.size + 1) 9 (.string s) := by
    rw [← hV]
    have := Boxed.new (w.alloc (.cells #[.int .i64 most] 3)) 9 (.string s)
    rw [World.size_alloc] at this
    exact this.alloc _
  have b2 : Boxed V (w.heap.size + 1 + 1) 29 (.slice none 0 0) := by
    rw [← hV]
    have := Boxed.new ((w.alloc (.cells #[.int .i64 most] 3)).alloc (.cells #[.string s] 9)) 29 (.slice none 0 0)
    rw [World.size_alloc, World.size_alloc] at this
    exact this
  have hB : Below w.heap.size w V := by
    rw [← hV]
    exact (((Below.refl _ w).alloc (Nat.le_refl _) _).alloc (by simp) _).alloc (by simp; omega) _
  have hz1' : w.heap.size + 3 ≤ V.heap.size := by rw [← hV]; simp
  have hz2' : V.heap.size ≤ w.heap.size + 3 := by rw [← hV]; simp
  rw [hV]
  clear hV hsq
  have hN := hT.room
  have hcl := clusters_length s
  refine rangeFunc_box (α := Cl) (by omega) (gf := 32) (lb := #[.pointer (some ⟨w.heap.size + 1, 0, none⟩)]) rfl (enters_of Tryd.func32 (by kernel_rfl) rfl)
    (clus_seq (9 - 1) (w.heap.size + 1) N (by omega) s (by omega) V (by omega) b1.cell (hT.below hB)) (fun _ => rfl)
    (fun k => k = w.heap.size + 1 + 1) (fun k e => by subst e; exact ⟨by omega, by omega, by omega⟩)
    (fun pre W => ∃ v, Boxed W (w.heap.size + 1 + 1) 29 v ∧ W.ownsRow (V.heap.size + 2 + 2) 34 5 v pre.length (flatC pre)) (fun _ _ _ => False)
    (fun pre A B h hk => by obtain ⟨v, h1, h2⟩ := h; exact ⟨v, (hk.same _ h1.lt (.inl (by omega))).trans h1, ownsRow_keeps h2 hk⟩) (fun _ _ _ _ h _ => h) ⟨_, b2, World.ownsRow_nil _ _ _ _⟩ ?round ?done ?stop
  case round =>
    rintro l pre x W K hl hlW hhi hlh hBW hip hpx hK
    have hWz := hBW.size
    have hpl : pre.length + 1 ≤ (clusters s).length := by have := hpx.length_le; simpa using this
    have hmost : ¬ most < (pre.length : Int) + 1 := by omega
    simp only [Cl.val]
    gi_wp2
    refine hK _ _ ((Below.refl _ W).alloc (Nat.le_refl _) _) (fun W2 hbo hzz hB2 hi2 => ?_)
    have hWW : W.heap.size ≤ W2.heap.size := by rw [hzz]; simp
    clear hzz
    have hx : ClAt W2 W.heap.size x := (hbo.same W.heap.size (by simp) (by omega)).trans (World.alloc_heap_new W _)
    obtain ⟨v, c0, hrow⟩ := hi2
    have m0 := boxed_but b0 hB2 (by omega)
    obtain ⟨x0, x1, x2, x3, x4⟩ := hx.row
    have k0 := c0.cell
    have k1 := m0.cell
    clear hpx hT hbo
    gi_wp2_with (gi_at_builtin; refine wpListIn_append_own _ rfl _ _ 29 rfl (V.heap.size + 2 + 2) 34 i0 (.agg #[.int .i64 0, .int .i64 0, .int .i64 0, .int .i64 0, .int .i64 0]) 5 40 Tryd.underlying29 hi hz0 hz1 hz2 rfl (by decide) _ _ _ rfl (hrow.alloc _) ⟨W2.heap.size, 0, none⟩ 1 1 [.int .i64 x.loc, .int .i64 x.len, .int .i64 x.fr, .int .i64 x.to, .int .i64 x.cells] rfl rfl (cell_five_new _ _ _ _ _ _ _) (fun u hu => by simp at hu; rcases hu with rfl | rfl | rfl | rfl | rfl <;> rfl) (by unfold maxLen; omega) (by omega) (by simp; omega) ?_; intro v' w1 hown' hgrow _; obtain ⟨g', cap', rfl⟩ := ownsRow_succ hown'; have c3 : Boxed w1 (w.heap.size + 1 + 1) 29 v := (c0.alloc _).kept hgrow (fun e => by have := (hrow.lt _ e.symm).1; omega); have m3 : Boxed w1 w.heap.size 3 (.int .i64 most) := (m0.alloc _).kept hgrow (fun e => by have := (hrow.lt _ e.symm).1; omega); clear k0 k1; have k0 := c3.cell; have k2 := c3.frozen; have k1 := m3.cell)
    refine ⟨((But.refl _ W2).alloc _).trans ((but_grown hgrow (fun k e => .inr (hrow.lt k e).1)).trans (But.set w1 _ _ (.inl rfl))), _, c3.set _, ?_⟩
    rw [List.length_append, flatC_snoc]
    refine hown'.kept (grownBy_setCell' w1 (w.heap.size + 1 + 1) _) (.inr (fun e => ?_))
    have := (hown'.lt _ e).1
    omega
  case done =>
    rintro D W hD ⟨v, hv, hrow⟩ hBW hK
    have k0 := hv.cell
    gi_wp2
    refine ⟨by simp, .inl ⟨_, _, rfl, run_takeDeferred hK, ?_⟩⟩
    refine ⟨.tuple #[v, .bool true], by simp [results, Tryd.f13, go_sem], v, rfl, ownsRow_from (ownsRow_putObjC hrow hK) (by omega), ?_⟩
    exact (hB.trans (hBW.below (by omega) (fun k e => by omega))).trans ((putObj_belowL _ _ _).mono (by omega))
  case stop => rintro D c pre W hD hpre h; exact h.elim

end Go.Proofs.YtgjkholmoamblaaDoor
