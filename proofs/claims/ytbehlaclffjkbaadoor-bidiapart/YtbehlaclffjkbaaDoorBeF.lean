/- slices.Collect of a text's clusters; a cluster's signs, as they are to be seen (chapter 4). -/
import Derived.Test.YtbehlaclffjkbaaDoorBeE
import Derived.Test.YtbehlaclffjkbaaDoorCellA
namespace Go.Proofs.YtbehlaclffjkbaaDoor
open Go.RowKit Go.Shelf
attribute [local go_sem] Oper.semAt_some

set_option maxRecDepth 100000 in
set_option maxHeartbeats 4000000 in
theorem appseq_any (s : ByteArray) (hs : s.size ≤ 2097152) (bx : Nat) (N : Nat) (w : World) (hT : Tabs N w) (hc : w.cell? ⟨bx, 0, none⟩ = some (.string s)) (hbx : bx < w.heap.size) :
    Calls Tryd.prog 57 #[.slice none 0 0, .func (.func 24) #[] #[.pointer (some ⟨bx, 0, none⟩)]] w fun e w' => ∃ v, e = .returned v ∧ w'.ownsRow w.heap.size 39 5 v (clusters s).length (flatC (clusters s)) ∧ Below w.heap.size w w' := by
  obtain ⟨i0, hi, hz0, hz1, hz2⟩ := info_partsC infoCl
  have hsq := seq_some
  refine (callsIn_wide (n := 9)).1 ?_
  refine callsIn_of_wp_marks Tryd.func57 rfl trivial ?_ rfl
  simp only [Tryd.ntmps57, List.size_toArray, List.length_cons, List.length_nil, Nat.reduceAdd, Nat.reduceSub, Array.replicate_succ, Array.replicate_zero, List.push_toArray, List.append_toArray, List.nil_append, List.cons_append]
  gi_wp2
  obtain ⟨V, hV⟩ : ∃ V, w.alloc (.cells #[.slice none 0 0] 28) = V := ⟨_, rfl⟩
  have b2 : Boxed V w.heap.size 28 (.slice none 0 0) := by rw [← hV]; exact Boxed.new w _ _
  have hB : Below w.heap.size w V := by rw [← hV]; exact (Below.refl _ w).alloc (Nat.le_refl _) _
  have hz1' : V.heap.size = w.heap.size + 1 := by rw [← hV]; simp
  have hc1 : V.cell? ⟨bx, 0, none⟩ = some (.string s) := (hB.cell (p := ⟨bx, 0, none⟩) hbx).trans hc
  rw [hV]
  clear hV hsq
  have hN := hT.room
  have hcl := clusters_length s
  refine rangeFunc_box (α := Cl) (by omega) (gf := 24) (lb := #[.pointer (some ⟨bx, 0, none⟩)]) rfl (enters_of Tryd.func24 (by kernel_rfl) rfl)
    (clus_seq (9 - 1) bx N (by omega) s (by omega) V (by omega) hc1 (hT.below hB)) (fun _ => rfl)
    (fun k => k = w.heap.size) (fun k e => by subst e; exact ⟨by omega, by omega, by omega⟩)
    (fun pre W => ∃ v, Boxed W w.heap.size 28 v ∧ W.ownsRow (V.heap.size + 2 + 2) 39 5 v pre.length (flatC pre)) (fun _ _ _ => False)
    (fun pre A B h hk => by obtain ⟨v, h1, h2⟩ := h; exact ⟨v, (hk.same _ h1.lt (.inl (by omega))).trans h1, ownsRow_keeps h2 hk⟩) (fun _ _ _ _ h _ => h) ⟨_, b2, World.ownsRow_nil _ _ _ _⟩ ?round ?done ?stop
  case round =>
    rintro l pre x W K hl hlW hhi hlh hBW hip hpx hK
    have hWz := hBW.size
    have hpl : pre.length + 1 ≤ (clusters s).length := by have := hpx.length_le; simpa using this
    simp only [Cl.val]
    gi_wp2
    refine hK _ _ ((Below.refl _ W).alloc (Nat.le_refl _) _) (fun W2 hbo hzz hB2 hi2 => ?_)
    have hWW : W.heap.size ≤ W2.heap.size := by rw [hzz]; simp
    clear hzz
    have hx : ClAt W2 W.heap.size x := (hbo.same W.heap.size (by simp) (by omega)).trans (World.alloc_heap_new W _)
    obtain ⟨v, c0, hrow⟩ := hi2
    obtain ⟨x0, x1, x2, x3, x4⟩ := hx.row
    have k0 := c0.cell
    clear hpx hT hbo
    gi_wp2_with (gi_at_builtin; refine wpListIn_append_own _ rfl _ _ 28 rfl (V.heap.size + 2 + 2) 39 i0 (.agg #[.int .i64 0, .int .i64 0, .int .i64 0, .int .i64 0, .int .i64 0]) 5 40 Tryd.underlying28 hi hz0 hz1 hz2 rfl (by decide) _ _ _ rfl (hrow.alloc _) ⟨W2.heap.size, 0, none⟩ 1 1 [.int .i64 x.loc, .int .i64 x.len, .int .i64 x.fr, .int .i64 x.to, .int .i64 x.cells] rfl rfl (cell_five_new _ _ _ _ _ _ _) (fun u hu => by simp at hu; rcases hu with rfl | rfl | rfl | rfl | rfl <;> rfl) (by unfold maxLen; omega) (by omega) (by simp; omega) ?_; intro v' w1 hown' hgrow _; obtain ⟨g', cap', rfl⟩ := ownsRow_succ hown'; have c3 : Boxed w1 w.heap.size 28 v := (c0.alloc _).kept hgrow (fun e => by have := (hrow.lt _ e.symm).1; omega); clear k0; have k0 := c3.cell; have k2 := c3.frozen)
    refine ⟨((But.refl _ W2).alloc _).trans ((but_grown hgrow (fun k e => .inr (hrow.lt k e).1)).trans (But.set w1 _ _ (.inl rfl))), _, c3.set _, ?_⟩
    rw [List.length_append, flatC_snoc]
    refine hown'.kept (grownBy_setCell' w1 w.heap.size _) (.inr (fun e => ?_))
    have := (hown'.lt _ e).1
    omega
  case done =>
    rintro D W hD ⟨v, hv, hrow⟩ hBW hK
    have k0 := hv.cell
    gi_wp2
    refine ⟨by simp, .inl ⟨_, _, rfl, run_takeDeferred hK, ?_⟩⟩
    refine ⟨v, by simp [results, Tryd.f57, go_sem], v, rfl, ownsRow_from (ownsRow_putObjC hrow hK) (by omega), ?_⟩
    exact (hB.trans (hBW.below (by omega) (fun k e => by omega))).trans ((putObj_belowL _ _ _).mono (by omega))
  case stop => rintro D c pre W hD hpre h; exact h.elim
theorem collect_any (s : ByteArray) (hs : s.size ≤ 2097152) (bx : Nat) (N : Nat) (w : World) (hT : Tabs N w) (hc : w.cell? ⟨bx, 0, none⟩ = some (.string s)) (hbx : bx < w.heap.size) :
    Calls Tryd.prog 30 #[.func (.func 24) #[] #[.pointer (some ⟨bx, 0, none⟩)]] w fun e w' => ∃ v, e = .returned v ∧ w'.ownsRow w.heap.size 39 5 v (clusters s).length (flatC (clusters s)) ∧ Below w.heap.size w w' := by
  have HA := hideB (appseq_any s hs bx N w hT hc hbx)
  clear hc hT
  go_enter Tryd.func30, Tryd.ntmps30
  go_wp2_with fail
  refine HA.out.mono ?_
  rintro e w1 ⟨v, rfl, ho, hb⟩
  have HO := hideB (And.intro ho hb)
  clear ho hb
  go_wp2_with fail
  go_ret
  exact ⟨_, rfl, HO.out⟩
end Go.Proofs.YtbehlaclffjkbaaDoor
