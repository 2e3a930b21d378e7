/- The contract of cell.Of: the sum of the cells of a text's clusters. -/
import Derived.Test.YteignefcijmmeaaDoorCellW4
import Derived.Test.YteignefcijmmeaaDoorCellM2
namespace Go.Proofs.YteignefcijmmeaaDoor
open Go.RowKit Go.Shelf
attribute [local go_sem] Oper.semAt_some

/-- A cluster in a block of its own. -/
def ClAt (W : World) (B : Nat) (x : Cl) : Prop := W.heap[B]? = some (.cells #[.int .i64 x.loc, .int .i64 x.len, .int .i64 x.fr, .int .i64 x.to, .int .i64 x.cells] 97 (0, 0))
theorem ClAt.lt {W : World} {B : Nat} {x : Cl} (h : ClAt W B x) : B < W.heap.size := (Array.getElem?_eq_some_iff.1 h).1
theorem ClAt.row {W : World} {B : Nat} {x : Cl} (h : ClAt W B x) : W.cell? ⟨B, 0, none⟩ = some (.int .i64 x.loc) ∧ W.cell? ⟨B, 1, none⟩ = some (.int .i64 x.len) ∧ W.cell? ⟨B, 2, none⟩ = some (.int .i64 x.fr) ∧
    W.cell? ⟨B, 3, none⟩ = some (.int .i64 x.to) ∧ W.cell? ⟨B, 4, none⟩ = some (.int .i64 x.cells) := by
  simp [World.cell?, show W.heap[B]? = _ from h]
theorem boxed_calm (B m b : Nat) (hB : B < m) (t : TypeId) (f : List Cl → Value) : CalmL m b (fun pre W => Boxed W B t (f pre)) := fun _ _ _ h hb => (hb.same B h.lt (.inl hB)).trans h
theorem boxed_but {M : Nat → Prop} {A W : World} {B : Nat} {t : TypeId} {v : Value} (h : Boxed A B t v) (hb : But M A W) (hm : ¬ M B) : Boxed W B t v := (hb.same B h.lt hm).trans h

set_option maxRecDepth 100000 in
set_option maxHeartbeats 2000000 in
theorem of_any (s : ByteArray) (hs : s.size ≤ 140737488355328) (N : Nat) (w : World) (hT : Tabs N w) :
    Calls Tryd.prog 22 #[.string s] w fun e w' => e = .returned (.int .i64 (ofI s)) ∧ Below w.heap.size w w' := by
  refine (callsIn_wide (n := 9)).1 ?_
  refine callsIn_of_wp_marks Tryd.func22 rfl trivial ?_ rfl
  simp only [Tryd.ntmps22, List.size_toArray, List.length_cons, List.length_nil, Nat.reduceAdd, Nat.reduceSub, Array.replicate_succ, Array.replicate_zero, List.push_toArray, List.append_toArray, List.nil_append, List.cons_append]
  gi_wp2_with (refine ⟨trivial, ?_⟩; gi_at_call 40; refine (callsIn_wide.2 (clusters_mk _ _)).mono ?_; rintro e w' ⟨rfl, rfl⟩)
  obtain ⟨V, hV⟩ : ∃ V, (w.alloc (.cells #[.int .i64 0] 3)).alloc (.cells #[.string s] 9) = V := ⟨_, rfl⟩
  have b0 : Boxed V w.heap.size 3 (.int .i64 0) := by rw [← hV]; exact (Boxed.new w 3 _).alloc _
  have b1 : Boxed V (w.heap.size + 1) 9 (.string s) := by
    rw [← hV]
    have := Boxed.new (w.alloc (.cells #[.int .i64 0] 3)) 9 (.string s)
    rw [World.size_alloc] at this
    exact this
  have hB : Below w.heap.size w V := by
    rw [← hV]
    exact ((Below.refl _ w).alloc (Nat.le_refl _) _).alloc (by simp) _
  have hz1 : w.heap.size + 2 ≤ V.heap.size := by rw [← hV]; simp
  have hz2 : V.heap.size ≤ w.heap.size + 2 := by rw [← hV]; simp
  rw [hV]
  clear hV
  have hN := hT.room
  refine rangeFunc_box (α := Cl) (by omega) (gf := 63) (lb := #[.pointer (some ⟨w.heap.size + 1, 0, none⟩)]) rfl (enters_of Tryd.func63 (by kernel_rfl) rfl)
    (clus_seq (9 - 1) (w.heap.size + 1) N (by omega) s hs V (by omega) b1.cell (hT.below hB)) (fun _ => rfl)
    (fun k => k = w.heap.size) (fun k e => by subst e; exact ⟨by omega, by omega, by omega⟩)
    (fun pre W => Boxed W w.heap.size 3 (.int .i64 (cellsOf pre))) (fun _ _ _ => False) (boxed_calm _ _ _ (by omega) _ _) (fun _ _ _ _ h _ => h) b0 ?round ?done ?stop
  case round =>
    rintro l pre x W K hl hlW hhi hlh hBW hip hpx hK
    obtain ⟨⟨p1, p2⟩, p3, p4⟩ := front_bd hpx
    have hWz := hBW.size
    simp only [Cl.val]
    gi_wp2
    refine hK _ _ ((Below.refl _ W).alloc (Nat.le_refl _) _) (fun W2 hbo _ hB2 hi2 => ?_)
    have hx : ClAt W2 W.heap.size x := (hbo.same W.heap.size (by simp) (by omega)).trans (World.alloc_heap_new W _)
    obtain ⟨c0, c1, c2, c3, c4⟩ := hx.row
    have k0 := hi2.cell
    have f0 := hi2.frozen
    clear hpx hT
    gi_wp2
    refine ⟨But.set W2 _ _ (.inl rfl), ?_⟩
    show Boxed _ _ _ _
    rw [cellsOf_snoc]
    exact hi2.set _
  case done =>
    rintro D W hD hip hBW hK
    have k0 := hip.cell
    gi_wp2
    refine ⟨by simp, .inl ⟨_, _, rfl, run_takeDeferred hK, ?_⟩⟩
    refine ⟨.int .i64 (cellsOf (clusters s)), by simp [results, Tryd.f22, go_sem], rfl, ?_⟩
    exact (hB.trans (hBW.below (by omega) (fun k e => by omega))).trans ((putObj_belowL _ _ _).mono (by omega))
  case stop => rintro D c pre W hD hpre h; exact h.elim
end Go.Proofs.YteignefcijmmeaaDoor
