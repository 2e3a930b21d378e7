/- The contract of the statements' own head (chapter 2): it returns true. -/
import Derived.Test.YtgjkholmoamblaaDoorCellW5
namespace Go.Proofs.YtgjkholmoamblaaDoor
open Go.RowKit Go.Shelf
attribute [local go_sem] Oper.semAt_some

def ex2 : ByteArray := ⟨#[101, 204, 129, 228, 184, 173, 255]⟩
set_option maxRecDepth 100000 in
theorem ex2_clusters : clusters ex2 = [⟨0, 3, 0, 2, 1⟩, ⟨3, 3, 2, 3, 2⟩, ⟨6, 1, 3, 4, 1⟩] := by kernel_rfl
set_option maxRecDepth 100000 in
theorem ex2_of : ofI ex2 = 4 := by kernel_rfl
theorem width_wide : widthI 20013 = 2 := by kernel_rfl
theorem width_mark : widthI 769 = 0 := by kernel_rfl
theorem width_a : widthI 97 = 1 := by kernel_rfl

theorem front_first {x : Cl} (h : [] ++ [x] <+: clusters ex2) : x = ⟨0, 3, 0, 2, 1⟩ := by
  rw [ex2_clusters] at h
  obtain ⟨r, hr⟩ := h
  simp at hr
  exact hr.1
theorem front_len {pre : List Cl} {x : Cl} (h : pre ++ [x] <+: clusters ex2) : pre.length < 3 := by
  have := h.length_le
  rw [ex2_clusters] at this
  simp at this
  omega

theorem seq_some (lb : Array Value) (W : World) : Sem.run Tryd.prog (binOp .eql 52 (.func (.func 32) #[] lb) .nilFunc) W = .ok (.bool false) W := by rfl

set_option maxRecDepth 100000 in
set_option maxHeartbeats 2000000 in
theorem known_any (N : Nat) (w : World) (hT : Tabs N w) : Calls Tryd.prog 10 #[] w fun e w' => e = .returned (.bool true) ∧ Below w.heap.size w w' := by
  have hsq := seq_some
  refine (callsIn_wide (n := 9)).1 ?_
  refine callsIn_of_wp_marks Tryd.func10 rfl trivial ?_ rfl
  simp only [Tryd.ntmps10, List.size_toArray, List.length_nil, Nat.reduceSub, Array.replicate_succ, Array.replicate_zero, List.push_toArray, List.append_toArray, List.nil_append, List.cons_append]
  gi_wp2_with (refine ⟨trivial, ?_⟩; gi_at_call 23; refine (callsIn_wide.2 (clusters_mk _ _)).mono ?_; rintro e w' ⟨rfl, rfl⟩)
  obtain ⟨V, hV⟩ : ∃ V, ((w.alloc (.cells #[.bool false] 4)).alloc (.cells #[.string ⟨#[101, 204, 129, 228, 184, 173, 255]⟩] 9)).alloc (.cells #[.int .i64 0] 3) = V := ⟨_, rfl⟩
  have b0 : Boxed V w.heap.size 4 (.bool false) := by rw [← hV]; exact ((Boxed.new w 4 _).alloc _).alloc _
  have b1 : Boxed V (w.heap.size + 1) 9 (.string ex2) := by
    rw [← hV]
    have := Boxed.new (w.alloc (.cells #[.bool false] 4)) 9 (.string ⟨#[101, 204, 129, 228, 184, 173, 255]⟩)
    rw [World.size_alloc] at this
    exact this.alloc _
  have b2 : Boxed V (w.heap.size + 1 + 1) 3 (.int .i64 0) := by
    rw [← hV]
    have := Boxed.new ((w.alloc (.cells #[.bool false] 4)).alloc (.cells #[.string ⟨#[101, 204, 129, 228, 184, 173, 255]⟩] 9)) 3 (.int .i64 0)
    rw [World.size_alloc, World.size_alloc] at this
    exact this
  have hB : Below w.heap.size w V := by
    rw [← hV]
    exact (((Below.refl _ w).alloc (Nat.le_refl _) _).alloc (by simp) _).alloc (by simp; omega) _
  have hz1 : w.heap.size + 3 ≤ V.heap.size := by rw [← hV]; simp
  have hz2 : V.heap.size ≤ w.heap.size + 3 := by rw [← hV]; simp
  rw [hV]
  clear hV hsq
  have hN := hT.room
  refine rangeFunc_box (α := Cl) (by omega) (gf := 32) (lb := #[.pointer (some ⟨w.heap.size + 1, 0, none⟩)]) rfl (enters_of Tryd.func32 (by kernel_rfl) rfl)
    (clus_seq (9 - 1) (w.heap.size + 1) N (by omega) ex2 (by decide) V (by omega) b1.cell (hT.below hB)) (fun _ => rfl)
    (fun k => k = w.heap.size + 1 + 1) (fun k e => by subst e; exact ⟨by omega, by omega, by omega⟩)
    (fun pre W => Boxed W (w.heap.size + 1 + 1) 3 (.int .i64 pre.length)) (fun _ _ _ => False) (boxed_calm _ _ _ (by omega) _ (fun pre => .int .i64 pre.length)) (fun _ _ _ _ h _ => h) b2 ?round ?done ?stop
  case round =>
    rintro l pre x W K hl hlW hhi hlh hBW hip hpx hK
    have hWz := hBW.size
    have hpl := front_len hpx
    simp only [Cl.val]
    gi_wp2
    refine hK _ _ ((Below.refl _ W).alloc (Nat.le_refl _) _) (fun W2 hbo _ hB2 hi2 => ?_)
    have hx : ClAt W2 W.heap.size x := (hbo.same W.heap.size (by simp) (by omega)).trans (World.alloc_heap_new W _)
    have fin : ∀ a', boxPost (V.heap.size + 2 + 2) (fun k => k = w.heap.size + 1 + 1) (fun pre W => Boxed W (w.heap.size + 1 + 1) 3 (.int .i64 pre.length)) (fun _ _ _ => False) (pre ++ [x]) W2 .normal a' (W2.setCell ⟨w.heap.size + 1 + 1, 0, none⟩ (.int .i64 (pre.length + 1))) := fun a' => by
      refine ⟨But.set W2 _ _ (.inl rfl), ?_⟩
      have := hi2.set (.int .i64 (pre.length + 1))
      simpa using this
    have FIN := hideC fin
    clear fin
    obtain ⟨c0, c1, c2, c3, c4⟩ := hx.row
    have k0 := hi2.cell
    have f0 := hi2.frozen
    by_cases hp : pre = []
    · subst hp
      have he := front_first hpx
      subst he
      clear hpx hT
      gi_wp2
      exact FIN.out _
    · have hn0 : ((pre.length : Int) == 0) = false := beq_eq_false_iff_ne.2 (fun e => hp (List.length_eq_zero_iff.1 (by omega)))
      clear hpx hT hp
      gi_wp2
      exact FIN.out _
  case done =>
    rintro D W hD hip hBW hK
    have k0 := hip.cell
    rw [ex2_clusters] at k0
    have hT2 := (hT.below hB).but hBW (fun k e => by omega)
    have HO := hideC (fun w h => of_any ex2 (by decide) N w h)
    rw [ex2_of] at HO
    have HW := hideC (fun w h => width_any 20013 N w h)
    rw [width_wide] at HW
    have HX := hideC (fun w h => width_any 769 N w h)
    rw [width_mark] at HX
    have k1 := (boxed_but b0 hBW (by omega)).cell
    have f1 := (boxed_but b0 hBW (by omega)).frozen
    gi_wp2_with fail
    refine ⟨trivial, ?_⟩
    gi_at_call 17
    refine (callsIn_wide.2 (HO.out _ hT2)).mono ?_
    rintro e w1 ⟨rfl, hb1⟩
    have hT3 := hT2.below hb1
    gi_wp2_with fail
    refine ⟨trivial, ?_⟩
    gi_at_call 15
    refine (callsIn_wide.2 (HW.out _ hT3)).mono ?_
    rintro e w2 ⟨rfl, hb2⟩
    have hT4 := hT3.below hb2
    gi_wp2_with fail
    refine ⟨trivial, ?_⟩
    gi_at_call 15
    refine (callsIn_wide.2 (HX.out _ hT4)).mono ?_
    rintro e w3 ⟨rfl, hb3⟩
    have hs1 := hb1.size
    have hs2 := hb2.size
    have hWb : Below W.heap.size W w3 := (hb1.trans (hb2.mono hs1)).trans (hb3.mono (by omega))
    have hDW : D < W.heap.size := (Array.getElem?_eq_some_iff.1 hK).1
    have hWz := hBW.size
    have k3 : Boxed w3 w.heap.size 4 (.bool false) := (hWb.block _ (by omega)).trans (boxed_but b0 hBW (by omega))
    have hK3 := (hWb.block D hDW).trans hK
    clear k0 k1 f1
    have k4 := k3.cell
    have f4 := k3.frozen
    gi_wp2
    have hK4 := (Below.heap_setCell w3 ⟨w.heap.size, 0, none⟩ (.bool true) D (by simp; omega)).trans hK3
    refine ⟨by simp, .inl ⟨_, _, rfl, run_takeDeferred hK4, ?_⟩⟩
    have z4 : ((w3.setCell ⟨w.heap.size, 0, none⟩ (.bool true)).putObj D (.deferred none)).cell? ⟨w.heap.size, 0, none⟩ = some (.bool true) := (World.cell?_of_block (World.putObj_heap_other (by show w.heap.size ≠ D; omega))).trans (k3.set (.bool true)).cell
    refine ⟨.bool true, by simp [results, Tryd.f10, go_sem, z4], rfl, ?_⟩
    have hVw : Below w.heap.size w w3 := (hB.trans (hBW.below (by omega) (fun k e => by omega))).trans (hWb.mono (by omega))
    exact (hVw.setCell (p := ⟨w.heap.size, 0, none⟩) (Nat.le_refl _) _).trans ((putObj_belowL _ _ _).mono (by omega))
  case stop => rintro D c pre W hD hpre h; exact h.elim

end Go.Proofs.YtgjkholmoamblaaDoor
