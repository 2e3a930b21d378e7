/- Contracts of the methods of a cluster that grows. -/
import Derived.Test.YtbehlaclffjkbaaDoorCellW1
import Derived.Deep.QuietTactic
import Derived.BigQuiet
import Derived.RegionTactic
import Derived.BigRegion
namespace Go.Proofs.YtbehlaclffjkbaaDoor
open Go.RowKit

/-- A growing cluster in a block of its own. -/
def GrAt (W : World) (B : Nat) (g : Gr) : Prop := W.heap[B]? = some (.cells #[.int .i64 g.loc, .int .i64 g.fr, .int .i64 g.to, .int .i64 g.cells, .int .i32 g.first, .int .i32 g.last] 57 (0, 0))
theorem GrAt.lt {W : World} {B : Nat} {g : Gr} (h : GrAt W B g) : B < W.heap.size := (Array.getElem?_eq_some_iff.1 h).1
theorem GrAt.cells {W : World} {B : Nat} {g : Gr} (h : GrAt W B g) : W.cell? ⟨B, 0, none⟩ = some (.int .i64 g.loc) ∧ W.cell? ⟨B, 1, none⟩ = some (.int .i64 g.fr) ∧ W.cell? ⟨B, 2, none⟩ = some (.int .i64 g.to) ∧
    W.cell? ⟨B, 3, none⟩ = some (.int .i64 g.cells) ∧ W.cell? ⟨B, 4, none⟩ = some (.int .i32 g.first) ∧ W.cell? ⟨B, 5, none⟩ = some (.int .i32 g.last) := by
  simp [World.cell?, show W.heap[B]? = _ from h]
theorem GrAt.frozen {W : World} {B : Nat} {g : Gr} (h : GrAt W B g) (o : Nat) : W.frozen? ⟨B, o, none⟩ = false := by
  simp [World.frozen?, show W.heap[B]? = _ from h]
theorem GrAt.of_block {W W' : World} {B : Nat} {g : Gr} (h : GrAt W B g) (e : W'.heap[B]? = W.heap[B]?) : GrAt W' B g := e.trans h

theorem heap_setCell_sameC (W : World) (B o : Nat) (v : Value) (c : Array Value) (t : TypeId) (h : W.heap[B]? = some (.cells c t (0, 0))) : (W.setCell ⟨B, o, none⟩ v).heap[B]? = some (.cells (c.setIfInBounds o v) t (0, 0)) := by
  obtain ⟨hlt, hk⟩ := Array.getElem?_eq_some_iff.1 h
  show (W.heap.modify B _)[B]? = _
  rw [Array.getElem?_eq_getElem (by rw [Array.size_modify]; exact hlt), Array.getElem_modify_self, hk]
  rfl
theorem GrAt.setTo {W : World} {B : Nat} {g : Gr} (h : GrAt W B g) (v : Int) : GrAt (W.setCell ⟨B, 2, none⟩ (.int .i64 v)) B { g with to := v } := heap_setCell_sameC W B 2 _ _ _ h
theorem GrAt.setCells {W : World} {B : Nat} {g : Gr} (h : GrAt W B g) (v : Int) : GrAt (W.setCell ⟨B, 3, none⟩ (.int .i64 v)) B { g with cells := v } := heap_setCell_sameC W B 3 _ _ _ h
theorem GrAt.setLast {W : World} {B : Nat} {g : Gr} (h : GrAt W B g) (v : Int) : GrAt (W.setCell ⟨B, 5, none⟩ (.int .i32 v)) B { g with last := v } := heap_setCell_sameC W B 5 _ _ _ h
theorem below_dnC {B : Nat} {a w : World} (h : Below B a w) (n : Nat) : Below B a (w.drewN n) := h.trans ⟨rfl, rfl, rfl, Nat.le_refl _, fun _ _ => rfl⟩

set_option maxRecDepth 100000 in
set_option maxHeartbeats 1000000 in
theorem begin_any (loc sign r : Int) (N : Nat) (w : World) (hT : Tabs N w) (h1 : 0 ≤ sign) (h2 : sign ≤ 140737488355328) : Calls Tryd.prog 28 #[.int .i64 loc, .int .i64 sign, .int .i32 r] w fun e w' =>
    e = .returned (.agg #[.int .i64 loc, .int .i64 sign, .int .i64 (sign + 1), .int .i64 (widthI r), .int .i32 r, .int .i32 r]) ∧ Below w.heap.size w w' := by
  have HW := hideC (fun w h => width_any r N w h)
  have hal := (Below.refl w.heap.size w).alloc (o := .cells #[.int .i64 0, .int .i64 0, .int .i64 0, .int .i64 0, .int .i32 0, .int .i32 0] 57) (Nat.le_refl _)
  have hnew := World.alloc_heap_new w (.cells #[.int .i64 0, .int .i64 0, .int .i64 0, .int .i64 0, .int .i32 0, .int .i32 0] 57)
  have hzz : (w.alloc (.cells #[.int .i64 0, .int .i64 0, .int .i64 0, .int .i64 0, .int .i32 0, .int .i32 0] 57)).heap.size = w.heap.size + 1 := by simp
  go_enter Tryd.func28, Tryd.ntmps28
  go_wp2_with fail
  refine (HW.out _ (hT.below hal)).mono ?_
  rintro e w1 ⟨rfl, hb1⟩
  have hg1 : GrAt w1 w.heap.size .zero := (hb1.block _ (by omega)).trans hnew
  have hB1 := hal.trans (hb1.mono (by omega))
  clear hnew hal hzz
  obtain ⟨c0, c1, c2, c3, c4, c5⟩ := hg1.cells
  have hf : ∀ o, w1.frozen? ⟨w.heap.size, o, none⟩ = false := hg1.frozen
  have hlt := hg1.lt
  go_wp2
  exact bodyPost_ret (v := .agg #[.int .i64 loc, .int .i64 sign, .int .i64 (sign + 1), .int .i64 (widthI r), .int .i32 r, .int .i32 r]) (by simp [results, Tryd.results28, go_sem, c0, c1, c2, c3, c4, c5]) rfl ⟨rfl, (((((hB1.setCell (p := ⟨w.heap.size, 0, none⟩) (Nat.le_refl _) _).setCell (p := ⟨w.heap.size, 1, none⟩) (Nat.le_refl _) _).setCell (p := ⟨w.heap.size, 2, none⟩) (Nat.le_refl _) _).setCell (p := ⟨w.heap.size, 3, none⟩) (Nat.le_refl _) _).setCell (p := ⟨w.heap.size, 4, none⟩) (Nat.le_refl _) _).setCell (p := ⟨w.heap.size, 5, none⟩) (Nat.le_refl _) _⟩

set_option maxRecDepth 100000 in
set_option maxHeartbeats 1000000 in
theorem upTo_any (g : Gr) (e : Int) (B : Nat) (w : World) (hg : GrAt w B g) (h1 : 0 ≤ g.loc) (h2 : g.loc ≤ e) (h3 : e ≤ 140737488355328) : Calls Tryd.prog 27 #[.pointer (some ⟨B, 0, none⟩), .int .i64 e] w fun en w' =>
    en = .returned (.agg #[.int .i64 g.loc, .int .i64 (e - g.loc), .int .i64 g.fr, .int .i64 g.to, .int .i64 g.cells]) ∧ Below w.heap.size w w' := by
  obtain ⟨c0, c1, c2, c3, c4, c5⟩ := hg.cells
  go_enter Tryd.func27, Tryd.ntmps27
  have hlt := hg.lt
  go_wp2
  go_region
  go_wp2
  exact bodyPost_ret (v := .agg #[.int .i64 g.loc, .int .i64 (e - g.loc), .int .i64 g.fr, .int .i64 g.to, .int .i64 g.cells]) (by simp [results, Tryd.results27, go_sem]) rfl ⟨rfl, ((Below.refl _ w).alloc (Nat.le_refl _) _).drew⟩

set_option maxRecDepth 100000 in
set_option maxHeartbeats 1000000 in
theorem add_any (g : Gr) (r : Int) (B : Nat) (w : World) (hg : GrAt w B g) (b1 : 0 ≤ g.to) (b3 : g.to ≤ 140737488355328) : Calls Tryd.prog 26 #[.pointer (some ⟨B, 0, none⟩), .int .i32 r] w fun e w' =>
    (∃ v, e = .returned v) ∧ GrAt w' B (g.add r) ∧ But (fun k => k = B) w w' := by
  obtain ⟨c0, c1, c2, c3, c4, c5⟩ := hg.cells
  have f2 := hg.frozen 2
  have f3 := hg.frozen 3
  have f5 := hg.frozen 5
  generalize hv : g.add r = v
  have HV := hideC hv
  clear hv
  have hlt := hg.lt
  cases hf : flagB r
  · cases hp : (r == 65039)
    · go_enter Tryd.func26, Tryd.ntmps26
      go_wp2_with fail
      refine (isFlag_any r _).mono ?_
      rintro e w1 ⟨rfl, rfl⟩
      go_wp2
      go_end0
      refine ⟨⟨_, rfl⟩, ?_, ?_⟩
      · rw [← HV.out]
        have := (hg.setTo (g.to + 1)).setLast r
        simpa [Gr.add, hf, hp] using this
      · exact ((But.refl (fun k => k = B) _).setCell (p := ⟨B, 2, none⟩) rfl _).setCell (p := ⟨B, 5, none⟩) rfl _
    · cases hs : symB g.first
      · go_enter Tryd.func26, Tryd.ntmps26
        go_wp2_with fail
        refine (isFlag_any r _).mono ?_
        rintro e w1 ⟨rfl, rfl⟩
        go_wp2_with fail
        refine (isSymbol_any g.first _).mono ?_
        rintro e w2 ⟨rfl, rfl⟩
        go_wp2
        go_end0
        refine ⟨⟨_, rfl⟩, ?_, ?_⟩
        · rw [← HV.out]
          have := (hg.setTo (g.to + 1)).setLast r
          simpa [Gr.add, hf, hp, hs] using this
        · exact ((But.refl (fun k => k = B) _).setCell (p := ⟨B, 2, none⟩) rfl _).setCell (p := ⟨B, 5, none⟩) rfl _
      · go_enter Tryd.func26, Tryd.ntmps26
        go_wp2_with fail
        refine (isFlag_any r _).mono ?_
        rintro e w1 ⟨rfl, rfl⟩
        go_wp2_with fail
        refine (isSymbol_any g.first _).mono ?_
        rintro e w2 ⟨rfl, rfl⟩
        go_wp2
        go_end0
        refine ⟨⟨_, rfl⟩, ?_, ?_⟩
        · rw [← HV.out]
          have := ((hg.setCells 2).setTo (g.to + 1)).setLast r
          simpa [Gr.add, hf, hp, hs] using this
        · exact (((But.refl (fun k => k = B) _).setCell (p := ⟨B, 3, none⟩) rfl _).setCell (p := ⟨B, 2, none⟩) rfl _).setCell (p := ⟨B, 5, none⟩) rfl _
  · go_enter Tryd.func26, Tryd.ntmps26
    go_wp2_with fail
    refine (isFlag_any r _).mono ?_
    rintro e w1 ⟨rfl, rfl⟩
    go_wp2
    go_end0
    refine ⟨⟨_, rfl⟩, ?_, ?_⟩
    · rw [← HV.out]
      have := ((hg.setCells 2).setTo (g.to + 1)).setLast r
      simpa [Gr.add, hf] using this
    · exact (((But.refl (fun k => k = B) _).setCell (p := ⟨B, 3, none⟩) rfl _).setCell (p := ⟨B, 2, none⟩) rfl _).setCell (p := ⟨B, 5, none⟩) rfl _
end Go.Proofs.YtbehlaclffjkbaaDoor
