/- The contract of cell.Of: the sum of the cells of a text's clusters. -/
import Derived.Test.YtbehlaclffjkbaaDoorCellW4
import Derived.Test.YtbehlaclffjkbaaDoorCellM2
namespace Go.Proofs.YtbehlaclffjkbaaDoor
open Go.RowKit Go.Shelf
attribute [local go_sem] Oper.semAt_some

/-- A cluster in a block of its own. -/
def ClAt (W : World) (B : Nat) (x : Cl) : Prop := W.heap[B]? = some (.cells #[.int .i64 x.loc, .int .i64 x.len, .int .i64 x.fr, .int .i64 x.to, .int .i64 x.cells] 39 (0, 0))
theorem ClAt.lt {W : World} {B : Nat} {x : Cl} (h : ClAt W B x) : B < W.heap.size := (Array.getElem?_eq_some_iff.1 h).1
theorem ClAt.row {W : World} {B : Nat} {x : Cl} (h : ClAt W B x) : W.cell? ⟨B, 0, none⟩ = some (.int .i64 x.loc) ∧ W.cell? ⟨B, 1, none⟩ = some (.int .i64 x.len) ∧ W.cell? ⟨B, 2, none⟩ = some (.int .i64 x.fr) ∧
    W.cell? ⟨B, 3, none⟩ = some (.int .i64 x.to) ∧ W.cell? ⟨B, 4, none⟩ = some (.int .i64 x.cells) := by
  simp [World.cell?, show W.heap[B]? = _ from h]
theorem boxed_calm (B m b : Nat) (hB : B < m) (t : TypeId) (f : List Cl → Value) : CalmL m b (fun pre W => Boxed W B t (f pre)) := fun _ _ _ h hb => (hb.same B h.lt (.inl hB)).trans h
theorem boxed_but {M : Nat → Prop} {A W : World} {B : Nat} {t : TypeId} {v : Value} (h : Boxed A B t v) (hb : But M A W) (hm : ¬ M B) : Boxed W B t v := (hb.same B h.lt hm).trans h

end Go.Proofs.YtbehlaclffjkbaaDoor
