/- The contract of the statements' own head (chapter 2): it returns true. -/
import Derived.Test.YtbehlaclffjkbaaDoorCellW5
namespace Go.Proofs.YtbehlaclffjkbaaDoor
open Go.RowKit Go.Shelf
attribute [local go_sem] Oper.semAt_some

def ex2 : ByteArray := ⟨#[101, 204, 129, 228, 184, 173, 255]⟩
set_option maxRecDepth 100000 in
theorem ex2_clusters : clusters ex2 = [⟨0, 3, 0, 2, 1⟩, ⟨3, 3, 2, 3, 2⟩, ⟨6, 1, 3, 4, 1⟩] := by kernel_rfl
set_option maxRecDepth 100000 in
theorem ex2_of : ofI ex2 = 4 := by kernel_rfl
theorem width_wide : widthI 20013 = 2 := by kernel_rfl
theorem width_mark : widthI 769 = 0 := by kernel_rfl
theorem width_a : widthI 97 = 1 := by kernel_rfl

theorem front_first {x : Cl} (h : [] ++ [x] <+: clusters ex2) : x = ⟨0, 3, 0, 2, 1⟩ := by
  rw [ex2_clusters] at h
  obtain ⟨r, hr⟩ := h
  simp at hr
  exact hr.1
theorem front_len {pre : List Cl} {x : Cl} (h : pre ++ [x] <+: clusters ex2) : pre.length < 3 := by
  have := h.length_le
  rw [ex2_clusters] at this
  simp at this
  omega

set_option maxRecDepth 100000 in
theorem seq_some (lb : Array Value) (W : World) : Sem.run Tryd.prog (binOp .eql 36 (.func (.func 24) #[] lb) .nilFunc) W = .ok (.bool false) W := by rfl

end Go.Proofs.YtbehlaclffjkbaaDoor
