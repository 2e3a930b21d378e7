/- What the walk of CellLong needs: rows of bytes, the text that they are. -/
import Derived.Test.YtgjkholmoamblaaDoorPartsC
import Derived.Test.YtgjkholmoamblaaDoorRefCut
import Derived.Test.YtgjkholmoamblaaDoorCellC
import Derived.Test.YtgjkholmoamblaaDoorCLgM
import Derived.Test.YtgjkholmoamblaaDoorCellK
import Derived.Lib.AppendStr
import Derived.Laws.IdiomStrings
import Derived.Laws.BytesArg
namespace Go.Proofs.YtgjkholmoamblaaDoor
open Go.RowKit

theorem infoB : (Tryd.prog.info? 5).map (fun i => (i.zero, i.size, i.bytes)) = some (some (.int .u8 0), 1, 1) := by kernel_rfl
/-- The bytes as cells. -/
def byteW (l : List UInt8) : List Value := l.map fun b => Value.int .u8 b.toNat
theorem byteW_app (a b : List UInt8) : byteW (a ++ b) = byteW a ++ byteW b := by simp [byteW]
theorem byteW_tx (l : List UInt8) : Lib.strCells (tx l) = byteW l := rfl
theorem byteW_len (l : List UInt8) : (byteW l).length = l.length := by simp [byteW]
theorem row_string {W : World} {base : Nat} {v : Value} {l : List UInt8} (h : W.ownsRow base 5 1 v l.length (byteW l)) : (convert 43 9 v).run Tryd.prog W = .ok (.string (tx l)) W := by
  rcases h.2 with ⟨rfl, h0⟩ | ⟨g, cap, cur, rfl, _⟩
  · rw [List.length_eq_zero_iff.1 h0]
    exact run_convert_bytes_nil (P := Tryd.prog) W 43 5 Tryd.underlying43 Tryd.underlying5 0 0 9 Tryd.underlying9
  · refine run_convert_bytes_back (P := Tryd.prog) W 43 9 5 ⟨g, 0, none⟩ cap l Tryd.underlying43 Tryd.underlying5 Tryd.underlying9 (fun j hj => ?_)
    exact World.ownsRow.cells h (g := g) rfl j _ (by simp [byteW, hj])
theorem made0_len (j : Nat) : (made 0 (j + 1)).length = (made 0 j).length + (tx [240, 159, 135, 166]).size := by rw [tx_size]; show (R _ (j + 1)).length = (R _ j).length + _; rw [R_snoc, List.length_append]
theorem made0_bytes (j : Nat) : byteW (made 0 (j + 1)) = byteW (made 0 j) ++ Lib.strCells (tx [240, 159, 135, 166]) := by rw [byteW_tx, ← byteW_app]; show byteW (R _ (j + 1)) = byteW (R _ j ++ _); rw [R_snoc]
theorem made4_len (j : Nat) : (made 4 (j + 1)).length = (made 4 j).length + (tx [228, 184, 173]).size := by rw [tx_size]; show (R _ (j + 1)).length = (R _ j).length + _; rw [R_snoc, List.length_append]
theorem made4_bytes (j : Nat) : byteW (made 4 (j + 1)) = byteW (made 4 j) ++ Lib.strCells (tx [228, 184, 173]) := by rw [byteW_tx, ← byteW_app]; show byteW (R _ (j + 1)) = byteW (R _ j ++ _); rw [R_snoc]
theorem made1_len (j : Nat) : (made 1 (j + 1)).length = (made 1 j).length + (tx [204, 129]).size := by rw [tx_size]; show (97 :: R _ (j + 1)).length = (97 :: R _ j).length + _; rw [R_snoc, ← List.cons_append, List.length_append]
theorem made1_bytes (j : Nat) : byteW (made 1 (j + 1)) = byteW (made 1 j) ++ Lib.strCells (tx [204, 129]) := by rw [byteW_tx, ← byteW_app]; show byteW (97 :: R _ (j + 1)) = byteW (97 :: R _ j ++ _); rw [R_snoc]; rfl
theorem made3_len (j : Nat) : (made 3 (j + 1)).length = (made 3 j).length + 1 := by show (R _ (j + 1)).length = (R _ j).length + _; rw [R_snoc, List.length_append]; rfl
theorem made3_bytes (j : Nat) : byteW (made 3 (j + 1)) = byteW (made 3 j) ++ [.int .u8 228] := by show byteW (R _ (j + 1)) = byteW (R _ j) ++ _; rw [R_snoc, byteW_app]; rfl
theorem made5_len (j : Nat) : (made 5 (j + 1)).length = (made 5 j).length + 1 := by show (R _ (j + 1)).length = (R _ j).length + _; rw [R_snoc, List.length_append]; rfl
theorem made5_bytes (j : Nat) : byteW (made 5 (j + 1)) = byteW (made 5 j) ++ [.int .u8 10] := by show byteW (R _ (j + 1)) = byteW (R _ j) ++ _; rw [R_snoc, byteW_app]; rfl
theorem made2_app (j : Nat) (hj : j ≠ 0) : made 2 (j + 1) = made 2 j ++ [226, 128, 141] ++ [240, 159, 145, 169] := by
  obtain ⟨i, rfl⟩ : ∃ i, j = i + 1 := ⟨j - 1, by omega⟩
  show [240, 159, 145, 169] ++ R _ (i + 1) = [240, 159, 145, 169] ++ R _ i ++ _ ++ _
  rw [R_snoc, List.append_assoc, List.append_assoc]
  rfl
theorem made2_len (j : Nat) (hj : j ≠ 0) : (made 2 (j + 1)).length = (made 2 j).length + (tx [226, 128, 141]).size + (tx [240, 159, 145, 169]).size := by rw [tx_size, tx_size, made2_app j hj, List.length_append, List.length_append]
theorem made2_bytes (j : Nat) (hj : j ≠ 0) : byteW (made 2 (j + 1)) = byteW (made 2 j) ++ Lib.strCells (tx [226, 128, 141]) ++ Lib.strCells (tx [240, 159, 145, 169]) := by rw [byteW_tx, byteW_tx, made2_app j hj, byteW_app, byteW_app]

theorem row_len {W : World} {base e sz n : Nat} {v : Value} {xs : List Value} (h : W.ownsRow base e sz v n xs) : ∃ po cc, v = .slice po n cc := by
  rcases h.2 with ⟨rfl, rfl⟩ | ⟨g, cap, cur, rfl, _⟩
  · exact ⟨_, _, rfl⟩
  · exact ⟨_, _, rfl⟩

end Go.Proofs.YtgjkholmoamblaaDoor
