/- Columns and signs: what Column and Sign answer. -/
import Derived.Test.YtfmofjjcgjogjaaDoorCellP
namespace Go.Proofs.YtfmofjjcgjogjaaDoor

theorem chain_pos : ∀ (l : List Cl) (a b : Int), Chain l a b → 0 ≤ cellsOf l
  | [], _, _, _ => by simp [cellsOf]
  | c :: r, _, _, h => by
    have := chain_pos r _ _ h.2
    have := h.1.2.2.2.2.1
    simp only [cellsOf, List.foldr_cons] at *
    omega
theorem col_ok (i : Int) : ∀ (l : List Cl) (a b sum : Int), Chain l a b → b ≤ i → i ≤ lastTo l b → ∃ v, colF i l sum b = (v, 0) ∧ sum ≤ v ∧ v ≤ sum + cellsOf l
  | [], a, b, sum, _, h1, h2 => by
    simp only [lastTo] at h2
    exact ⟨sum, by rw [colF, if_neg (by omega)], by omega, by simp [cellsOf]⟩
  | c :: r, a, b, sum, h, h1, h2 => by
    have hp := chain_pos r _ _ h.2
    obtain ⟨d1, d2, d3, d4, d5, d6, d7, d8⟩ := h.1
    have e : cellsOf (c :: r) = c.cells + cellsOf r := rfl
    rw [e]
    by_cases hc : i < c.to
    · exact ⟨sum, by rw [colF, if_pos hc], by omega, by omega⟩
    · obtain ⟨v, e1, e2, e3⟩ := col_ok i r _ c.to (sum + c.cells) h.2 (by omega) h2
      exact ⟨v, by rw [colF, if_neg hc]; exact e1, by omega, by omega⟩
theorem col_mono (i j : Int) (hij : i ≤ j) : ∀ (l : List Cl) (a b sum : Int), Chain l a b → b ≤ i → j ≤ lastTo l b → (colF i l sum b).1 ≤ (colF j l sum b).1
  | [], a, b, sum, _, h1, h2 => by
    simp only [lastTo] at h2
    rw [colF, colF, if_neg (by omega), if_neg (by omega)]
    exact Int.le_refl _
  | c :: r, a, b, sum, h, h1, h2 => by
    by_cases hc : i < c.to
    · obtain ⟨v, e1, e2, e3⟩ := col_ok j (c :: r) a b sum h (by omega) h2
      rw [e1, colF, if_pos hc]
      exact e2
    · rw [colF, colF, if_neg hc, if_neg (by omega)]
      exact col_mono i j hij r _ c.to (sum + c.cells) h.2 (by omega) h2
theorem col_end : ∀ (l : List Cl) (a b sum : Int), Chain l a b → colF (lastTo l b) l sum b = (sum + cellsOf l, 0)
  | [], a, b, sum, _ => by rw [lastTo, colF, if_neg (by omega)]; simp [cellsOf]
  | c :: r, a, b, sum, h => by
    have := (chain_cells r _ _ h.2).2
    have e : cellsOf (c :: r) = c.cells + cellsOf r := rfl
    rw [lastTo, colF, if_neg (by omega), col_end r _ c.to (sum + c.cells) h.2, e]
    congr 1
    omega
theorem col_past (i : Int) : ∀ (l : List Cl) (a b sum : Int), Chain l a b → lastTo l b < i → colF i l sum b = (0, 1)
  | [], a, b, sum, _, h2 => by simp only [lastTo] at h2; rw [colF, if_pos h2]
  | c :: r, a, b, sum, h, h2 => by
    have := (chain_cells r _ _ h.2).2
    simp only [lastTo] at h2
    rw [colF, if_neg (by omega)]
    exact col_past i r _ c.to (sum + c.cells) h.2 h2
theorem sg_ok (q : Int) : ∀ (l : List Cl) (a b sum : Int), Chain l a b → sum ≤ q → q ≤ sum + cellsOf l → ∃ k, sgF q l sum b = (k, 0) ∧ b ≤ k ∧ k ≤ lastTo l b ∧ ∃ v, colF k l sum b = (v, 0) ∧ v ≤ q ∧ q < v + 2
  | [], a, b, sum, _, h1, h2 => by
    have e : cellsOf [] = 0 := rfl
    rw [e] at h2
    exact ⟨b, by rw [sgF, if_neg (by omega)], by omega, by simp [lastTo], sum, by rw [colF, if_neg (by omega)], by omega, by omega⟩
  | c :: r, a, b, sum, h, h1, h2 => by
    obtain ⟨d1, d2, d3, d4, d5, d6, d7, d8⟩ := h.1
    have hl := (chain_cells r _ _ h.2).2
    have e : cellsOf (c :: r) = c.cells + cellsOf r := rfl
    rw [e] at h2
    by_cases hc : q < sum + c.cells
    · exact ⟨c.fr, by rw [sgF, if_pos hc], by omega, by simp only [lastTo]; omega, sum, by rw [colF, if_pos (by omega)], by omega, by omega⟩
    · obtain ⟨k, e1, e2, e3, v, e4, e5, e6⟩ := sg_ok q r _ c.to (sum + c.cells) h.2 (by omega) (by omega)
      exact ⟨k, by rw [sgF, if_neg hc]; exact e1, by omega, e3, v, by rw [colF, if_neg (by omega)]; exact e4, e5, e6⟩
theorem sg_past (q : Int) : ∀ (l : List Cl) (a b sum : Int), Chain l a b → sum + cellsOf l < q → sgF q l sum b = (0, 1)
  | [], a, b, sum, _, h2 => by
    have e : cellsOf [] = 0 := rfl
    rw [e] at h2
    rw [sgF, if_pos (by omega)]
  | c :: r, a, b, sum, h, h2 => by
    have hp := chain_pos r _ _ h.2
    have e : cellsOf (c :: r) = c.cells + cellsOf r := rfl
    rw [e] at h2
    rw [sgF, if_neg (by omega)]
    exact sg_past q r _ c.to (sum + c.cells) h.2 (by omega)

/-- The column of a sign. -/
def colI (s : ByteArray) (i : Int) : Int := (columnR s i).1
theorem column_in (s : ByteArray) (i : Int) (h1 : 0 ≤ i) (h2 : i ≤ cnt s) : columnR s i = (colI s i, 0) ∧ 0 ≤ colI s i ∧ colI s i ≤ ofI s := by
  obtain ⟨c1, c2, c3⟩ := clusters_chain s
  obtain ⟨v, e1, e2, e3⟩ := col_ok i (clusters s) 0 0 0 c1 h1 (by omega)
  have e : columnR s i = (v, 0) := by rw [columnR, if_neg (by omega)]; exact e1
  unfold colI
  rw [e]
  refine ⟨rfl, e2, ?_⟩
  unfold ofI
  simpa using e3
theorem column_mono (s : ByteArray) (i j : Int) (h1 : 0 ≤ i) (hij : i ≤ j) (h2 : j ≤ cnt s) : colI s i ≤ colI s j := by
  obtain ⟨c1, c2, c3⟩ := clusters_chain s
  unfold colI
  rw [columnR, columnR, if_neg (by omega), if_neg (by omega)]
  exact col_mono i j hij (clusters s) 0 0 0 c1 h1 (by omega)
theorem column_end (s : ByteArray) : colI s (cnt s) = ofI s := by
  obtain ⟨c1, c2, c3⟩ := clusters_chain s
  have := col_end (clusters s) 0 0 0 c1
  unfold colI ofI
  rw [columnR, if_neg (by omega), ← c3, this]
  simp
theorem column_past (s : ByteArray) : columnR s (cnt s + 1) = (0, 1) := by
  obtain ⟨c1, c2, c3⟩ := clusters_chain s
  rw [columnR, if_neg (by omega)]
  exact col_past _ (clusters s) 0 0 0 c1 (by omega)
theorem sign_past (s : ByteArray) : signR s (ofI s + 1) = (0, 1) := by
  obtain ⟨c1, c2, c3⟩ := clusters_chain s
  have := (ofI_bd s).1
  rw [signR, if_neg (by omega)]
  exact sg_past _ (clusters s) 0 0 0 c1 (by unfold ofI; omega)
theorem sign_in (s : ByteArray) (q : Int) (h1 : 0 ≤ q) (h2 : q ≤ ofI s) : ∃ k, signR s q = (k, 0) ∧ 0 ≤ k ∧ k ≤ cnt s ∧ colI s k ≤ q ∧ q < colI s k + 2 := by
  obtain ⟨c1, c2, c3⟩ := clusters_chain s
  obtain ⟨k, e1, e2, e3, v, e4, e5, e6⟩ := sg_ok q (clusters s) 0 0 0 c1 h1 (by unfold ofI at h2; omega)
  have e : columnR s k = (v, 0) := by rw [columnR, if_neg (by omega)]; exact e4
  refine ⟨k, by rw [signR, if_neg (by omega)]; exact e1, e2, by omega, ?_, ?_⟩
  · unfold colI; rw [e]; exact e5
  · unfold colI; rw [e]; exact e6

end Go.Proofs.YtfmofjjcgjogjaaDoor
