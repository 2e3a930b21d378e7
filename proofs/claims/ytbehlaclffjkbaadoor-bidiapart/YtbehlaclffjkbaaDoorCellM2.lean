/- How many clusters, how many cells. -/
import Derived.Test.YtbehlaclffjkbaaDoorCellM
namespace Go.Proofs.YtbehlaclffjkbaaDoor

theorem clusF_length (s : ByteArray) : ∀ b pos g, (clusF s b pos g).length ≤ b
  | 0, _, _ => by simp [clusF]
  | b + 1, pos, g => by
    unfold clusF
    have h1 := clusF_length s b (pos + (Utf8.decode s pos).2) (g.add (Utf8.decode s pos).1)
    have h2 := clusF_length s b (pos + (Utf8.decode s pos).2) (.begin pos g.to (Utf8.decode s pos).1)
    repeat' split
    all_goals simp
    all_goals omega
theorem clusters_length (s : ByteArray) : (clusters s).length ≤ s.size + 1 := clusF_length s _ _ _
theorem clusF_cells (s : ByteArray) : ∀ b pos g, 0 ≤ g.cells → g.cells ≤ 2 → ∀ c ∈ clusF s b pos g, 0 ≤ c.cells ∧ c.cells ≤ 2
  | 0, _, _, _, _ => by simp [clusF]
  | b + 1, pos, g, h1, h2 => by
    have e1 := clusF_cells s b (pos + (Utf8.decode s pos).2) (g.add (Utf8.decode s pos).1) (by simp only [Gr.add]; split <;> omega) (by simp only [Gr.add]; split <;> omega)
    have hw := widthI_bd (Utf8.decode s pos).1
    have e2 := clusF_cells s b (pos + (Utf8.decode s pos).2) (.begin pos g.to (Utf8.decode s pos).1) hw.1 hw.2
    unfold clusF
    intro c hc
    repeat' split at hc
    · exact e1 c hc
    · rcases List.mem_cons.1 hc with rfl | hc
      · exact ⟨h1, h2⟩
      · exact e2 c hc
    · exact e2 c hc
    · simp at hc
    · rcases List.mem_singleton.1 hc with rfl
      exact ⟨h1, h2⟩
theorem clusters_cells (s : ByteArray) : ∀ c ∈ clusters s, 0 ≤ c.cells ∧ c.cells ≤ 2 := clusF_cells s _ _ _ (by decide) (by decide)
theorem cellsOf_append (l m : List Cl) : cellsOf (l ++ m) = cellsOf l + cellsOf m := by
  induction l with
  | nil => simp [cellsOf]
  | cons c r ih =>
    simp only [cellsOf, List.cons_append, List.foldr_cons] at *
    omega
theorem cellsOf_snoc (l : List Cl) (x : Cl) : cellsOf (l ++ [x]) = cellsOf l + x.cells := by rw [cellsOf_append]; simp [cellsOf]
theorem cellsOf_bd (l : List Cl) (h : ∀ c ∈ l, 0 ≤ c.cells ∧ c.cells ≤ 2) : 0 ≤ cellsOf l ∧ cellsOf l ≤ 2 * l.length := by
  induction l with
  | nil => simp [cellsOf]
  | cons c r ih =>
    have := ih (fun d hd => h d (List.mem_cons_of_mem _ hd))
    have := h c (List.mem_cons_self ..)
    simp only [cellsOf, List.foldr_cons, List.length_cons] at *
    omega
/-- What a round may know of what has come and of what comes. -/
theorem front_bd {s : ByteArray} {pre : List Cl} {x : Cl} (h : pre ++ [x] <+: clusters s) : (0 ≤ cellsOf pre ∧ cellsOf pre ≤ 2 * (s.size + 1)) ∧ 0 ≤ x.cells ∧ x.cells ≤ 2 := by
  have hc := clusters_cells s
  have hl := clusters_length s
  have hlen := h.length_le
  have hm : ∀ c ∈ pre ++ [x], c ∈ clusters s := fun c hc => h.subset hc
  have hp := cellsOf_bd pre (fun c hcp => hc c (hm c (by simp [hcp])))
  have hx := hc x (hm x (by simp))
  simp at hlen
  omega
theorem ofI_bd (s : ByteArray) : 0 ≤ ofI s ∧ ofI s ≤ 2 * (s.size + 1) := by
  have := cellsOf_bd _ (clusters_cells s)
  have := clusters_length s
  unfold ofI
  omega

end Go.Proofs.YtbehlaclffjkbaaDoor
