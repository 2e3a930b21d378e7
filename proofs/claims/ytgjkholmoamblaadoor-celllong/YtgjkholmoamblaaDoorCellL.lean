/- A list of clusters in memory, read by places. -/
import Derived.Test.YtgjkholmoamblaaDoorCellA
import Derived.Test.YtgjkholmoamblaaDoorCellM3
namespace Go.Proofs.YtgjkholmoamblaaDoor
open Go.RowKit Go.Shelf

theorem flatC_length (l : List Cl) : (flatC l).length = l.length * 5 := by
  induction l with
  | nil => rfl
  | cons c r ih => simp only [flatC, List.flatMap_cons, List.length_append, List.length_cons, List.length_nil] at *; omega
theorem flatC_get : ∀ (l : List Cl) (i : Nat) (c : Cl), l[i]? = some c → (flatC l)[i * 5]? = some (.int .i64 c.loc) ∧ (flatC l)[i * 5 + 1]? = some (.int .i64 c.len) ∧ (flatC l)[i * 5 + 2]? = some (.int .i64 c.fr) ∧ (flatC l)[i * 5 + 3]? = some (.int .i64 c.to) ∧ (flatC l)[i * 5 + 4]? = some (.int .i64 c.cells)
  | [], i, c, h => by simp at h
  | d :: r, 0, c, h => by
    simp at h
    subst h
    simp [flatC]
  | d :: r, i + 1, c, h => by
    have ih := flatC_get r i c (by simpa using h)
    have e : flatC (d :: r) = [.int .i64 d.loc, .int .i64 d.len, .int .i64 d.fr, .int .i64 d.to, .int .i64 d.cells] ++ flatC r := rfl
    have g : ∀ k, (flatC (d :: r))[(i + 1) * 5 + k]? = (flatC r)[i * 5 + k]? := fun k => by
      rw [e, List.getElem?_append_right (by simp; omega)]
      congr 1
      simp
      omega
    have g0 := g 0
    simp only [Nat.add_zero] at g0
    rw [g0, g 1, g 2, g 3, g 4]
    exact ih

/-- The list l lies at v. -/
def ListC (W : World) (v : Value) (l : List Cl) : Prop := (v = .slice none 0 0 ∧ l = []) ∨ ∃ g cap, v = .slice (some ⟨g, 0, none⟩) l.length cap ∧ g < W.heap.size ∧ l.length ≤ cap ∧ cap ≤ maxLen ∧
  ∀ i c, l[i]? = some c → W.cell? ⟨g, i * 5, none⟩ = some (.int .i64 c.loc) ∧ W.cell? ⟨g, i * 5 + 1, none⟩ = some (.int .i64 c.len) ∧ W.cell? ⟨g, i * 5 + 2, none⟩ = some (.int .i64 c.fr) ∧ W.cell? ⟨g, i * 5 + 3, none⟩ = some (.int .i64 c.to) ∧ W.cell? ⟨g, i * 5 + 4, none⟩ = some (.int .i64 c.cells)
theorem listC_of {W : World} {base : Nat} {v : Value} {l : List Cl} (h : W.ownsRow base 34 5 v l.length (flatC l)) : ListC W v l := by
  rcases h.2 with ⟨h1, h2⟩ | ⟨g, cap, cur, rfl, hb, hg, h3, h4, h5, h6⟩
  · exact .inl ⟨h1, List.length_eq_zero_iff.1 h2⟩
  · refine .inr ⟨g, cap, rfl, (Array.getElem?_eq_some_iff.1 hg).1, h3, h4, fun i c hc => ?_⟩
    have hi : i < l.length := (List.getElem?_eq_some_iff.1 hc).1
    have key : ∀ k, i * 5 + k < l.length * 5 → W.cell? ⟨g, i * 5 + k, none⟩ = (flatC l)[i * 5 + k]? := fun k hk => by
      rw [← h6, List.getElem?_take, if_pos hk]
      simp [World.cell?, hg]
    obtain ⟨e0, e1, e2, e3, e4⟩ := flatC_get l i c hc
    refine ⟨?_, (key 1 (by omega)).trans e1, (key 2 (by omega)).trans e2, (key 3 (by omega)).trans e3, (key 4 (by omega)).trans e4⟩
    have := key 0 (by omega)
    simp only [Nat.add_zero] at this
    exact this.trans e0
theorem ListC.below {A B : World} {v : Value} {l : List Cl} (h : ListC A v l) (hb : Below A.heap.size A B) : ListC B v l := by
  rcases h with h | ⟨g, cap, rfl, h1, h2, h3, h4⟩
  · exact .inl h
  · refine .inr ⟨g, cap, rfl, Nat.lt_of_lt_of_le h1 hb.size, h2, h3, fun i c hc => ?_⟩
    obtain ⟨e0, e1, e2, e3, e4⟩ := h4 i c hc
    exact ⟨(hb.cell (p := ⟨g, _, none⟩) h1).trans e0, (hb.cell (p := ⟨g, _, none⟩) h1).trans e1, (hb.cell (p := ⟨g, _, none⟩) h1).trans e2, (hb.cell (p := ⟨g, _, none⟩) h1).trans e3, (hb.cell (p := ⟨g, _, none⟩) h1).trans e4⟩

end Go.Proofs.YtgjkholmoamblaaDoor
