/- A row of ratios in a block of its own. -/
import Derived.Test.YtmofjkfghidlnaaDoorRowsZ
import Derived.OwnWalk
import Derived.Deep.DeepAppendRoom
namespace Go.Proofs.YtmofjkfghidlnaaDoor
open Go.RowKit Go.Shelf
attribute [local go_sem] Oper.semAt_some

def flatR : List Rt → List Value
  | [] => []
  | p :: t => .int .i64 p.N :: .int .i64 p.D :: flatR t
theorem flatR_length : ∀ l : List Rt, (flatR l).length = l.length * 2
  | [] => rfl
  | p :: t => by simp [flatR, flatR_length t]; omega
theorem flatR_get : ∀ (l : List Rt) (i : Nat) (p : Rt), l[i]? = some p → (flatR l)[i * 2]? = some (.int .i64 p.N) ∧ (flatR l)[i * 2 + 1]? = some (.int .i64 p.D)
  | [], i, p, h => by simp at h
  | q :: t, 0, p, h => by
    simp at h
    subst h
    exact ⟨rfl, rfl⟩
  | q :: t, i + 1, p, h => by
    have := flatR_get t i p (by simpa using h)
    have e1 : (i + 1) * 2 = i * 2 + 1 + 1 := by omega
    rw [e1]
    exact ⟨by simpa [flatR] using this.1, by simpa [flatR] using this.2⟩
theorem flatR_one : ∀ (l : List Rt), ∀ u ∈ flatR l, u.oneCell' = true
  | [], u, h => by simp [flatR] at h
  | p :: t, u, h => by
    simp only [flatR, List.mem_cons] at h
    rcases h with rfl | rfl | h
    · rfl
    · rfl
    · exact flatR_one t u h
theorem RowAt.flat {l : List Rt} {a : Addr} {V : World} (h : RowAt l a V) (j : Nat) (u : Value) (hu : (flatR l)[j]? = some u) : V.cell? (a.add j) = some u := by
  have hj : j < l.length * 2 := by rw [← flatR_length]; exact (List.getElem?_eq_some_iff.1 hu).1
  obtain ⟨p, hp⟩ : ∃ p, l[j / 2]? = some p := ⟨_, List.getElem?_eq_getElem (by omega)⟩
  obtain ⟨g0, g1⟩ := flatR_get l _ p hp
  obtain ⟨c0, c1⟩ := h.2 _ p hp
  by_cases hm : j % 2 = 0
  · have e : j / 2 * 2 = j := by omega
    rw [e] at g0 c0
    rw [c0, ← g0, hu]
  · have e : j / 2 * 2 + 1 = j := by omega
    rw [e] at g1 c1
    rw [c1, ← g1, hu]

/-- What lies in a block's first cells, all of them free. -/
def Own (V : World) (g N : Nat) (C : Nat → Value) : Prop := g < V.heap.size ∧ ∀ i, i < N → V.cell? ⟨g, i, none⟩ = some (C i) ∧ V.frozen? ⟨g, i, none⟩ = false
theorem Own.keep {V V2 : World} {g N : Nat} {C : Nat → Value} (h : Own V g N C) (b : Below V.heap.size V V2) : Own V2 g N C :=
  ⟨Nat.lt_of_lt_of_le h.1 b.size, fun i hi => ⟨(b.cell (p := ⟨g, i, none⟩) h.1).trans (h.2 i hi).1, (b.frozen (p := ⟨g, i, none⟩) h.1).trans (h.2 i hi).2⟩⟩
def upd (C : Nat → Value) (j : Nat) (v : Value) : Nat → Value := fun i => if i = j then v else C i
theorem Own.put {V : World} {g N j : Nat} {C : Nat → Value} {v : Value} (h : Own V g N C) (hj : j < N) : Own (V.setCell ⟨g, j, none⟩ v) g N (upd C j v) := by
  refine ⟨by simpa using h.1, fun i hi => ?_⟩
  obtain ⟨c0, f0⟩ := h.2 i hi
  obtain ⟨cj, fj⟩ := h.2 j hj
  unfold upd
  by_cases e : i = j
  · subst e
    rw [if_pos rfl]
    exact ⟨by go_simp, by go_simp⟩
  · rw [if_neg e]
    have ne : j ≠ i := fun h => e h.symm
    exact ⟨by go_simp, by go_simp⟩
theorem own_of_block {V : World} {g N : Nat} {cur : Array Value} {t : TypeId} (h : V.heap[g]? = some (.cells cur t (0, 0))) (hn : cur.size = N) : Own V g N (fun i => (cur[i]?).getD (.bool false)) := by
  refine ⟨(Array.getElem?_eq_some_iff.1 h).1, fun i hi => ⟨?_, ?_⟩⟩
  · have hi2 : i < cur.size := by omega
    simp [World.cell?, h, hi2]
  · simp [World.frozen?, h]
end Go.Proofs.YtmofjkfghidlnaaDoor
