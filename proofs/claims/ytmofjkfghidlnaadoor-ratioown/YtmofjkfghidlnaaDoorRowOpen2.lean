/- A row of ratios that is handed in, opened: with what is told of one that is nil. -/
import Derived.Test.YtmofjkfghidlnaaDoorRatOpen
import Derived.Test.YtmofjkfghidlnaaDoorRowsM
import Derived.Deep.SlicePairs
namespace Go.Proofs.YtmofjkfghidlnaaDoor
open Go.ChangeShapes Go.WideShapes Go.ChangeAt Go.RowKit Go.Joins

set_option maxRecDepth 100000 in
theorem open_row2 {H : Type} {enc : TypeId × Value → H} {W : World} {b0 : Nat} {v : Value} {d : DataW H} {p : List MemPlace}
    (hv : Value.okWide Tryd.prog W .any b0 39 v) (h : DataW.Trod enc Tryd.prog W 0 (fun _ => true) true 39 v d p) :
    ∃ (l : List Rt) (o : Option Addr) (cap : Nat), v = .slice o l.length cap ∧ (∀ p ∈ l, RtIn p) ∧ (l.length ≤ cap ∧ cap ≤ maxLen) ∧ ((∀ (k : Nat) (p : Rt), l[k]? = some p → ∃ a, o = some a ∧ RowAt l a W) ∧ (o = none → cap = 0)) := by
  obtain ⟨o, len, cap, rfl⟩ := okWide_slice Tryd.underlying39 hv
  obtain ⟨fuel, hf⟩ := h
  rcases Deep.open_slice_pairs Tryd.underlying39 Tryd.underlying26 cellsRt rfl rfl (by kernel_rfl) (by kernel_rfl) hf with ⟨hcs, _⟩ | ⟨a, len', cap', m, n, V0, V1, D0, D1, P0, P1, hcs, _, hl, hm, hmm, hx, hel⟩
  · simp [Value.cells] at hcs
    obtain ⟨rfl, rfl, rfl⟩ := hcs
    exact ⟨[], none, 0, rfl, by simp, ⟨by simp, by decide⟩, by simp, fun _ => rfl⟩
  · simp [Value.cells] at hcs
    obtain ⟨rfl, rfl, rfl⟩ := hcs
    have hlm : len ≤ m := by rw [hmm]; split <;> omega
    have key : ∀ i, i < len → ∃ q : Rt, V0 i = .int .i64 q.N ∧ V1 i = .int .i64 q.D ∧ RtIn q ∧ W.cell? (a.add (i * 2)) = some (.int .i64 q.N) ∧ W.cell? (a.add (i * 2 + 1)) = some (.int .i64 q.D) := by
      intro i hi
      obtain ⟨e0, e1, t0, t1⟩ := hel i (by omega)
      obtain ⟨k0, a0, _, w0⟩ := DataW.trod_int Tryd.underlying2 t0
      obtain ⟨k1, a1, _, w1⟩ := DataW.trod_int Tryd.underlying2 t1
      simp at a0 a1
      exact ⟨⟨k0, k1⟩, a0, a1, ⟨i64_of w0, i64_of w1⟩, by rw [e0, a0], by rw [e1, a1]⟩
    have hb : 0 < len → a.block < W.heap.size := by
      intro h0
      obtain ⟨q, _, _, _, c0, _⟩ := key 0 h0
      refine Nat.lt_of_not_le fun e => ?_
      have : W.heap[a.block]? = none := Array.getElem?_eq_none e
      rw [show a.add (0 * 2) = a from rfl] at c0
      simp [World.cell?, this] at c0
    refine ⟨(List.range len).map fun i => (⟨intOf (V0 i), intOf (V1 i)⟩ : Rt), some a, cap, by simp, ?_, ⟨by simpa using hl, hm⟩, ?_, fun h => by cases h⟩
    · intro p hp
      simp only [List.mem_map, List.mem_range] at hp
      obtain ⟨i, hi, rfl⟩ := hp
      obtain ⟨q, e0, e1, hq, _, _⟩ := key i hi
      rw [e0, e1]
      exact hq
    · intro k p hp
      have hk : k < len := by
        have := (List.getElem?_eq_some_iff.1 hp).1
        simpa using this
      refine ⟨a, rfl, hb (by omega), fun i r hr => ?_⟩
      have hi : i < len := by
        have := (List.getElem?_eq_some_iff.1 hr).1
        simpa using this
      obtain ⟨q, e0, e1, _, c0, c1⟩ := key i hi
      have er : r = q := by
        rw [List.getElem?_map, List.getElem?_range hi] at hr
        simp only [Option.map_some, Option.some.injEq] at hr
        rw [← hr, e0, e1]
        rfl
      rw [er]
      exact ⟨c0, c1⟩
end Go.Proofs.YtmofjkfghidlnaaDoor
