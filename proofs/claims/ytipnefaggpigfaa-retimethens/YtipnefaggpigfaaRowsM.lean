/- Rows of ratios: their memory; what Sum, Least and Most tell of them. -/
import Derived.Test.YtipnefaggpigfaaRatT
import Derived.Test.YtipnefaggpigfaaRefA8
import Derived.Test.YtipnefaggpigfaaRefB4
namespace Go.Proofs.Ytipnefaggpigfaa
open Go.RowKit Go.Shelf

/-- Ratios that lie one behind the other. -/
def RowAt (l : List Rt) (a : Addr) (V : World) : Prop := a.block < V.heap.size ∧ ∀ (i : Nat) (p : Rt), l[i]? = some p → V.cell? (a.add (i * 2)) = some (.int .i64 p.N) ∧ V.cell? (a.add (i * 2 + 1)) = some (.int .i64 p.D)
theorem addr_block (a : Addr) (n : Nat) : (a.add n).block = a.block := by unfold Addr.add; split <;> rfl
theorem addr_next (a : Addr) (n : Nat) : a.add (n + 1) = ⟨(a.add n).block, (a.add n).off + 1, none⟩ := by
  unfold Addr.add
  by_cases h : n = 0
  · subst h; rfl
  · simp [h]; omega
theorem RowAt.keep {l : List Rt} {a : Addr} {V V2 : World} (h : RowAt l a V) (b : Below V.heap.size V V2) : RowAt l a V2 :=
  ⟨Nat.lt_of_lt_of_le h.1 b.size, fun i p hp => ⟨(b.cell (p := a.add (i * 2)) (by rw [addr_block]; exact h.1)).trans (h.2 i p hp).1, (b.cell (p := a.add (i * 2 + 1)) (by rw [addr_block]; exact h.1)).trans (h.2 i p hp).2⟩⟩
theorem RowAt.pair {l : List Rt} {a : Addr} {V : World} (h : RowAt l a V) {i : Nat} {p : Rt} (hp : l[i]? = some p) : V.cell? (a.add (i * 2)) = some (.int .i64 p.N) ∧ V.cell? ⟨(a.add (i * 2)).block, (a.add (i * 2)).off + 1, none⟩ = some (.int .i64 p.D) := by
  obtain ⟨h1, h2⟩ := h.2 i p hp
  rw [addr_next] at h2
  exact ⟨h1, h2⟩
theorem RowAt.alloc {l : List Rt} {a : Addr} {V : World} (h : RowAt l a V) (o : Obj) : RowAt l a (V.alloc o) := h.keep (bel1 V o)
theorem RowAt.old {l : List Rt} {a : Addr} {w V : World} (h : RowAt l a w) (b : Below w.heap.size w V) : RowAt l a V := h.keep b

/-- What Sum tells. -/
def sumF (s : Rt) : List Rt → Rt × Int
  | [] => (s, 0)
  | r :: t => if (addA s r).2 = 0 then sumF (addA s r).1 t else (⟨0, 0⟩, (addA s r).2)
def sumA (l : List Rt) : Rt × Int := sumF ⟨0, 1⟩ l
theorem sumF_step {l : List Rt} {k : Nat} {p : Rt} (hp : l[k]? = some p) (s : Rt) : sumF s (l.drop k) = if (addA s p).2 = 0 then sumF (addA s p).1 (l.drop (k + 1)) else (⟨0, 0⟩, (addA s p).2) := by
  obtain ⟨hk, e⟩ := List.getElem?_eq_some_iff.1 hp
  rw [List.drop_eq_getElem_cons hk, e]
  rfl
theorem sumF_end (l : List Rt) (s : Rt) : sumF s (l.drop l.length) = (s, 0) := by rw [List.drop_length]; rfl
theorem low_in (q : Rat) : RtIn (low q).1 := by
  unfold low
  by_cases h : fitsQ q = true
  · rw [if_pos h]
    have h2 : _ := of_decide_eq_true h
    unfold RtIn I64
    simp only
    omega
  · rw [if_neg h]
    exact ⟨⟨by simp, by simp⟩, ⟨by simp, by simp⟩⟩
theorem addA_in (a b : Rt) : RtIn (addA a b).1 := by
  unfold addA
  split
  · exact low_in _
  · exact ⟨⟨by simp [bad], by simp [bad]⟩, ⟨by simp [bad], by simp [bad]⟩⟩
/-- What Least and Most tell. -/
def bestF (side : Int) (b : Rt) : List Rt → Rt
  | [] => b
  | r :: t => bestF side (if cmpI r b = side then r else b) t
def bestA (side : Int) (l : List Rt) : Rt × Bool := match l with
  | [] => (⟨0, 0⟩, false)
  | b :: t => (bestF side b t, true)
theorem bestF_step {l : List Rt} {k : Nat} {p : Rt} (hp : l[k]? = some p) (side : Int) (b : Rt) : bestF side b (l.drop k) = bestF side (if cmpI p b = side then p else b) (l.drop (k + 1)) := by
  obtain ⟨hk, e⟩ := List.getElem?_eq_some_iff.1 hp
  rw [List.drop_eq_getElem_cons hk, e]
  rfl
theorem bestF_end (l : List Rt) (side : Int) (b : Rt) : bestF side b (l.drop l.length) = b := by rw [List.drop_length]; rfl
end Go.Proofs.Ytipnefaggpigfaa
