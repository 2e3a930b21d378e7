/- The contract of the statements' own all: the clusters that cell.Clusters goes over, as a list. -/
import Derived.Test.YtbehlaclffjkbaaDoorCellK
import Derived.Maps.AppendAt
namespace Go.Proofs.YtbehlaclffjkbaaDoor
open Go.RowKit Go.Shelf
attribute [local go_sem] Oper.semAt_some

/-- Clusters as the cells of a list. -/
def flatC (l : List Cl) : List Value := l.flatMap fun x => [.int .i64 x.loc, .int .i64 x.len, .int .i64 x.fr, .int .i64 x.to, .int .i64 x.cells]
theorem flatC_snoc (l : List Cl) (x : Cl) : flatC (l ++ [x]) = flatC l ++ [.int .i64 x.loc, .int .i64 x.len, .int .i64 x.fr, .int .i64 x.to, .int .i64 x.cells] := by simp [flatC]
theorem infoCl : (Tryd.prog.info? 39).map (fun i => (i.zero, i.size, i.bytes)) = some (some (.agg #[.int .i64 0, .int .i64 0, .int .i64 0, .int .i64 0, .int .i64 0]), 5, 40) := by kernel_rfl
theorem info_partsC {P : Program} {t : TypeId} {z : Option Value} {a b : Nat} (h : (P.info? t).map (fun i => (i.zero, i.size, i.bytes)) = some (z, a, b)) : ∃ i, P.info? t = some i ∧ i.zero = z ∧ i.size = a ∧ i.bytes = b := by
  obtain ⟨i, hi, e⟩ := Option.map_eq_some_iff.1 h
  simp only [Prod.mk.injEq] at e
  exact ⟨i, hi, e.1, e.2.1, e.2.2⟩
theorem cell_five_new (w : World) (a b c d f : Value) (t : TypeId) : ∀ j u, [a, b, c, d, f][j]? = some u → (w.alloc (.cells #[a, b, c, d, f] t)).cell? ((⟨w.heap.size, 0, none⟩ : Addr).add j) = some u := by
  intro j u hj
  match j, hj with
  | 0, hj => simp at hj; subst hj; simp [Addr.add]
  | 1, hj => simp at hj; subst hj; simp [Addr.add]
  | 2, hj => simp at hj; subst hj; simp [Addr.add]
  | 3, hj => simp at hj; subst hj; simp [Addr.add]
  | 4, hj => simp at hj; subst hj; simp [Addr.add]
  | j + 5, hj => simp at hj
theorem ownsRow_keeps {A B : World} {m hi : Nat} {e : TypeId} {size : Nat} {v : Value} {n : Nat} {xs : List Value} (h : A.ownsRow hi e size v n xs) (hk : Keeps m hi A B) : B.ownsRow hi e size v n xs := by
  refine ⟨h.1, ?_⟩
  rcases h.2 with hn | ⟨g, cap, cur, rfl, hb, hgg, rest⟩
  · exact .inl hn
  · exact .inr ⟨g, cap, cur, rfl, hb, (hk.same g (Array.getElem?_eq_some_iff.1 hgg).1 (.inr hb)).trans hgg, rest⟩
theorem ownsRow_from {A : World} {m hi : Nat} {e : TypeId} {size : Nat} {v : Value} {n : Nat} {xs : List Value} (h : A.ownsRow hi e size v n xs) (hm : m ≤ hi) : A.ownsRow m e size v n xs := by
  refine ⟨h.1, ?_⟩
  rcases h.2 with hn | ⟨g, cap, cur, rfl, hb, rest⟩
  · exact .inl hn
  · exact .inr ⟨g, cap, cur, rfl, by omega, rest⟩
theorem ownsRow_putObjC {A : World} {hi D : Nat} {e : TypeId} {size : Nat} {v : Value} {n : Nat} {xs : List Value} {o : Option (List Deferred)} {o' : Obj} (h : A.ownsRow hi e size v n xs) (hD : A.heap[D]? = some (.deferred o)) : (A.putObj D o').ownsRow hi e size v n xs := by
  refine ⟨h.1, ?_⟩
  rcases h.2 with hn | ⟨g, cap, cur, rfl, hb, hgg, rest⟩
  · exact .inl hn
  · refine .inr ⟨g, cap, cur, rfl, hb, (World.putObj_heap_other (fun e => ?_)).trans hgg, rest⟩
    subst e
    rw [hgg] at hD
    cases hD
theorem but_grown {M : Nat → Prop} {A B : World} {row : Option Nat} (h : A.grownBy B row) (hr : ∀ k, row = some k → M k) : But M A B := ⟨h.os, h.tape, h.output, h.size, fun k hk hm => h.block k hk (fun e => hm (hr k e.symm))⟩

end Go.Proofs.YtbehlaclffjkbaaDoor
