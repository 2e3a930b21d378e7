import Derived.Test.YtlkgnheccoodpaaGreatDoorG3
import Derived.Test.YtlkgnheccoodpaaGreatDoorGR
namespace Go.Proofs.YtlkgnheccoodpaaGreatDoor
open Go.RowKit Go.Shelf
attribute [local go_sem] Oper.semAt_some
structure LnW (U : World) (sb tb base : Nat) (s : ByteArray) (v : Value) (n : Nat) (xs : List Value) (q A B : Nat) : Prop where
 sbx : Boxed U sb 9 (.string s)
 tbx : Boxed U tb 155 v
 ow : U.ownsRow base 9 1 v n xs
 bg : U.cell? ⟨q, 0, none⟩ = some (.int .i64 (A : Nat))
 xc : U.cell? ⟨q + 1, 1, none⟩ = some (.int .i64 (B : Nat))
 lt : q + 1 < U.heap.size
 hs : sb < base
 hq : ∀ k, v.ownBlock = some k → k < q
theorem LnW.step {U U' : World} {sb tb base : Nat} {s : ByteArray} {v : Value} {n : Nat} {xs : List Value} {q A B : Nat} (h : LnW U sb tb base s v n xs q A B) (b : Below U.heap.size U U') : LnW U' sb tb base s v n xs q A B :=
 ⟨(b.block _ h.sbx.lt).trans h.sbx, (b.block _ h.tbx.lt).trans h.tbx, ownsRow_keeps (m := 0) h.ow (Keeps.of_below b), (b.cell (p := ⟨q, 0, none⟩) (by have := h.lt; show q < _; omega)).trans h.bg, (b.cell (p := ⟨q + 1, 1, none⟩) h.lt).trans h.xc, Nat.lt_of_lt_of_le h.lt b.size, h.hs, h.hq⟩
theorem LnW.grow {U U' : World} {sb tb base : Nat} {s : ByteArray} {v : Value} {n : Nat} {xs : List Value} {q A B : Nat} (h : LnW U sb tb base s v n xs q A B) (g : U.grownBy U' v.ownBlock) :
  Boxed U' sb 9 (.string s) ∧ Boxed U' tb 155 v ∧ U'.cell? ⟨q, 0, none⟩ = some (.int .i64 (A : Nat)) ∧ U'.cell? ⟨q + 1, 1, none⟩ = some (.int .i64 (B : Nat)) := by
 have hl := h.lt
 refine ⟨(g.block _ h.sbx.lt ?_).trans h.sbx, (g.block _ h.tbx.lt (row_apart h.ow h.tbx (by decide))).trans h.tbx, (World.cell?_of_block (g.block q (by omega) ?_)).trans h.bg, (World.cell?_of_block (g.block (q + 1) hl ?_)).trans h.xc⟩
 ·intro e
  have := (h.ow.lt _ e.symm).1
  have := h.hs
  omega
 ·intro e
  have := h.hq _ e.symm
  omega
 ·intro e
  have := h.hq _ e.symm
  omega
end Go.Proofs.YtlkgnheccoodpaaGreatDoor
