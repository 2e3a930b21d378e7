/- Contracts of surtitleref3: Plus, Less. -/
import Derived.Test.YteekkbhgphbblaaRefA2
namespace Go.Proofs.Yteekkbhgphbblaa
open Go.RowKit Go.Shelf
attribute [local go_sem] Oper.semAt_some

/-- The three blocks of Plus. -/
def Tri3 (B : Nat) (na nb : Bool) (ah al bh bl : Int) (V : World) : Prop := Tri V B na ah al ∧ Tri V (B + 1) nb bh bl ∧ Tri V (B + 1 + 1) false 0 0
theorem Tri3.keep {B : Nat} {na nb : Bool} {ah al bh bl : Int} {V V2 : World} (h : Tri3 B na nb ah al bh bl V) (b : Below V.heap.size V V2) : Tri3 B na nb ah al bh bl V2 := ⟨h.1.keep b, h.2.1.keep b, h.2.2.keep b⟩
theorem above_dec (x y : Int) (hx : 0 ≤ x ∧ x < 340282366920938463463374607431768211456) (hy : 0 ≤ y ∧ y < 340282366920938463463374607431768211456) : decide (hiZ y < hiZ x ∨ (hiZ x = hiZ y ∧ loZ y < loZ x)) = decide (y < x) :=
  decide_eq_decide.2 (by unfold hiZ loZ; omega)
theorem sz_nonneg (a : Int) : 0 ≤ sz a := by unfold sz; omega
end Go.Proofs.Yteekkbhgphbblaa
