/- A region that draws its order, with calls that only grow the memory: one walk of the lexical order serves every order. -/
import Derived.Test.YtipnefaggpigfaaSoA
namespace Go.Proofs.Ytipnefaggpigfaa
open Go.RowKit

/-- A world that has grown out of another one. -/
structure GrownQ (W : World) where
  V : World
  h : Below W.heap.size W V
instance (W : World) : Nonempty (GrownQ W) := ⟨⟨W, Below.refl _ _⟩⟩
theorem region_grown {P : Program} {id : Nat} {Q : Exit → Act → World → Prop} {a : Act} {lst : List Oper} (W : World) (w : World) (hm : P.follows .mixedOrders = true) (hB : Region.lexB .any lst.toArray = true)
    (hb : Below W.heap.size W w) (h : wpQuiet P lst.toArray (fun V => ∃ q : GrownQ W, V = q.V) (fun a' => ∀ w', (∃ q : GrownQ W, w' = q.V) → Q .normal a' w') lst a) : (Code.region id lst.toArray true).wp P Q a w :=
  wp_region_quiet (C := fun V => ∃ q : GrownQ W, V = q.V) hm hB ⟨⟨w.drewN 1, below_dnS hb 1⟩, rfl⟩ h
end Go.Proofs.Ytipnefaggpigfaa
