/- The contract of surtitleref3.Div. -/
import Derived.Test.YtiebmglbnlhdpaaGreatDoorRefA8
import Derived.Deep.RegionHeld3
namespace Go.Proofs.YtiebmglbnlhdpaaGreatDoor
open Go.RowKit Go.Shelf
attribute [local go_sem] Oper.semAt_some

theorem s33 {V : World} {A B : Nat} {n n2 : Bool} {h l h2 l2 : Int} (t : Tri V A n h l) (u : Tri V B n2 h2 l2) : V.cell? ⟨A, 0, none⟩ = some (.bool n) ∧ V.cell? ⟨A, 1, none⟩ = some (.int .u64 h) ∧ V.cell? ⟨A, 2, none⟩ = some (.int .u64 l) ∧ V.cell? ⟨B, 0, none⟩ = some (.bool n2) ∧ V.cell? ⟨B, 1, none⟩ = some (.int .u64 h2) ∧ V.cell? ⟨B, 2, none⟩ = some (.int .u64 l2) :=
  ⟨t.2.1, t.2.2.1, t.2.2.2.1, u.2.1, u.2.2.1, u.2.2.2.1⟩
end Go.Proofs.YtiebmglbnlhdpaaGreatDoor
