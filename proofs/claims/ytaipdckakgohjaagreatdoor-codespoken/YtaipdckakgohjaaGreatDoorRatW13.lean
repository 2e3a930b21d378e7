/- Contracts of package ratio: Whole, Snap, Time. -/
import Derived.Test.YtaipdckakgohjaaGreatDoorRatW12
import Derived.Deep.RegionHeld3
namespace Go.Proofs.YtaipdckakgohjaaGreatDoor
open Go.RowKit Go.Shelf
attribute [local go_sem] Oper.semAt_some

theorem times_bounds {n t : Int} (h : -4611686018427387904 ≤ n ∧ n ≤ 4611686018427387904) (ht : I64 t) : -42535295865117307932921825928971026432 ≤ n * t ∧ n * t ≤ 42535295865117307932921825928971026432 := by
  unfold I64 at ht
  have := mul_bounds (x := n) (y := t) (X := 4611686018427387904) (Y := 9223372036854775808) h ⟨by omega, by omega⟩
  omega

end Go.Proofs.YtaipdckakgohjaaGreatDoor
