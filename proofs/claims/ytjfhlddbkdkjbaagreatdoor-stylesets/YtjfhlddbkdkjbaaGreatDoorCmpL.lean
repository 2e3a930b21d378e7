/- The shelf's contract of slices.Compact at ints speaks of this program. -/
import Derived.Shelf.Slices.CompactI
import Derived.Lib.RowBridge
import Derived.Test.YtjfhlddbkdkjbaaGreatDoorProg
namespace Go.Proofs.YtjfhlddbkdkjbaaGreatDoor
open Go.Shelf
def lay20cRen : Ren := ⟨fun x => if x = 20 then 73 else x, fun x => if x = 0 then 0 else if x = 3 then 3 else if x = 4 then 4 else if x = 22 then 88 else x, fun x => x⟩
set_option maxRecDepth 100000 in
theorem lay20c : Lays2.n20 Tryz.prog lay20cRen := { mixed := by kernel_rfl, f20 := by kernel_rfl, t0 := by kernel_rfl, a0 := fun _ => by kernel_rfl, z0 := fun _ => by kernel_rfl, v0 := fun _ => by kernel_rfl, t3 := by kernel_rfl, a3 := fun _ => by kernel_rfl, z3 := fun _ => by kernel_rfl, v3 := fun _ => by kernel_rfl, t4 := by kernel_rfl, a4 := fun _ => by kernel_rfl, z4 := fun _ => by kernel_rfl, v4 := fun _ => by kernel_rfl, t22 := by kernel_rfl, a22 := fun _ => by kernel_rfl, z22 := fun _ => by kernel_rfl, v22 := fun _ => by kernel_rfl, i3 := by kernel_rfl }
end Go.Proofs.YtjfhlddbkdkjbaaGreatDoor
