/- The shelf's contracts of math/bits.Mul64 and LeadingZeros64 speak of this program. -/
import Derived.Shelf.Bits.Mul64
import Derived.Shelf.Small.Bits
import Derived.Test.YtdikfcnbkckinaaGreatDoorProg
namespace Go.Proofs.YtdikfcnbkckinaaGreatDoor
open Go.Shelf
def lay264Ren : Ren := ⟨fun x => if x = 264 then 58 else x, fun x => if x = 46 then 128 else if x = 53 then 79 else x, fun x => x⟩
set_option maxRecDepth 100000 in
theorem lay264 : Lays.n264 Tryz.prog lay264Ren := { mixed := by kernel_rfl, f264 := by kernel_rfl, t46 := by kernel_rfl, a46 := fun _ => by kernel_rfl, z46 := fun _ => by kernel_rfl, v46 := fun _ => by kernel_rfl, t53 := by kernel_rfl, a53 := fun _ => by kernel_rfl, z53 := fun _ => by kernel_rfl, v53 := fun _ => by kernel_rfl }
end Go.Proofs.YtdikfcnbkckinaaGreatDoor
