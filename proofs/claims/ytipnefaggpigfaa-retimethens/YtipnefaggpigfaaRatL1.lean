/- The shelf's contracts of math/bits.Mul64 and LeadingZeros64 speak of this program. -/
import Derived.Shelf.Bits.Mul64
import Derived.Shelf.Small.Bits
import Derived.Test.YtipnefaggpigfaaProg
namespace Go.Proofs.Ytipnefaggpigfaa
open Go.Shelf
def lay264Ren : Ren := ⟨fun x => if x = 264 then 75 else x, fun x => if x = 46 then 115 else if x = 53 then 91 else x, fun x => x⟩
set_option maxRecDepth 100000 in
theorem lay264 : Lays.n264 Try.prog lay264Ren := { mixed := by kernel_rfl, f264 := by kernel_rfl, t46 := by kernel_rfl, a46 := fun _ => by kernel_rfl, z46 := fun _ => by kernel_rfl, v46 := fun _ => by kernel_rfl, t53 := by kernel_rfl, a53 := fun _ => by kernel_rfl, z53 := fun _ => by kernel_rfl, v53 := fun _ => by kernel_rfl }
def lay134Ren : Ren := ⟨fun x => if x = 129 then 100 else if x = 134 then 99 else x, fun x => if x = 3 then 3 else if x = 4 then 4 else if x = 5 then 5 else if x = 9 then 9 else if x = 46 then 115 else if x = 53 then 91 else x, fun x => x⟩
set_option maxRecDepth 100000 in
theorem lay134 : Lays.n134 Try.prog lay134Ren := { mixed := by kernel_rfl, f129 := by kernel_rfl, f134 := by kernel_rfl, t3 := by kernel_rfl, a3 := fun _ => by kernel_rfl, z3 := fun _ => by kernel_rfl, v3 := fun _ => by kernel_rfl, t4 := by kernel_rfl, a4 := fun _ => by kernel_rfl, z4 := fun _ => by kernel_rfl, v4 := fun _ => by kernel_rfl, t5 := by kernel_rfl, a5 := fun _ => by kernel_rfl, z5 := fun _ => by kernel_rfl, v5 := fun _ => by kernel_rfl, t9 := by kernel_rfl, a9 := fun _ => by kernel_rfl, z9 := fun _ => by kernel_rfl, v9 := fun _ => by kernel_rfl, t46 := by kernel_rfl, a46 := fun _ => by kernel_rfl, z46 := fun _ => by kernel_rfl, v46 := fun _ => by kernel_rfl, t53 := by kernel_rfl, a53 := fun _ => by kernel_rfl, z53 := fun _ => by kernel_rfl, v53 := fun _ => by kernel_rfl }
end Go.Proofs.Ytipnefaggpigfaa
