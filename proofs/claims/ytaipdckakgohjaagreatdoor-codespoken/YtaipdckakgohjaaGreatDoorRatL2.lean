/- The shelf's contracts of strings.CutPrefix, Cut and Trim speak of this program. -/
import Derived.Shelf.Small.Wraps
import Derived.Shelf.Strings.Cut
import Derived.Shelf.Strings.SlTrimAscii
import Derived.Test.YtaipdckakgohjaaGreatDoorProg
namespace Go.Proofs.YtaipdckakgohjaaGreatDoor
open Go.Shelf
def lay145Ren : Ren := ⟨fun x => if x = 145 then 70 else if x = 217 then 120 else if x = 219 then 107 else if x = 220 then 95 else if x = 224 then 122 else if x = 225 then 121 else if x = 266 then 132 else if x = 267 then 123 else if x = 314 then 133 else x, fun x => if x = 3 then 3 else if x = 4 then 4 else if x = 5 then 5 else if x = 9 then 9 else if x = 46 then 116 else if x = 51 then 162 else if x = 59 then 109 else if x = 146 then 163 else x, fun x => if x = 1 then 2 else x⟩
set_option maxRecDepth 100000 in
theorem lay145 : Lays.n145 Tryz.prog lay145Ren := { mixed := by kernel_rfl, f145 := by kernel_rfl, f217 := by kernel_rfl, f219 := by kernel_rfl, f220 := by kernel_rfl, f224 := by kernel_rfl, f225 := by kernel_rfl, f266 := by kernel_rfl, f267 := by kernel_rfl, f314 := by kernel_rfl, t3 := by kernel_rfl, a3 := fun _ => by kernel_rfl, z3 := fun _ => by kernel_rfl, v3 := fun _ => by kernel_rfl, t4 := by kernel_rfl, a4 := fun _ => by kernel_rfl, z4 := fun _ => by kernel_rfl, v4 := fun _ => by kernel_rfl, t5 := by kernel_rfl, a5 := fun _ => by kernel_rfl, z5 := fun _ => by kernel_rfl, v5 := fun _ => by kernel_rfl, t9 := by kernel_rfl, a9 := fun _ => by kernel_rfl, z9 := fun _ => by kernel_rfl, v9 := fun _ => by kernel_rfl, t46 := by kernel_rfl, a46 := fun _ => by kernel_rfl, z46 := fun _ => by kernel_rfl, v46 := fun _ => by kernel_rfl, t51 := by kernel_rfl, a51 := fun _ => by kernel_rfl, z51 := fun _ => by kernel_rfl, v51 := fun _ => by kernel_rfl, t59 := by kernel_rfl, a59 := fun _ => by kernel_rfl, z59 := fun _ => by kernel_rfl, v59 := fun _ => by kernel_rfl, t146 := by kernel_rfl, a146 := fun _ => by kernel_rfl, z146 := fun _ => by kernel_rfl, v146 := fun _ => by kernel_rfl, g1 := by kernel_rfl }
end Go.Proofs.YtaipdckakgohjaaGreatDoor
