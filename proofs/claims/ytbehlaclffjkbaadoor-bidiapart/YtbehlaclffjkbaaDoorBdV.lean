/- The shelf's contract of slices.Reverse at []int speaks of this program. -/
import Derived.Shelf.Slices.Reverse
import Derived.Test.YtbehlaclffjkbaaDoorProg
namespace Go.Proofs.YtbehlaclffjkbaaDoor
open Go.Shelf Go.RowKit
def lay112Ren : Ren := ⟨fun x => if x = 112 then 35 else x, fun x => if x = 0 then 0 else if x = 3 then 3 else if x = 4 then 4 else if x = 28 then 23 else x, fun x => x⟩
set_option maxRecDepth 100000 in
theorem lay112 : Lays.n112 Tryd.prog lay112Ren := { mixed := by kernel_rfl, f112 := by kernel_rfl, t0 := by kernel_rfl, a0 := fun _ => by kernel_rfl, z0 := fun _ => by kernel_rfl, v0 := fun _ => by kernel_rfl, t3 := by kernel_rfl, a3 := fun _ => by kernel_rfl, z3 := fun _ => by kernel_rfl, v3 := fun _ => by kernel_rfl, t4 := by kernel_rfl, a4 := fun _ => by kernel_rfl, z4 := fun _ => by kernel_rfl, v4 := fun _ => by kernel_rfl, t28 := by kernel_rfl, a28 := fun _ => by kernel_rfl, z28 := fun _ => by kernel_rfl, v28 := fun _ => by kernel_rfl }
theorem rev_any (blk off cap : Nat) (zs : List Int) (w : World) (hH : Sort.Holds (Value.int .i64) w blk off zs.toArray) (hsz : zs.length ≤ 9223372036854775807) :
    Calls Tryd.prog 35 #[.slice (some ⟨blk, off, none⟩) zs.length cap] w fun e w' => e = .returned (.tuple #[]) ∧ ∃ n, w' = Sort.putRow (Value.int .i64) (Sort.ahead w n) blk off zs.reverse.toArray := Any.slices_Reverse_int lay112 blk off cap zs w hH hsz
end Go.Proofs.YtbehlaclffjkbaaDoor
