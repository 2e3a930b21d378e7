/- The contract of strings.Clone: the same bytes; nothing that was there has turned. The shelf's own contract of internal/stringslite.Clone is used, at this program's numbers. -/
import Derived.Shelf.Pu.Clone
import Derived.WalkKit
import Derived.Test.YtbiodfeanngkdaaDoorW1
namespace Go.Proofs.YtbiodfeanngkdaaDoor
open Go.RowKit Go.Shelf

/-- The shelf's numbers, as this program has them. -/
def cloneRen : Ren := ⟨fun x => if x = 25 then 40 else x, fun x => if x = 37 then 93 else if x = 47 then 94 else x, fun x => x⟩
set_option maxRecDepth 100000 in
theorem cloneLays : LaysPu.n25 Tryd.prog cloneRen := { mixed := by kernel_rfl, f25 := by kernel_rfl, t0 := by kernel_rfl, a0 := fun _ => by kernel_rfl, z0 := fun _ => by kernel_rfl, v0 := fun _ => by kernel_rfl, i0 := by kernel_rfl, t3 := by kernel_rfl, a3 := fun _ => by kernel_rfl, z3 := fun _ => by kernel_rfl, v3 := fun _ => by kernel_rfl, i3 := by kernel_rfl, t4 := by kernel_rfl, a4 := fun _ => by kernel_rfl, z4 := fun _ => by kernel_rfl, v4 := fun _ => by kernel_rfl, i4 := by kernel_rfl, t5 := by kernel_rfl, a5 := fun _ => by kernel_rfl, z5 := fun _ => by kernel_rfl, v5 := fun _ => by kernel_rfl, i5 := by kernel_rfl, t9 := by kernel_rfl, a9 := fun _ => by kernel_rfl, z9 := fun _ => by kernel_rfl, v9 := fun _ => by kernel_rfl, i9 := by kernel_rfl, t37 := by kernel_rfl, a37 := fun _ => by kernel_rfl, z37 := fun _ => by kernel_rfl, v37 := fun _ => by kernel_rfl, i37 := by kernel_rfl, t47 := by kernel_rfl, a47 := fun _ => by kernel_rfl, z47 := fun _ => by kernel_rfl, v47 := fun _ => by kernel_rfl, i47 := by kernel_rfl }
theorem clone_lo (s : ByteArray) (w : World) (hlim : s.size ≤ 140737488355328) :
    Calls Tryd.prog 40 #[.string s] w fun e w' => e = .returned (.string s) ∧ Below w.heap.size w w' :=
  AnyPu.stringslite_Clone cloneLays s w (by omega)

set_option maxRecDepth 100000 in
set_option maxHeartbeats 400000 in
theorem clone_any (s : ByteArray) (w : World) (hlim : s.size ≤ 140737488355328) :
    Calls Tryd.prog 27 #[.string s] w fun e w' => e = .returned (.string s) ∧ Below w.heap.size w w' := by
  go_enter Tryd.func27, Tryd.ntmps27
  go_wp2_with (go_at_call 40; refine (clone_lo _ _ hlim).mono ?_; rintro e w' ⟨rfl, hB⟩)
  go_ret
  exact ⟨rfl, by assumption⟩
end Go.Proofs.YtbiodfeanngkdaaDoor
