/- slices.SortStableFunc over spans. -/
import Derived.Test.YtbiodfeanngkdaaDoorSoK
namespace Go.Proofs.YtbiodfeanngkdaaDoor
open Go.RowKit Go.Shelf
attribute [local go_sem] Oper.semAt_some
variable {κ : Nat}

set_option maxRecDepth 100000 in
set_option maxHeartbeats 2000000 in
theorem sort_walk (D : List Sp) (G cap n : Nat) (hn : D.length = n) (hl : n ≤ 5000) (w : World) (hS : SC κ w G D) :
    Calls Tryd.prog 42 #[.slice (some ⟨G, 0, none⟩) n cap, .func (.func 43) #[] #[]] w fun e w' => e = .returned (.tuple #[]) ∧ SC κ w' G (isort ltS D) ∧ But (fun k => k = G) w w' := by
  have HI := hideS (stable_walk D G cap n hn hl w hS)
  clear hS
  go_enter Tryd.func42, Tryd.ntmps42
  go_wp2_with (first | (go_at_call 50; (with_reducible refine HI.out.mono ?_); rintro e w5 ⟨rfl, s5, b5⟩; have H5 := hideS (And.intro s5 b5); clear s5 b5))
  exact bodyPost_end (v := .tuple #[]) (by simp [results, Tryd.f42]) rfl ⟨rfl, H5.out.1, H5.out.2⟩
end Go.Proofs.YtbiodfeanngkdaaDoor
