/- The contract of a growing cluster's own test: does the next sign belong to it? -/
import Derived.Test.YtbehlaclffjkbaaDoorCellW2
namespace Go.Proofs.YtbehlaclffjkbaaDoor
open Go.RowKit

set_option maxRecDepth 100000 in
set_option maxHeartbeats 2000000 in
theorem takes_any (g : Gr) (r : Int) (N B : Nat) (w : World) (hT : Tabs N w) (hg : GrAt w B g) (b1 : 0 ≤ g.fr) (b2 : g.fr ≤ g.to) (b3 : g.to ≤ 140737488355328) : Calls Tryd.prog 25 #[.pointer (some ⟨B, 0, none⟩), .int .i32 r] w fun e w' =>
    e = .returned (.bool (g.takes r)) ∧ Below w.heap.size w w' := by
  have HW := hideC (fun w h => width_any r N w h)
  have HX := hideC (fun w h => width_any g.first N w h)
  generalize hv : g.takes r = v
  have HV := hideC hv
  clear hv
  have hwd := widthI_bd r
  by_cases h0 : widthI r = 0
  · rw [h0] at HW
    clear hwd
    cases hc : ctlB r
    · go_enter Tryd.func25, Tryd.ntmps25
      go_wp2_with fail
      refine (HW.out _ hT).mono ?_
      rintro e w1 ⟨rfl, hb1⟩
      obtain ⟨c0, c1, c2, c3, c4, c5⟩ := (hg.of_block (hb1.block B hg.lt)).cells
      go_wp2_with fail
      refine (isControl_any r _).mono ?_
      rintro e w2 ⟨rfl, rfl⟩
      go_wp2_with fail
      refine (isControl_any g.first _).mono ?_
      rintro e w3 ⟨rfl, rfl⟩
      go_wp2
      go_ret
      exact ⟨by rw [← HV.out]; simp [Gr.takes, h0, hc], hb1⟩
    · go_enter Tryd.func25, Tryd.ntmps25
      go_wp2_with fail
      refine (HW.out _ hT).mono ?_
      rintro e w1 ⟨rfl, hb1⟩
      go_wp2_with fail
      refine (isControl_any r _).mono ?_
      rintro e w2 ⟨rfl, rfl⟩
      go_wp2
      go_ret
      exact ⟨by rw [← HV.out]; simp [Gr.takes, h0, hc], hb1⟩
  by_cases h2 : widthI r = 2
  · rw [h2] at HW
    clear hwd h0
    cases hj : (g.last == 8205)
    · go_enter Tryd.func25, Tryd.ntmps25
      go_wp2_with fail
      refine (HW.out _ hT).mono ?_
      rintro e w1 ⟨rfl, hb1⟩
      obtain ⟨c0, c1, c2, c3, c4, c5⟩ := (hg.of_block (hb1.block B hg.lt)).cells
      go_wp2
      go_ret
      exact ⟨by rw [← HV.out]; simp [Gr.takes, h2, hj], hb1⟩
    · go_enter Tryd.func25, Tryd.ntmps25
      go_wp2_with fail
      refine (HW.out _ hT).mono ?_
      rintro e w1 ⟨rfl, hb1⟩
      obtain ⟨c0, c1, c2, c3, c4, c5⟩ := (hg.of_block (hb1.block B hg.lt)).cells
      go_wp2_with fail
      refine (HX.out _ (hT.below hb1)).mono ?_
      rintro e w2 ⟨rfl, hb2⟩
      go_wp2
      go_ret
      exact ⟨by rw [← HV.out]; simp [Gr.takes, h2, hj], hb1.trans (hb2.mono hb1.size)⟩
  · have h1 : widthI r = 1 := by omega
    rw [h1] at HW
    clear hwd h0 h2
    have HF := hideC (fun w => isFlag_any r w)
    have HG := hideC (fun w => isFlag_any g.first w)
    have fin : ∀ b, g.takes r = b → v = b := fun b e => HV.out.symm.trans e
    have HN := hideC fin
    clear fin
    cases hf : flagB r
    · rw [hf] at HF
      have hv := HN.out false (by simp [Gr.takes, h1, hf])
      subst hv
      clear HV HN HX HG
      go_enter Tryd.func25, Tryd.ntmps25
      go_wp2_with fail
      refine (HW.out _ hT).mono ?_
      rintro e w1 ⟨rfl, hb1⟩
      clear hT hg HW h1 hf b1 b2 b3
      go_wp2_with fail
      go_quiet (first | (go_at_call 54; refine Calls.quiet_of_same (HF.out _)))
      go_wp2
      go_ret
      exact ⟨rfl, below_dnC hb1 _⟩
    · rw [hf] at HF
      cases hf2 : flagB g.first
      · rw [hf2] at HG
        have hv := HN.out false (by simp [Gr.takes, h1, hf, hf2])
        subst hv
        clear HV HN HX
        go_enter Tryd.func25, Tryd.ntmps25
        go_wp2_with fail
        refine (HW.out _ hT).mono ?_
        rintro e w1 ⟨rfl, hb1⟩
        obtain ⟨c0, c1, c2, c3, c4, c5⟩ := (hg.of_block (hb1.block B hg.lt)).cells
        clear hT hg HW h1 hf hf2 b1 b2 b3 c0 c3 c5
        go_wp2_with fail
        go_quiet (first | (go_at_call 54; refine Calls.quiet_of_same (HF.out _)) | (go_at_call 54; refine Calls.quiet_of_same (HG.out _)))
        go_wp2
        go_ret
        exact ⟨rfl, below_dnC hb1 _⟩
      · rw [hf2] at HG
        have hv := HN.out (g.to - g.fr == 1) (by simp [Gr.takes, h1, hf, hf2])
        subst hv
        clear HV HN HX
        go_enter Tryd.func25, Tryd.ntmps25
        go_wp2_with fail
        refine (HW.out _ hT).mono ?_
        rintro e w1 ⟨rfl, hb1⟩
        obtain ⟨c0, c1, c2, c3, c4, c5⟩ := (hg.of_block (hb1.block B hg.lt)).cells
        have hwr : IntKind.i64.wrap (g.to - g.fr) = g.to - g.fr := IntWalk.i64_in _ ⟨by omega, by omega⟩
        clear hT hg HW h1 hf hf2 c0 c3 c5 b1 b2 b3
        go_wp2_with fail
        go_quiet (first | (go_at_call 54; refine Calls.quiet_of_same (HF.out _)) | (go_at_call 54; refine Calls.quiet_of_same (HG.out _)))
        go_wp2
        go_ret
        exact ⟨rfl, below_dnC hb1 _⟩

end Go.Proofs.YtbehlaclffjkbaaDoor
