/- style.count, style.Check at every text (chapter 7). -/
import Derived.Test.YtbiodfeanngkdaaDoorSoN
import Derived.Test.YtbiodfeanngkdaaDoorQuG
import Derived.Test.YtbiodfeanngkdaaDoorW1
namespace Go.Proofs.YtbiodfeanngkdaaDoor
open Go.RowKit Go.Shelf
attribute [local go_sem] Oper.semAt_some

set_option maxRecDepth 100000 in
set_option maxHeartbeats 400000 in
theorem count7_any (s : ByteArray) (w : World) (_hs : s.size ≤ 140737488355328) : Calls Tryd.prog 14 #[.string s] w fun e w' => e = .returned (.int .i64 (signs s).length) ∧ Below w.heap.size w w' := by
  go_enter Tryd.func14, Tryd.ntmps14
  go_wp2
  go_loopw [3] (fun n w' => ∃ (pos b : Nat) (acc : Nat), w' = w.iter s pos ∧ n = .int .i64 acc ∧ acc + (sgns s b pos).length = (signs s).length ∧ s.size ≤ pos + b ∧ acc ≤ pos) (fun _ w' => s.size - w'.iterPos w.heap.size)
  case atStart => exact ⟨0, s.size, 0, rfl, rfl, by simp [signs], by omega, by omega⟩
  case round =>
    obtain ⟨pos, b, acc, rfl, rfl, hc, hb, ha⟩ := hrel
    have HC : Hid (acc + (sgns s b pos).length = (signs s).length) := hc
    clear hc
    by_cases hp : pos < s.size
    · have hnx : ∀ ty, (Instr.next (.pointer (some ⟨w.heap.size, 0, none⟩)) true ty).run Tryd.prog (w.iter s pos) = _ := fun ty => run_next_any w s pos ty hp
      go_wp2
      have hwd := Lib.decode_width_pos s pos hp
      go_roundw
      case rel =>
        cases b with
        | zero => omega
        | succ b =>
          refine ⟨pos + (Utf8.decode s pos).2, b, acc + 1, rfl, by go_num, ?_, by omega, by omega⟩
          have := HC.out
          rw [sgns, if_pos hp] at this
          simp at this
          omega
      case measure =>
        simp
        omega
    · have hnx : ∀ ty, (Instr.next (.pointer (some ⟨w.heap.size, 0, none⟩)) true ty).run Tryd.prog (w.iter s pos) = _ := fun ty => run_next_end w s pos ty hp
      go_wp2
      go_ret
      have := HC.out
      rw [sgns_end s b pos hp] at this
      simp at this
      subst this
      exact ⟨rfl, (Below.refl _ w).alloc (Nat.le_refl _) _⟩
/-- What is wrong with a text: 0: nothing. -/
def chkT (s : ByteArray) (D : List Sp) : Int := if 4096 < s.size then 3 else if 256 < D.length then 2 else if allB D (signs s).length = true ∧ crB D = false then 0 else 23
theorem two_cellsA (w : World) (a b : Value) (t : TypeId) : (w.alloc (.cells #[a, b] t)).cell? ⟨w.heap.size, 0, none⟩ = some a := by
  unfold World.cell?
  rw [show (w.alloc (.cells #[a, b] t)).heap[w.heap.size]? = _ from World.alloc_heap_new w _]
  rfl
theorem two_cellsB (w : World) (a b : Value) (t : TypeId) : (w.alloc (.cells #[a, b] t)).cell? ⟨w.heap.size, 1, none⟩ = some b := by
  unfold World.cell?
  rw [show (w.alloc (.cells #[a, b] t)).heap[w.heap.size]? = _ from World.alloc_heap_new w _]
  rfl
set_option maxRecDepth 100000 in
set_option maxHeartbeats 2000000 in
theorem check7_any (s : ByteArray) (D : List Sp) (oa : Option Addr) (cap : Nat) (hs : s.size ≤ 140737488355328) (hc : D.length ≤ cap ∧ cap ≤ maxLen) (hn : oa = none → D = [] ∧ cap = 0) (w : World) (hR : SpO w oa D) :
    Calls Tryd.prog 4 #[.agg #[.string s, .slice oa D.length cap]] w fun e w' => e = .returned (.int .i64 (chkT s D)) ∧ Below w.heap.size w w' := by
  obtain ⟨N, hN⟩ : ∃ N, D.length = N := ⟨_, rfl⟩
  have hmx : maxLen ≤ 9223372036854775807 := by decide
  unfold chkT
  by_cases h1 : 4096 < s.size
  · rw [if_pos h1]
    have d1 : (4096 : Int) < (s.size : Int) := by omega
    have c0 := two_cellsA w (.string s) (.slice oa D.length cap) 24
    go_enter Tryd.func4, Tryd.ntmps4
    go_wp2_with fail
    go_ret
    exact ⟨rfl, bel1S _ _⟩
  · rw [if_neg h1]
    have d1 : ¬ (4096 : Int) < (s.size : Int) := by omega
    by_cases h2 : 256 < D.length
    · rw [if_pos h2]
      rw [hN] at *
      have d2 : (256 : Int) < (N : Int) := by omega
      have c0 := two_cellsA w (.string s) (.slice oa N cap) 24
      have c1 := two_cellsB w (.string s) (.slice oa N cap) 24
      go_enter Tryd.func4, Tryd.ntmps4
      go_wp2_with fail
      go_ret
      exact ⟨rfl, bel1S _ _⟩
    · rw [if_neg h2]
      obtain ⟨K, hK⟩ : ∃ K : Nat, (signs s).length = K := ⟨_, rfl⟩
      have HCt := hideS (fun W => count7_any s W hs)
      rw [hK] at HCt ⊢
      obtain ⟨A, hA⟩ : ∃ A, allB D K = A := ⟨_, rfl⟩
      obtain ⟨C, hC⟩ : ∃ C, crB D = C := ⟨_, rfl⟩
      have HAl := hideS (fun (W : World) (h : Below w.heap.size w W) => allFit_any D oa cap K hc W (hR.keep h))
      have HCr := hideS (fun (W : World) (h : Below w.heap.size w W) => cross_any D oa cap (by omega) hn W (hR.keep h))
      rw [hA] at HAl ⊢
      rw [hC] at HCr ⊢
      rw [hN] at HAl HCr hc h2 ⊢
      have d2 : ¬ (256 : Int) < (N : Int) := by omega
      clear hR hA hC hN hK hn
      obtain ⟨R, hRv⟩ : ∃ R : Int, (if A = true ∧ C = false then 0 else 23) = R := ⟨_, rfl⟩
      rw [hRv]
      have HRv := hideS hRv
      clear hRv
      go_enter Tryd.func4, Tryd.ntmps4
      go_wp2_with fail
      have c0 := two_cellsA w (.string s) (.slice oa N cap) 24
      have c1 := two_cellsB w (.string s) (.slice oa N cap) 24
      have bb := bel1S w (.cells #[.string s, .slice oa N cap] 24)
      have hz : w.heap.size < (w.alloc (.cells #[.string s, .slice oa N cap] 24)).heap.size := by simp
      generalize w.alloc (.cells #[.string s, .slice oa N cap] 24) = V at *
      have HBb := hideS bb
      clear bb
      have q0 : ∀ q : GrownQ V, q.V.cell? ⟨w.heap.size, 0, none⟩ = some (.string s) := fun q => (q.h.cell (p := ⟨w.heap.size, 0, none⟩) hz).trans c0
      have q1 : ∀ q : GrownQ V, q.V.cell? ⟨w.heap.size, 1, none⟩ = some (.slice oa N cap) := fun q => (q.h.cell (p := ⟨w.heap.size, 1, none⟩) hz).trans c1
      clear c0 c1
      cases A with
      | false =>
        rw [if_neg (fun h => by cases h.1)] at HRv
        obtain rfl := HRv.out
        refine region_grown V V (by kernel_rfl) (by kernel_rfl) (Below.refl _ _) ?_
        repeat (go_big_quiet_step (first
          | (go_at_call 14; rename_i q; (with_reducible refine (HCt.out _).mono ?_); rintro e V1 ⟨rfl, h1⟩; exact ⟨rfl, ⟨V1, q.h.trans (h1.mono q.h.size)⟩, rfl⟩)
          | (go_at_call 13; rename_i q; (with_reducible refine (HAl.out _ (HBb.out.trans (q.h.mono HBb.out.size))).mono ?_); rintro e V1 ⟨rfl, h1⟩; exact ⟨rfl, ⟨V1, q.h.trans (h1.mono q.h.size)⟩, rfl⟩)
          | (go_at_call 15; rename_i q; (with_reducible refine (HCr.out _ (HBb.out.trans (q.h.mono HBb.out.size))).mono ?_); rintro e V1 ⟨rfl, h1⟩; exact ⟨rfl, ⟨V1, q.h.trans (h1.mono q.h.size)⟩, rfl⟩)))
        refine wpQuiet_nil ?_
        rintro W3 ⟨⟨V3, hb3⟩, hv3⟩
        have hv3 : W3 = V3 := hv3
        subst hv3
        have B3 := hideS (HBb.out.trans (hb3.mono HBb.out.size))
        clear hv3 hb3
        go_wp2_with fail
        go_ret
        exact ⟨rfl, B3.out⟩
      | true =>
        cases C with
        | true =>
          rw [if_neg (fun h => by cases h.2)] at HRv
          obtain rfl := HRv.out
          refine region_grown V V (by kernel_rfl) (by kernel_rfl) (Below.refl _ _) ?_
          repeat (go_big_quiet_step (first
            | (go_at_call 14; rename_i q; (with_reducible refine (HCt.out _).mono ?_); rintro e V1 ⟨rfl, h1⟩; exact ⟨rfl, ⟨V1, q.h.trans (h1.mono q.h.size)⟩, rfl⟩)
            | (go_at_call 13; rename_i q; (with_reducible refine (HAl.out _ (HBb.out.trans (q.h.mono HBb.out.size))).mono ?_); rintro e V1 ⟨rfl, h1⟩; exact ⟨rfl, ⟨V1, q.h.trans (h1.mono q.h.size)⟩, rfl⟩)
            | (go_at_call 15; rename_i q; (with_reducible refine (HCr.out _ (HBb.out.trans (q.h.mono HBb.out.size))).mono ?_); rintro e V1 ⟨rfl, h1⟩; exact ⟨rfl, ⟨V1, q.h.trans (h1.mono q.h.size)⟩, rfl⟩)))
          refine wpQuiet_nil ?_
          rintro W3 ⟨⟨V3, hb3⟩, hv3⟩
          have hv3 : W3 = V3 := hv3
          subst hv3
          have B3 := hideS (HBb.out.trans (hb3.mono HBb.out.size))
          clear hv3 hb3
          go_wp2_with fail
          go_ret
          exact ⟨rfl, B3.out⟩
        | false =>
          rw [if_pos ⟨rfl, rfl⟩] at HRv
          obtain rfl := HRv.out
          refine region_grown V V (by kernel_rfl) (by kernel_rfl) (Below.refl _ _) ?_
          repeat (go_big_quiet_step (first
            | (go_at_call 14; rename_i q; (with_reducible refine (HCt.out _).mono ?_); rintro e V1 ⟨rfl, h1⟩; exact ⟨rfl, ⟨V1, q.h.trans (h1.mono q.h.size)⟩, rfl⟩)
            | (go_at_call 13; rename_i q; (with_reducible refine (HAl.out _ (HBb.out.trans (q.h.mono HBb.out.size))).mono ?_); rintro e V1 ⟨rfl, h1⟩; exact ⟨rfl, ⟨V1, q.h.trans (h1.mono q.h.size)⟩, rfl⟩)
            | (go_at_call 15; rename_i q; (with_reducible refine (HCr.out _ (HBb.out.trans (q.h.mono HBb.out.size))).mono ?_); rintro e V1 ⟨rfl, h1⟩; exact ⟨rfl, ⟨V1, q.h.trans (h1.mono q.h.size)⟩, rfl⟩)))
          refine wpQuiet_nil ?_
          rintro W3 ⟨⟨V3, hb3⟩, hv3⟩
          have hv3 : W3 = V3 := hv3
          subst hv3
          have B3 := hideS (HBb.out.trans (hb3.mono HBb.out.size))
          clear hv3 hb3
          go_wp2_with fail
          go_ret
          exact ⟨rfl, B3.out⟩
end Go.Proofs.YtbiodfeanngkdaaDoor
