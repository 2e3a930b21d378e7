/- The contract of ratio.Sum. -/
import Derived.Test.YtmofjkfghidlnaaDoorRowsM
namespace Go.Proofs.YtmofjkfghidlnaaDoor
open Go.RowKit Go.Shelf
attribute [local go_sem] Oper.semAt_some

set_option maxRecDepth 100000 in
set_option maxHeartbeats 1000000 in
theorem sum_any (l : List Rt) (hl : ∀ p ∈ l, RtIn p) (a : Addr) (cap : Nat) (hc : l.length ≤ cap ∧ cap ≤ maxLen) (w : World) (hR : RowAt l a w) :
    Calls Tryd.prog 34 #[.slice (some a) l.length cap] w fun e w' => e = .returned (.tuple #[rtv (sumA l).1, .int .i64 (sumA l).2]) ∧ Below w.heap.size w w' := by
  have hs0 : sumF ⟨0, 1⟩ (l.drop 0) = sumA l := rfl
  have hmx : maxLen ≤ 9223372036854775807 := by decide
  generalize sumA l = R at *
  unfold rtv
  go_enter Tryd.func34, Tryd.ntmps34
  go_wp2_with fail
  go_loopw [11] (fun i wr => ∃ (k : Nat) (s : Rt), i = .int .i64 k ∧ k ≤ l.length ∧ RtIn s ∧ sumF s (l.drop k) = R ∧ Two wr w.heap.size (.int .i64 0) (.int .i64 0) ∧ Two wr (w.heap.size + 1) (.int .i64 s.N) (.int .i64 s.D) ∧ Below w.heap.size w wr) (fun i _ => l.length - (intOf i).toNat)
  case atStart =>
    refine ⟨0, ⟨0, 1⟩, rfl, Nat.zero_le _, ⟨⟨by simp, by simp⟩, ⟨by simp, by simp⟩⟩, hs0, (Two.new w (.int .i64 0) (.int .i64 0) 26).alloc _, ?_, bel2 w _ _⟩
    have := Two.new (w.alloc (.cells #[.int .i64 0, .int .i64 0] 26)) (.int .i64 0) (.int .i64 1) 26
    rwa [show (w.alloc (.cells #[.int .i64 0, .int .i64 0] 26)).heap.size = w.heap.size + 1 by simp] at this
  case round =>
    obtain ⟨k, s, rfl, hk, hs, hr, T0, T1, hB⟩ := hrel
    have HR := hideR hr
    clear hr hs0
    have z1 : w.heap.size + 1 < wr.heap.size := T1.1
    by_cases hk2 : k < l.length
    · obtain ⟨p, hp⟩ : ∃ p, l[k]? = some p := ⟨_, List.getElem?_eq_getElem hk2⟩
      have HS := hideR (sumF_step hp s)
      have HA := add_any s p hs (hl p (List.mem_of_getElem? hp))
      have HI := hideR (addA_in s p)
      obtain ⟨d0, d1⟩ := (hR.old hB).pair hp
      clear hp
      unfold rtv at HA
      have HQ := hideR (show sumF s (l.drop k) = if (addA s p).2 = 0 then sumF (addA s p).1 (l.drop (k + 1)) else (⟨0, 0⟩, (addA s p).2) from HS.out)
      generalize addA s p = q at HA HI HQ
      have HA := hideR HA
      clear HS
      have T0a := T0.alloc (.cells #[.int .i64 p.N, .int .i64 p.D] 26)
      have T1a := T1.alloc (.cells #[.int .i64 p.N, .int .i64 p.D] 26)
      have Ba := bup hB (bel1 wr (.cells #[.int .i64 p.N, .int .i64 p.D] 26))
      obtain ⟨_, s0, s1, _, _⟩ := id T1a
      clear T0 T1 hB
      go_wp2_with fail
      go_at_call 23
      refine Calls.mono (HA.out _) ?_
      rintro e w2 ⟨rfl, b2⟩
      have T0b := (T0a.keep b2).other (S := w.heap.size + 1) (x2 := .int .i64 q.1.N) (y2 := .int .i64 q.1.D) (by omega)
      have T1b := (T1a.keep b2).set (x2 := .int .i64 q.1.N) (y2 := .int .i64 q.1.D)
      have Bb := ((bup Ba b2).setCell (p := ⟨w.heap.size + 1, 0, none⟩) (by simp) (.int .i64 q.1.N)).setCell (p := ⟨w.heap.size + 1, 1, none⟩) (by simp) (.int .i64 q.1.D)
      obtain ⟨_, m0, m1, m2, m3⟩ := id (T1a.keep b2)
      obtain ⟨zb, n0, n1, n2, n3⟩ := id T0b
      clear T0a T1a Ba b2 s0 s1 d0 d1
      by_cases he : q.2 = 0
      · have HE := hideR (HQ.out.trans (if_pos he))
        go_wp2_with fail
        refine ⟨⟨k + 1, q.1, by go_num, by omega, HI.out, HE.out.symm.trans HR.out, T0b, T1b, Bb⟩, ?_⟩
        simp [intOf]
        omega
      · have HE := hideR (HQ.out.trans (if_neg he))
        have hne : (q.2 == 0) = false := by simpa using he
        go_wp2_with fail
        exact bodyPost_ret (v := .tuple #[.agg #[.int .i64 0, .int .i64 0], .int .i64 q.2]) (by simp [results, Tryd.results34, go_sem, n0, n1]) rfl ⟨by rw [← HR.out, HE.out], (Bb.setCell (by simp) _).setCell (by simp) _⟩
    · obtain rfl : k = l.length := by omega
      have HE := hideR (sumF_end l s)
      obtain ⟨_, s0, s1, _, _⟩ := id T1
      obtain ⟨_, n0, n1, n2, n3⟩ := id T0
      go_wp2_with fail
      exact bodyPost_ret (v := .tuple #[.agg #[.int .i64 s.N, .int .i64 s.D], .int .i64 0]) (by simp [results, Tryd.results34, go_sem, n0, n1]) rfl ⟨by rw [← HR.out, HE.out], (hB.setCell (by simp) _).setCell (by simp) _⟩
end Go.Proofs.YtmofjkfghidlnaaDoor
