/- The contracts of ratio.outermost, Least, Most. -/
import Derived.Test.YtifkoffjmdpgkaaDoorRowsM
namespace Go.Proofs.YtifkoffjmdpgkaaDoor
open Go.RowKit Go.Shelf
attribute [local go_sem] Oper.semAt_some

theorem addr_tail (a : Addr) (i : Nat) : (⟨a.block, a.off + 2, none⟩ : Addr).add (i * 2) = a.add ((i + 1) * 2) ∧ (⟨a.block, a.off + 2, none⟩ : Addr).add (i * 2 + 1) = a.add ((i + 1) * 2 + 1) := by
  unfold Addr.add
  constructor
  · by_cases h : i = 0
    · subst h; rfl
    · rw [if_neg (by omega), if_neg (by omega)]; simp only [Addr.mk.injEq, and_true, true_and]; omega
  · rw [if_neg (by omega), if_neg (by omega)]; simp only [Addr.mk.injEq, and_true, true_and]; omega
theorem addr_flat (b o n : Nat) : (⟨b, o, none⟩ : Addr).add n = ⟨b, o + n, none⟩ := by
  unfold Addr.add
  by_cases h : n = 0
  · subst h; rfl
  · rw [if_neg h]
theorem RowAt.tail {l : List Rt} {a : Addr} {V : World} (h : RowAt l a V) : RowAt (l.drop 1) ⟨a.block, a.off + 2, none⟩ V := by
  refine ⟨h.1, fun i p hp => ?_⟩
  rw [List.getElem?_drop] at hp
  rw [(addr_tail a i).1, (addr_tail a i).2, Nat.add_comm i 1]
  exact h.2 (1 + i) p hp

set_option maxRecDepth 100000 in
set_option maxHeartbeats 1000000 in
theorem outer_one (b0 : Rt) (side : Int) (a : Addr) (w : World) (hR : RowAt [b0] a w) :
    Calls Tryd.prog 34 #[.slice (some a) 1 1, .int .i64 side] w fun e w' => e = .returned (.tuple #[rtv b0, .bool true]) ∧ Below w.heap.size w w' := by
  obtain ⟨e0, e1⟩ := (hR.alloc (.cells #[.int .i64 0, .int .i64 0] 29)).pair (i := 0) (p := b0) rfl
  rw [show a.add (0 * 2) = a from rfl] at e0 e1
  unfold rtv
  go_enter Tryd.func34, Tryd.ntmps34
  go_wp2_with fail
  go_loopw [19] (fun i wr => i = .int .i64 0 ∧ Two wr w.heap.size (.int .i64 0) (.int .i64 0) ∧ Two wr (w.heap.size + 1) (.int .i64 b0.N) (.int .i64 b0.D) ∧ Below w.heap.size w wr) (fun _ _ => 0)
  case atStart =>
    refine ⟨rfl, (Two.new w (.int .i64 0) (.int .i64 0) 29).alloc _, ?_, bel2 w _ _⟩
    have := Two.new (w.alloc (.cells #[.int .i64 0, .int .i64 0] 29)) (.int .i64 b0.N) (.int .i64 b0.D) 29
    rwa [show (w.alloc (.cells #[.int .i64 0, .int .i64 0] 29)).heap.size = w.heap.size + 1 by simp] at this
  case round =>
    obtain ⟨rfl, T0, T1, hB⟩ := hrel
    obtain ⟨_, s0, s1, _, _⟩ := id T1
    obtain ⟨_, n0, n1, n2, n3⟩ := id T0
    go_wp2_with fail
    exact bodyPost_ret (v := .tuple #[.agg #[.int .i64 b0.N, .int .i64 b0.D], .bool true]) (by simp [results, Tryd.results34, go_sem, n0, n1]) rfl ⟨rfl, (hB.setCell (by simp) _).setCell (by simp) _⟩

set_option maxRecDepth 100000 in
set_option maxHeartbeats 1000000 in
theorem outer_walk (l t : List Rt) (hl : ∀ p ∈ l, RtIn p) (b0 : Rt) (hb0 : l[0]? = some b0) (ht : l.drop 1 = t) (side : Int) (a : Addr) (cap : Nat) (hc : l.length ≤ cap ∧ cap ≤ maxLen) (h1 : ¬ cap = 1) (w : World) (hR : RowAt l a w) :
    Calls Tryd.prog 34 #[.slice (some a) l.length cap, .int .i64 side] w fun e w' => e = .returned (.tuple #[rtv (bestF side b0 t), .bool true]) ∧ Below w.heap.size w w' := by
  have hmx : maxLen ≤ 9223372036854775807 := by decide
  obtain ⟨R, eR⟩ : ∃ R, bestF side b0 t = R := ⟨_, rfl⟩
  rw [eR]
  have ER := hideR eR
  have hn : 0 < l.length := (List.getElem?_eq_some_iff.1 hb0).1
  have hi0 := hideR (hl b0 (List.mem_of_getElem? hb0))
  have hRt := hR.tail
  have HT := hideR (show ∀ p ∈ t, RtIn p from fun p hp => hl p (List.mem_of_mem_drop (by rw [ht]; exact hp)))
  rw [ht] at hRt
  have htl : t.length = l.length - 1 := by rw [← ht, List.length_drop]
  obtain ⟨e0, e1⟩ := (hR.alloc (.cells #[.int .i64 0, .int .i64 0] 29)).pair hb0
  rw [show a.add (0 * 2) = a from rfl] at e0 e1
  clear eR hb0 ht
  unfold rtv
  have hz : ((l.length : Int) == 0) = false := by rw [beq_eq_false_iff_ne]; omega
  have HL := hideR htl
  clear htl
  go_enter Tryd.func34, Tryd.ntmps34
  go_wp2_with fail
  go_loopw [19] (fun i wr => ∃ (k : Nat) (b : Rt), i = .int .i64 k ∧ k ≤ l.length - 1 ∧ RtIn b ∧ bestF side b (t.drop k) = R ∧ Two wr w.heap.size (.int .i64 0) (.int .i64 0) ∧ Two wr (w.heap.size + 1) (.int .i64 b.N) (.int .i64 b.D) ∧ Below w.heap.size w wr) (fun i _ => l.length - 1 - (intOf i).toNat)
  case atStart =>
    refine ⟨0, b0, rfl, Nat.zero_le _, hi0.out, ER.out, (Two.new w (.int .i64 0) (.int .i64 0) 29).alloc _, ?_, bel2 w _ _⟩
    have := Two.new (w.alloc (.cells #[.int .i64 0, .int .i64 0] 29)) (.int .i64 b0.N) (.int .i64 b0.D) 29
    rwa [show (w.alloc (.cells #[.int .i64 0, .int .i64 0] 29)).heap.size = w.heap.size + 1 by simp] at this
  case round =>
    clear e0 e1
    obtain ⟨k, b, rfl, hk, hbi, hr, T0, T1, hB⟩ := hrel
    have HR := hideR hr
    clear hr
    have z1 : w.heap.size + 1 < wr.heap.size := T1.1
    by_cases hk2 : k < l.length - 1
    · obtain ⟨p, hp⟩ : ∃ p, t[k]? = some p := ⟨_, List.getElem?_eq_getElem (by rw [HL.out]; exact hk2)⟩
      have HS := hideR (bestF_step hp side b)
      have hpi := HT.out p (List.mem_of_getElem? hp)
      have HC := cmp_any p b hpi hbi
      obtain ⟨d0, d1⟩ := (hRt.old hB).pair hp
      rw [addr_flat] at d0 d1
      clear hp
      unfold rtv at HC
      have HQ := hideR (show bestF side b (t.drop k) = bestF side (if cmpI p b = side then p else b) (t.drop (k + 1)) from HS.out)
      generalize cmpI p b = c at HC HQ
      have HC := hideR HC
      clear HS
      have T0a := T0.alloc (.cells #[.int .i64 p.N, .int .i64 p.D] 29)
      have T1a := T1.alloc (.cells #[.int .i64 p.N, .int .i64 p.D] 29)
      have P1a := Two.new wr (.int .i64 p.N) (.int .i64 p.D) 29
      have Ba := bup hB (bel1 wr (.cells #[.int .i64 p.N, .int .i64 p.D] 29))
      obtain ⟨_, s0, s1, _, _⟩ := id T1a
      clear T0 T1 hB
      go_wp2_with fail
      go_at_call 25
      refine Calls.mono (HC.out _) ?_
      rintro e w2 ⟨rfl, b2⟩
      have T0b := T0a.keep b2
      have T1b := T1a.keep b2
      have P1b := P1a.keep b2
      have Bb := bup Ba b2
      clear T0a T1a P1a Ba b2 s0 s1 d0 d1
      obtain ⟨_, s0, s1, s2, s3⟩ := id T1b
      obtain ⟨_, p0, p1, _, _⟩ := id P1b
      by_cases he : c = side
      · have HE := hideR (HQ.out.trans (by rw [if_pos he]))
        have hcs : (c == side) = true := by simpa using he
        have T0c := T0b.other (S := w.heap.size + 1) (x2 := .int .i64 p.N) (y2 := .int .i64 p.D) (by omega)
        have T1c := T1b.set (x2 := .int .i64 p.N) (y2 := .int .i64 p.D)
        have Bc := (Bb.setCell (p := ⟨w.heap.size + 1, 0, none⟩) (by simp) (.int .i64 p.N)).setCell (p := ⟨w.heap.size + 1, 1, none⟩) (by simp) (.int .i64 p.D)
        clear he
        go_wp2_with fail
        refine ⟨⟨k + 1, p, by go_num, by omega, hpi, HE.out.symm.trans HR.out, T0c, T1c, Bc⟩, ?_⟩
        simp [intOf]
        omega
      · have HE := hideR (HQ.out.trans (by rw [if_neg he]))
        have hcs : (c == side) = false := by simpa using he
        clear he
        go_wp2_with fail
        refine ⟨⟨k + 1, b, by go_num, by omega, hbi, HE.out.symm.trans HR.out, T0b, T1b, Bb⟩, ?_⟩
        simp [intOf]
        omega
    · obtain rfl : k = l.length - 1 := by omega
      have HE := hideR (bestF_end t side b)
      obtain ⟨_, s0, s1, _, _⟩ := id T1
      obtain ⟨_, n0, n1, n2, n3⟩ := id T0
      go_wp2_with fail
      exact bodyPost_ret (v := .tuple #[.agg #[.int .i64 b.N, .int .i64 b.D], .bool true]) (by simp [results, Tryd.results34, go_sem, n0, n1]) rfl ⟨by rw [← HR.out, ← HL.out, HE.out], (hB.setCell (by simp) _).setCell (by simp) _⟩
end Go.Proofs.YtifkoffjmdpgkaaDoor
