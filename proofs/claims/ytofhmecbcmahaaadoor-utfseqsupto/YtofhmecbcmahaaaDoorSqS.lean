/- The sequences of utf.Signs and utf.Lines, told by what their rounds may write; also for a loop inside of a round. -/
import Derived.Test.YtofhmecbcmahaaaDoorW2
import Derived.Test.YtofhmecbcmahaaaDoorLawS
import Derived.Test.YtofhmecbcmahaaaDoorLinesW
namespace Go.Proofs.YtofhmecbcmahaaaDoor
open Go.RowKit Go.Shelf
attribute [local go_sem] Oper.semAt_some

theorem keeps_iterAt (W : World) (k : Nat) (s : ByteArray) (p : Nat) : Keeps k (k + 1) W (W.iterAt k s p) :=
  ⟨rfl, rfl, rfl, by rw [Lib.iterAt_size]; exact Nat.le_refl _, fun i _ hi => Lib.iterAt_other W k i s p (by omega)⟩

set_option maxRecDepth 100000 in
set_option maxHeartbeats 1000000 in
theorem signs_seqS (n bx : Nat) (hn : 1 ≤ n) (s : ByteArray) (hs : s.size ≤ 140737488355328) (w : World) (hbx : bx < w.heap.size) (hc : w.cell? ⟨bx, 0, none⟩ = some (.string s)) :
    SeqS n 1 Tryd.prog 68 #[.pointer (some ⟨bx, 0, none⟩)] (fun x : Sg => #[x.val]) (signs s) (fun k => k ≠ bx) w := by
  intro M l J Jx W hM hWb hl hlW hJ hY h0
  have hWz := hWb.size
  have hcW := (hWb.cell (p := ⟨bx, 0, none⟩) hbx).trans hc
  have HB : Hid (∀ A B : World, W.heap.size + 1 ≤ A.heap.size → But (fun k => M k ∨ k = l ∨ W.heap.size + 1 ≤ k) A B → B.heap[bx]? = A.heap[bx]? ∧ B.heap[W.heap.size]? = A.heap[W.heap.size]?) := fun A B hA hb => by
    refine ⟨hb.same bx (by omega) ?_, hb.same W.heap.size (by omega) ?_⟩
    · rintro (e | e | e)
      · exact (hM _ e).2 rfl
      · omega
      · omega
    · rintro (e | e | e)
      · have := (hM _ e).1; omega
      · omega
      · omega
  clear hM hc
  refine callsIn_of_wp Tryd.func68 rfl trivial ?_ rfl
  simp only [Tryd.ntmps68, List.size_toArray, List.length_cons, List.length_nil, Nat.reduceAdd, Nat.reduceSub, Array.replicate_succ, Array.replicate_zero, List.push_toArray, List.append_toArray, List.nil_append, List.cons_append]
  gi_wp2
  gi_loopw [3, 4] (fun _ _ wr => ∃ (pre : List Sg) (pos b : Nat), wr.heap[W.heap.size]? = some (.stringIter s pos) ∧ J pre wr ∧ wr.cell? ⟨bx, 0, none⟩ = some (.string s) ∧ pre ++ sgns s b pos = signs s ∧ s.size ≤ pos + b)
    (fun _ _ wr => s.size - wr.iterPos W.heap.size)
  case atStart =>
    refine ⟨[], 0, s.size, World.alloc_heap_new W _, hJ _ _ _ h0 (Keeps.of_below ((Below.refl _ W).alloc (Nat.le_refl _) _)), ?_, rfl, by omega⟩
    exact (((Below.refl W.heap.size W).alloc (Nat.le_refl _) _).cell (p := ⟨bx, 0, none⟩) (show bx < W.heap.size by omega)).trans hcW
  case round =>
    obtain ⟨pre, pos, b, hit, hJs, hbc, hsg, hb⟩ := hrel
    have HS : Hid (pre ++ sgns s b pos = signs s) := hsg
    clear hsg
    have hkz : W.heap.size < wr.heap.size := (Array.getElem?_eq_some_iff.1 hit).1
    by_cases hp : pos < s.size
    · have hnx : ∀ ty, (Instr.next (.pointer (some ⟨W.heap.size, 0, none⟩)) true ty).run Tryd.prog wr = _ := fun ty => Lib.run_next_any_at wr W.heap.size s pos ty hit hp
      have hbc2 : (wr.iterAt W.heap.size s (pos + (Utf8.decode s pos).2)).cell? ⟨bx, 0, none⟩ = some (.string s) := (World.cell?_of_block (Lib.iterAt_other _ _ _ _ _ (by show bx ≠ _; omega))).trans hbc
      have hit2 := Lib.iterAt_heap wr W.heap.size s pos (pos + (Utf8.decode s pos).2) hit
      have hJ2 := hJ _ _ _ hJs (keeps_iterAt wr W.heap.size s (pos + (Utf8.decode s pos).2))
      have hwd := Lib.decode_width_pos s pos hp
      gi_wp2_with (refine ⟨trivial, ?_⟩; gi_at_call 69; refine (callsIn_wide.2 (signAt_any s pos _ _ hs (by omega))).mono ?_; rintro e w' ⟨rfl, v, rfl⟩)
      have hpx : pre ++ [sgn s pos] <+: signs s := by
        rw [← HS.out]
        cases b with
        | zero => omega
        | succ b => rw [sgns, if_pos hp]; exact ⟨sgns s b (pos + (Utf8.decode s pos).2), by simp⟩
      have hJ3 := hJ _ _ _ hJ2 (Keeps.of_below ((Below.refl _ _).alloc (Nat.le_refl _) (.cells v 63)))
      have hbc3 : ((wr.iterAt W.heap.size s (pos + (Utf8.decode s pos).2)).alloc (.cells v 63)).cell? ⟨bx, 0, none⟩ = some (.string s) := (((Below.refl _ _).alloc (Nat.le_refl _) _).cell (p := ⟨bx, 0, none⟩) (by rw [Lib.iterAt_size]; show bx < _; omega)).trans hbc2
      have hit3 : ((wr.iterAt W.heap.size s (pos + (Utf8.decode s pos).2)).alloc (.cells v 63)).heap[W.heap.size]? = some (.stringIter s (pos + (Utf8.decode s pos).2)) := (Below.heap_alloc _ _ _ (by rw [Lib.iterAt_size]; exact hkz)).trans hit2
      have hz3 : W.heap.size + 1 ≤ ((wr.iterAt W.heap.size s (pos + (Utf8.decode s pos).2)).alloc (.cells v 63)).heap.size := by rw [World.size_alloc, Lib.iterAt_size]; omega
      obtain ⟨fn, tmps, assign, body, hy, hR⟩ := hY pre (sgnR s pos (Utf8.decode s pos).1) _ hJ3 hz3 hpx
      rw [hy, Oper.uponIn_round]
      refine ⟨fun _ => hn, ?_⟩
      clear hy
      refine hR.mono ?_
      rintro e W3 (⟨rfl, hJ4, hk4⟩ | ⟨rfl, hJx4⟩)
      · obtain ⟨q1, q2⟩ := HB.out _ _ hz3 hk4
        gi_wp2
        go_roundw
        case rel =>
          cases b with
          | zero => omega
          | succ b =>
            refine ⟨pre ++ [sgn s pos], pos + (Utf8.decode s pos).2, b, q2.trans hit3, hJ4, (World.cell?_of_block q1).trans hbc3, ?_, by omega⟩
            have := HS.out
            rw [sgns, if_pos hp] at this
            simpa using this
        case measure =>
          rw [iterPos_of hit, iterPos_of (q2.trans hit3)]
          omega
      · gi_wp2
        refine bodyPost_ret (results_none rfl _ _ _) rfl ?_
        exact ⟨⟨_, rfl⟩, .inr ⟨_, hpx, hJx4⟩⟩
    · have hnx : ∀ ty, (Instr.next (.pointer (some ⟨W.heap.size, 0, none⟩)) true ty).run Tryd.prog wr = _ := fun ty => Lib.run_next_end_at wr W.heap.size s pos ty hit hp
      gi_wp2
      go_end0
      refine ⟨⟨_, rfl⟩, .inl ?_⟩
      have := HS.out
      rw [sgns_end s b pos hp, List.append_nil] at this
      rwa [← this]

set_option maxRecDepth 100000 in
set_option maxHeartbeats 1000000 in
theorem lines_seqS (n bx : Nat) (hn : 1 ≤ n) (s : ByteArray) (hs : s.size ≤ 140737488355328) (w : World) (hbx : bx < w.heap.size) (hc : w.cell? ⟨bx, 0, none⟩ = some (.string s)) :
    SeqS n 0 Tryd.prog 70 #[.pointer (some ⟨bx, 0, none⟩)] (fun x : Ln s => x.vals) (lines s) (fun k => k ≠ bx) w := by
  intro M l J Jx W hM hWb hl hlW hJ hY h0
  have hWz := hWb.size
  have hcW := (hWb.cell (p := ⟨bx, 0, none⟩) hbx).trans hc
  have HB : Hid (∀ A B : World, W.heap.size ≤ A.heap.size → But (fun k => M k ∨ k = l ∨ W.heap.size + 0 ≤ k) A B → B.heap[bx]? = A.heap[bx]?) := fun A B hA hb => by
    refine hb.same bx (by omega) ?_
    rintro (e | e | e)
    · exact (hM _ e).2 rfl
    · omega
    · omega
  clear hM hc
  refine callsIn_of_wp Tryd.func70 rfl trivial ?_ rfl
  simp only [Tryd.ntmps70, List.size_toArray, List.length_cons, List.length_nil, Nat.reduceAdd, Nat.reduceSub, Array.replicate_succ, Array.replicate_zero, List.push_toArray, List.append_toArray, List.nil_append, List.cons_append]
  gi_wp2
  gi_loopw [3, 4] (fun i _ wr => ∃ (pre : List (Ln s)) (pos b : Nat), i = .int .i64 pos ∧ pos ≤ s.size ∧ W.heap.size ≤ wr.heap.size ∧ J pre wr ∧ wr.cell? ⟨bx, 0, none⟩ = some (.string s) ∧ pre ++ linesF s b pos = lines s ∧ s.size ≤ pos + b)
    (fun i _ _ => s.size - (intOf i).toNat)
  case atStart => exact ⟨[], 0, s.size, rfl, Nat.zero_le _, Nat.le_refl _, h0, hcW, rfl, by omega⟩
  case round =>
    obtain ⟨pre, pos, b, rfl, hpos, hbr, hJs, hbc, hsg, hb⟩ := hrel
    have HS : Hid (pre ++ linesF s b pos = lines s) := hsg
    clear hsg
    by_cases hp : pos < s.size
    · have hpx : pre ++ [lnAt s pos hp] <+: lines s := by
        rw [← HS.out]
        cases b with
        | zero => omega
        | succ b => rw [linesF, dif_pos hp]; exact ⟨linesF s b (lnAt s pos hp).next, by simp⟩
      have HPX : Hid (pre ++ [lnAt s pos hp] <+: lines s) := hpx
      have hx1 := (lnAt s pos hp).h1
      have hx2 := (lnAt s pos hp).h2
      have hnx := (lnAt s pos hp).next_lt
      have hfin : (lnAt s pos hp).fin = lineE s pos := rfl
      have hloc : (lnAt s pos hp).loc = pos := rfl
      rw [hfin] at hx1 hx2
      rw [hloc] at hx1 hnx
      have hcut : (s.extract pos (lineE s pos)).size ≤ 140737488355328 := by simp only [ByteArray.size_extract]; omega
      clear hfin hloc hpx
      gi_wp2_with (first | (refine ⟨trivial, ?_⟩; gi_at_call 71; refine (callsIn_wide.2 (lineEnd_any s pos _ hs (by omega))).mono ?_; rintro e w' ⟨rfl, rfl⟩) | (refine ⟨trivial, ?_⟩; gi_at_call 60; refine (callsIn_wide.2 (clone_any _ _ hcut)).mono ?_; rintro e w1 ⟨rfl, hB1⟩))
      have hJ1 := hJ _ _ _ hJs (Keeps.of_below hB1)
      have hbc1 := (hB1.cell (p := ⟨bx, 0, none⟩) (Nat.lt_of_lt_of_le hbx (Nat.le_trans hWz hbr))).trans hbc
      have hz1 := hB1.size
      obtain ⟨fn, tmps, assign, body, hy, hR⟩ := hY pre (lnAt s pos hp) _ hJ1 (by omega) HPX.out
      have hy2 : (Instr.yield l #[.int .i64 pos, .string (s.extract pos (lineE s pos))]).run Tryd.prog w1 = _ := hy
      rw [hy2, Oper.uponIn_round]
      clear hy hy2
      refine ⟨fun _ => hn, ?_⟩
      refine hR.mono ?_
      clear hR
      have HN : Hid ((lineE s pos : Int) + endL (s.extract (lineE s pos) s.size) = ((lnAt s pos hp).next : Nat)) := by
        have := (endL_bd (s.extract (lineE s pos) s.size)).1
        have e : (lnAt s pos hp).next = lineE s pos + (endL (s.extract (lineE s pos) s.size)).toNat := rfl
        show (lineE s pos : Int) + endL (s.extract (lineE s pos) s.size) = ((lnAt s pos hp).next : Nat)
        rw [e]
        omega
      have hbd := endL_bd (s.extract (lineE s pos) s.size)
      have hbd1 := hbd.1
      have hbd2 := hbd.2.1
      clear hbd hbc hJs hB1
      rintro e W3 (⟨rfl, hJ4, hk4⟩ | ⟨rfl, hJx4⟩)
      · have q1 := HB.out _ _ (by omega) hk4
        have hbc3 : W3.cell? ⟨bx, 0, none⟩ = some (.string s) := (World.cell?_of_block q1).trans hbc1
        have hb3 : W.heap.size ≤ W3.heap.size := by have := hk4.size; omega
        gi_wp2_with (refine ⟨trivial, ?_⟩; gi_at_call 72; refine (callsIn_wide.2 (endLen_any _ _)).mono ?_; rintro e w' ⟨rfl, rfl⟩)
        go_roundw
        case rel =>
          cases b with
          | zero => omega
          | succ b =>
            refine ⟨pre ++ [lnAt s pos hp], (lnAt s pos hp).next, b, by rw [HN.out], hnx.2, hb3, hJ4, hbc3, ?_, by omega⟩
            have := HS.out
            rw [linesF, dif_pos hp] at this
            simpa using this
        case measure =>
          rw [HN.out]
          simp [intOf]
          omega
      · gi_wp2
        refine bodyPost_ret (results_none rfl _ _ _) rfl ?_
        exact ⟨⟨_, rfl⟩, .inr ⟨_, HPX.out, hJx4⟩⟩
    · gi_wp2
      go_end0
      refine ⟨⟨_, rfl⟩, .inl ?_⟩
      have := HS.out
      rw [linesF_end s b pos hp, List.append_nil] at this
      rwa [← this]
end Go.Proofs.YtofhmecbcmahaaaDoor
