/- The contract of the sequence that utf.Signs tells: it goes over the signs of its text, in their order, and stops where a round says so. -/
import Derived.RangeFuncNested
import Derived.RangeFuncBound
import Derived.RangeFuncCalls
import Derived.RangeFuncLeaves
import Derived.Shelf.Abstract
import Derived.Shelf.RegionOpen
import Derived.WalkKit
import Derived.OwnWalkIn
import Derived.TacticsInMore
import Derived.LoopNIn
import Derived.LoopIn
import Derived.Test.YtbiodfeanngkdaaDoorW1
namespace Go.Proofs.YtbiodfeanngkdaaDoor
open Go.RowKit Go.Shelf
attribute [local go_sem] Oper.semAt_some

/-- What a round over Signs keeps: the text's own box, and whatever a walk leans on that was laid since. -/
def Kp (bx : Nat) (A B : World) : Prop := B.cell? ⟨bx, 0, none⟩ = A.cell? ⟨bx, 0, none⟩ ∧ ∀ k o, bx ≤ k → A.heap[k]? = some o → o.isWalk = true → B.heap[k]? = some o
theorem Kp_t {bx : Nat} {A B C : World} (h : Kp bx A B) (k : Kp bx B C) : Kp bx A C := ⟨k.1.trans h.1, fun i o hi ha ho => k.2 i o hi (h.2 i o hi ha ho) ho⟩
theorem Kp_b {bx : Nat} {w : World} (hb : bx < w.heap.size) (W : World) (l : Nat) (o o' : Obj) (hl : w.heap.size ≤ l) (h : W.heap[l]? = some o) (_ : o.isCells = false) (hw : o.isWalk = false) : Kp bx W (W.putObj l o') :=
  ⟨World.cell?_of_block (World.putObj_heap_other (by show bx ≠ l; omega)), fun k q _ hk hq => by
    by_cases e : k = l
    · subst e; rw [h] at hk; cases hk; rw [hw] at hq; cases hq
    · exact (World.putObj_heap_other e).trans hk⟩
theorem Kp_of {bx : Nat} {A B : World} (h : ∀ k, bx ≤ k → k < A.heap.size → B.heap[k]? = A.heap[k]?) (hb : bx < A.heap.size) : Kp bx A B :=
  ⟨World.cell?_of_block (h bx (Nat.le_refl _) hb), fun k _ hk ha _ => (h k hk (Array.getElem?_eq_some_iff.1 ha).1).trans ha⟩

theorem grownBy_iterAt (W : World) (k : Nat) (s : ByteArray) (p : Nat) : W.grownBy (W.iterAt k s p) (some k) :=
  ⟨rfl, rfl, rfl, by rw [Lib.iterAt_size]; exact Nat.le_refl _, fun i _ hi => Lib.iterAt_other W k i s p (fun e => hi (by rw [e]))⟩

set_option maxRecDepth 100000 in
set_option maxHeartbeats 1000000 in
theorem signs1_in (n l bx : Nat) (hn : 1 ≤ n) (s : ByteArray) (hs : s.size ≤ 140737488355328) (J Jx : List Sg → World → Prop) (W : World) (hJ : AbidesFrom W.heap.size J)
    (hY : ∀ pre x W1, J pre W1 → pre.length < (signs s).length → YieldAt Fence.wide (n - 1) Tryd.prog l #[x.val] W1 fun e W' =>
      (e = .returned (.bool true) ∧ J (pre ++ [x]) W' ∧ Kp bx W1 W') ∨ (e = .returned (.bool false) ∧ Jx (pre ++ [x]) W'))
    (hbx : bx < W.heap.size) (hc : W.cell? ⟨bx, 0, none⟩ = some (.string s)) (h0 : J [] W) :
    CallsIn Fence.wide n Tryd.prog 46 #[.func (.yield l) #[] #[], .pointer (some ⟨bx, 0, none⟩)] W fun e W' => (∃ v, e = .returned v) ∧
      ((∃ ys, ys = signs s ∧ J ys W') ∨ (∃ pre, pre <+: signs s ∧ Jx pre W')) := by
  refine callsIn_of_wp Tryd.func46 rfl trivial ?_ rfl
  simp only [Tryd.ntmps46, List.size_toArray, List.length_cons, List.length_nil, Nat.reduceAdd, Nat.reduceSub, Array.replicate_succ, Array.replicate_zero, List.push_toArray, List.append_toArray, List.nil_append, List.cons_append]
  gi_wp2
  gi_loopw [3, 4] (fun _ _ wr => ∃ (pre : List Sg) (pos b : Nat), wr.heap[W.heap.size]? = some (.stringIter s pos) ∧ J pre wr ∧ wr.cell? ⟨bx, 0, none⟩ = some (.string s) ∧ pre ++ sgns s b pos = signs s ∧ s.size ≤ pos + b)
    (fun _ _ wr => s.size - wr.iterPos W.heap.size)
  case atStart =>
    refine ⟨[], 0, s.size, World.alloc_heap_new W _, hJ _ _ _ none h0 (World.grownBy_alloc W _ none) (fun r e => by cases e), ?_, rfl, by omega⟩
    exact (((Below.refl W.heap.size W).alloc (Nat.le_refl _) _).cell (p := ⟨bx, 0, none⟩) hbx).trans hc
  case round =>
    obtain ⟨pre, pos, b, hit, hJs, hbc, hsg, hb⟩ := hrel
    have HS : Hid (pre ++ sgns s b pos = signs s) := hsg
    clear hsg
    have hkz : W.heap.size < wr.heap.size := (Array.getElem?_eq_some_iff.1 hit).1
    by_cases hp : pos < s.size
    · have hnx : ∀ ty, (Instr.next (.pointer (some ⟨W.heap.size, 0, none⟩)) true ty).run Tryd.prog wr = _ := fun ty => Lib.run_next_any_at wr W.heap.size s pos ty hit hp
      have hbc2 : (wr.iterAt W.heap.size s (pos + (Utf8.decode s pos).2)).cell? ⟨bx, 0, none⟩ = some (.string s) := (World.cell?_of_block (Lib.iterAt_other _ _ _ _ _ (by show bx ≠ _; omega))).trans hbc
      have hit2 := Lib.iterAt_heap wr W.heap.size s pos (pos + (Utf8.decode s pos).2) hit
      have hJ2 := hJ _ _ _ (some W.heap.size) hJs (grownBy_iterAt wr W.heap.size s (pos + (Utf8.decode s pos).2)) (fun r e => by cases e; exact ⟨Nat.le_refl _, _, hit, rfl⟩)
      have hwd := Lib.decode_width_pos s pos hp
      gi_wp2_with (refine ⟨trivial, ?_⟩; gi_at_call 47; refine (callsIn_wide.2 (signAt_any s pos _ _ hs (by omega))).mono ?_; rintro e w' ⟨rfl, v, rfl⟩)
      have hlen : pre.length < (signs s).length := by
        rw [← HS.out]
        cases b with
        | zero => omega
        | succ b => simp [sgns, hp]
      have hJ3 := hJ _ _ _ none hJ2 (World.grownBy_alloc _ (.cells v 55) none) (fun r e => by cases e)
      have hbc3 : ((wr.iterAt W.heap.size s (pos + (Utf8.decode s pos).2)).alloc (.cells v 55)).cell? ⟨bx, 0, none⟩ = some (.string s) := (((Below.refl _ _).alloc (Nat.le_refl _) _).cell (p := ⟨bx, 0, none⟩) (by rw [Lib.iterAt_size]; show bx < _; omega)).trans hbc2
      have hit3 : ((wr.iterAt W.heap.size s (pos + (Utf8.decode s pos).2)).alloc (.cells v 55)).heap[W.heap.size]? = some (.stringIter s (pos + (Utf8.decode s pos).2)) := (Below.heap_alloc _ _ _ (by rw [Lib.iterAt_size]; exact hkz)).trans hit2
      obtain ⟨fn, tmps, assign, body, hy, hR⟩ := hY pre (sgnR s pos (Utf8.decode s pos).1) _ hJ3 hlen
      rw [hy, Oper.uponIn_round]
      refine ⟨fun _ => hn, ?_⟩
      clear hy
      refine hR.mono ?_
      rintro e W3 (⟨rfl, hJ4, hk4⟩ | ⟨rfl, hJx4⟩)
      · gi_wp2
        go_roundw
        case rel =>
          cases b with
          | zero => omega
          | succ b =>
            refine ⟨pre ++ [sgn s pos], pos + (Utf8.decode s pos).2, b, hk4.2 _ _ (by omega) hit3 rfl, hJ4, hk4.1.trans hbc3, ?_, by omega⟩
            have := HS.out
            rw [sgns, if_pos hp] at this
            simpa using this
        case measure =>
          rw [iterPos_of hit, iterPos_of (hk4.2 _ _ (by omega) hit3 rfl)]
          omega
      · gi_wp2
        refine bodyPost_ret (results_none rfl _ _ _) rfl ?_
        refine ⟨⟨_, rfl⟩, .inr ⟨_, ?_, hJx4⟩⟩
        cases b with
        | zero => omega
        | succ b =>
          refine ⟨sgns s b (pos + (Utf8.decode s pos).2), ?_⟩
          have := HS.out
          rw [sgns, if_pos hp] at this
          simpa [sgn] using this
    · have hnx : ∀ ty, (Instr.next (.pointer (some ⟨W.heap.size, 0, none⟩)) true ty).run Tryd.prog wr = _ := fun ty => Lib.run_next_end_at wr W.heap.size s pos ty hit hp
      gi_wp2
      go_end0
      refine ⟨⟨_, rfl⟩, .inl ⟨pre, ?_, hJs⟩⟩
      have := HS.out
      rw [sgns_end s b pos hp] at this
      simpa using this

/-- utf.Signs's sequence over the text in the box bx. -/
theorem signs_stops (n bx : Nat) (hn : 1 ≤ n) (s : ByteArray) (hs : s.size ≤ 140737488355328) (w : World) (hbx : bx < w.heap.size) (hc : w.cell? ⟨bx, 0, none⟩ = some (.string s)) :
    SeqStopsK Fence.wide n Tryd.prog 46 #[.pointer (some ⟨bx, 0, none⟩)] (fun x : Sg => #[x.val]) (Kp bx) (fun ys => ys = signs s) (fun pre => pre <+: signs s) (signs s).length w :=
  fun l J Jx W hW hJ _ hY h0 => signs1_in n l bx hn s hs J Jx W hJ hY (by have := hW.size; omega) ((hW.cell (p := ⟨bx, 0, none⟩) hbx).trans hc) h0

end Go.Proofs.YtbiodfeanngkdaaDoor
