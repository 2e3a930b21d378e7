/- Several texts, one behind the other. -/
import Derived.RangeFuncNested
import Derived.RangeFuncBound
import Derived.RangeFuncCalls
import Derived.RangeFuncLeaves
import Derived.Shelf.Abstract
import Derived.Deep.RegionHeld
import Derived.Test.YtknpgifloddflaaGreatDoorCellM
import Derived.Test.YtknpgifloddflaaGreatDoorCellW1
import Derived.Test.YtknpgifloddflaaGreatDoorLawL
import Derived.Test.YtknpgifloddflaaGreatDoorW1
/- Contracts of speed.Count: the signs that are read. -/
namespace Go.Proofs.YtknpgifloddflaaGreatDoor
open Go.RowKit Go.Shelf

def blankR (r : Int) : Bool := decide (r = 32 ∨ r = 160 ∨ r = 12288)
/-- Is a sign read? -/
def readB (r : Int) : Bool := decide (0 < widthI r) && !blankR r
/-- How many signs are read. -/
def readN (l : List Sg) : Nat := (l.filter fun x => readB x.rune).length
theorem readN_snoc (l : List Sg) (x : Sg) : readN (l ++ [x]) = readN l + if readB x.rune then 1 else 0 := by
  unfold readN
  rw [List.filter_append, List.length_append]
  cases h : readB x.rune <;> simp [List.filter, h]

set_option maxHeartbeats 400000 in
theorem isBlank_any (r : Int) (w : World) : Calls Tryz.prog 41 #[.int .i32 r] w fun e w' => e = .returned (.bool (blankR r)) ∧ w' = w := by
  by_cases h1 : r = 32
  · subst h1
    go_enter Tryz.func41, Tryz.ntmps41
    go_wp2
    go_ret
    exact ⟨rfl, rfl⟩
  by_cases h2 : r = 160
  · subst h2
    go_enter Tryz.func41, Tryz.ntmps41
    go_wp2
    go_ret
    exact ⟨rfl, rfl⟩
  have hv : blankR r = decide (r = 12288) := by simp [blankR, h1, h2]
  rw [hv]
  have k1 : (r == 32) = false := beq_eq_false_iff_ne.2 h1
  have k2 : (r == 160) = false := beq_eq_false_iff_ne.2 h2
  clear hv
  go_enter Tryz.func41, Tryz.ntmps41
  go_wp2
  go_ret
  refine ⟨?_, rfl⟩
  by_cases h3 : r = 12288
  · subst h3; rfl
  · simp [h3]

theorem cell_four_new2 (w : World) (a b c d : Value) (t : TypeId) : (w.alloc (.cells #[a, b, c, d] t)).cell? ⟨w.heap.size, 2, none⟩ = some c := by
  unfold World.cell?
  rw [show (w.alloc (.cells #[a, b, c, d] t)).heap[w.heap.size]? = _ from World.alloc_heap_new w _]
  rfl

set_option maxRecDepth 100000 in
set_option maxHeartbeats 400000 in
theorem see_any (b N : Nat) (x : Sg) (n : Nat) (hn : n < 140737488355329) (w : World) (hT : Tabs N w) (hb : Boxed w b 50 (.int .i64 n)) :
    Calls Tryz.prog 20 #[.pointer (some ⟨b, 0, none⟩), x.val] w fun e w' => e = .returned (.bool true) ∧ But (fun k => k = b) w w' ∧ Boxed w' b 50 (.int .i64 ((n + if readB x.rune then 1 else 0 : Nat) : Int)) := by
  obtain ⟨lc, ln, r, bad, sm⟩ := x
  unfold Sg.val
  dsimp only
  have hz := hb.lt
  cases hv : readB r
  all_goals
    have HV := hideC hv
    clear hv
    simp only [Bool.false_eq_true, if_false, if_true, Nat.add_zero]
    go_enter Tryz.func20, Tryz.ntmps20
    go_wp2_with fail
    refine (width_any r N _ (hT.below ((Below.refl _ w).alloc (Nat.le_refl _) _))).mono ?_
    rintro e w1 ⟨rfl, b1⟩
    have c0 : w1.cell? ⟨w.heap.size, 2, none⟩ = some (.int .i32 r) := (b1.cell (p := ⟨w.heap.size, 2, none⟩) (by simp)).trans (cell_four_new2 _ _ _ _ _ _)
    have h1 : Boxed w1 b 50 (.int .i64 n) := (b1.block b (by simp; omega)).trans (hb.alloc _)
    have hw1 : But (fun k => k = b) w w1 := But.grown ((((Below.refl w.heap.size w).alloc (Nat.le_refl _) _)).trans (b1.mono (by simp)))
    clear b1 hb hT
    have hc := h1.cell
    have hf := h1.frozen
    have H1 := hideC (And.intro h1 hw1)
    clear h1 hw1
    by_cases hw : 0 < widthI r
    · cases hq : blankR r
      · first
          | (exfalso; have := HV.out; simp [readB, hw, hq] at this; done)
          | (
            generalize widthI r = wd at *
            go_wp2_with (go_at_call 41; refine (isBlank_any r _).mono ?_; rw [hq]; rintro e w2 ⟨rfl, rfl⟩)
            go_ret
            obtain ⟨h1, hw1⟩ := H1.out
            exact ⟨rfl, hw1.setCell rfl _, h1.set (.int .i64 ((n : Int) + 1))⟩)
      · first
          | (exfalso; have := HV.out; simp [readB, hw, hq] at this; done)
          | (
            generalize widthI r = wd at *
            go_wp2_with (go_at_call 41; refine (isBlank_any r _).mono ?_; rw [hq]; rintro e w2 ⟨rfl, rfl⟩)
            go_ret
            obtain ⟨h1, hw1⟩ := H1.out
            exact ⟨rfl, hw1, h1⟩)
    · first
        | (exfalso; have := HV.out; simp [readB, hw] at this; done)
        | (
          generalize widthI r = wd at *
          go_wp2
          go_ret
          obtain ⟨h1, hw1⟩ := H1.out
          exact ⟨rfl, hw1, h1⟩)

theorem grownBy_iterAtS (W : World) (k : Nat) (s : ByteArray) (p : Nat) : W.grownBy (W.iterAt k s p) (some k) :=
  ⟨rfl, rfl, rfl, by rw [Lib.iterAt_size]; exact Nat.le_refl _, fun i _ hi => Lib.iterAt_other W k i s p (fun e => hi (by rw [e]))⟩
theorem readN_le (l : List Sg) : readN l ≤ l.length := List.length_filter_le _ _

set_option maxRecDepth 100000 in
set_option maxHeartbeats 400000 in
/-- utf.Signs's sequence, called with a counter's method value. -/
theorem signs_see (b bx N : Nat) (hN : N ≤ b) (hne : b ≠ bx) (s : ByteArray) (hs : s.size < 140737488355329) (W : World) (hT : Tabs N W) (hb : Boxed W b 50 (.int .i64 0)) (hx : Boxed W bx 9 (.string s)) :
    Calls Tryz.prog 38 #[.func (.func 20) #[.pointer (some ⟨b, 0, none⟩)] #[], .pointer (some ⟨bx, 0, none⟩)] W fun e W' => (∃ v, e = .returned v) ∧
      Boxed W' b 50 (.int .i64 (readN (signs s))) ∧ But (fun k => k = b) W W' := by
  have hcx := hx.cell
  have hlx := hx.lt
  have hlb := hb.lt
  go_enter Tryz.func38, Tryz.ntmps38
  go_wp2
  go_loopw [3, 4] (fun _ _ wr => ∃ (pre : List Sg) (pos f : Nat), wr.heap[W.heap.size]? = some (.stringIter s pos) ∧ Boxed wr b 50 (.int .i64 (readN pre)) ∧ But (fun k => k = b) W wr ∧ pre ++ sgns s f pos = signs s ∧ s.size ≤ pos + f ∧ pre.length ≤ pos)
    (fun _ _ wr => s.size - wr.iterPos W.heap.size)
  case atStart =>
    refine ⟨[], 0, s.size, World.alloc_heap_new W _, hb.alloc _, (But.refl _ W).alloc _, rfl, by omega, by simp⟩
  case round =>
    obtain ⟨pre, pos, f, hit, hbr, hbut, hsg, hf, hpl⟩ := hrel
    have hkz : W.heap.size < wr.heap.size := (Array.getElem?_eq_some_iff.1 hit).1
    have hrl := readN_le pre
    have HIT := hideC hit
    by_cases hp : pos < s.size
    · have hnx : ∀ ty, (Instr.next (.pointer (some ⟨W.heap.size, 0, none⟩)) true ty).run Tryz.prog wr = _ := fun ty => Lib.run_next_any_at wr W.heap.size s pos ty hit hp
      have hxr : Boxed wr bx 9 (.string s) := (hbut.same bx hlx (fun e => hne e.symm)).trans hx
      generalize hV : wr.iterAt W.heap.size s (pos + (Utf8.decode s pos).2) = V at *
      have hVo : ∀ k, k ≠ W.heap.size → V.heap[k]? = wr.heap[k]? := fun k hk => by rw [← hV]; exact Lib.iterAt_other _ _ _ _ _ hk
      have hVz : V.heap.size = wr.heap.size := by rw [← hV]; exact Lib.iterAt_size _ _ _ _
      have hVi : V.heap[W.heap.size]? = some (.stringIter s (pos + (Utf8.decode s pos).2)) := by rw [← hV]; exact Lib.iterAt_heap wr W.heap.size s pos _ hit
      have hVg : But (fun k => k = b ∨ k = W.heap.size) wr V := by
        have := grownBy_iterAtS wr W.heap.size s (pos + (Utf8.decode s pos).2)
        rw [hV] at this
        exact ⟨this.os, this.tape, this.output, this.size, fun k hk hn => hVo k (fun e => hn (.inr e))⟩
      have hcxV : V.cell? ⟨bx, 0, none⟩ = some (.string s) := (show Boxed V bx 9 (.string s) from (hVo bx (by omega)).trans hxr).cell
      have hbV : Boxed V b 50 (.int .i64 (readN pre)) := (hVo b (by omega)).trans hbr
      have hTV : Tabs N V := hT.kept (by have := hbut.size; omega) (fun k hk => (hVo k (by have := hT.room; omega)).trans (hbut.same k (by have := hT.room; omega) (by omega)))
      have hwd := Lib.decode_width_pos s pos hp
      have HH := hideC (And.intro hsg (And.intro hVi (And.intro hVg (And.intro hbV (And.intro hTV hVz)))))
      clear hsg hVi hVg hbV hTV hVz hVo hV hxr hit hbr
      go_wp2_with (go_at_call 39; refine (signAt_any s pos _ _ (by omega) (by omega)).mono ?_; rintro e w' ⟨rfl, v, rfl⟩)
      obtain ⟨hsg, hVi, hVg, hbV, hTV, hVz⟩ := HH.out
      refine (see_any b N (sgnR s pos (Utf8.decode s pos).1) (readN pre) (by omega) _ (hTV.below ((Below.refl _ V).alloc (Nat.le_refl _) _)) (hbV.alloc _)).mono ?_
      rintro e w3 ⟨rfl, d3, b3⟩
      have hi3 : w3.heap[W.heap.size]? = some (.stringIter s (pos + (Utf8.decode s pos).2)) := (d3.same _ (by simp; omega) (by omega)).trans ((Below.heap_alloc _ _ _ (by omega)).trans hVi)
      have hb3 : But (fun k => k = b) W w3 := by
        refine ⟨d3.os.trans (hVg.os.trans hbut.os), d3.tape.trans (hVg.tape.trans hbut.tape), d3.output.trans (hVg.output.trans hbut.output), ?_, fun k hk hn => ?_⟩
        · have h1 := d3.size
          have h2 := hbut.size
          simp at h1
          omega
        · exact (d3.same k (by simp; omega) hn).trans ((Below.heap_alloc _ _ _ (by omega)).trans ((hVg.same k (by omega) (by omega)).trans (hbut.same k hk hn)))
      have H3 := hideC (And.intro hi3 (And.intro hb3 b3))
      clear hi3 hb3 b3 d3 hsg hVi hVg hbV hTV hVz hbut
      go_wp2
      go_roundw
      case rel =>
        obtain ⟨hi3, hb3, b3⟩ := H3.out
        obtain ⟨hsg, -⟩ := HH.out
        cases f with
        | zero => omega
        | succ f =>
          refine ⟨pre ++ [sgn s pos], pos + (Utf8.decode s pos).2, f, hi3, ?_, hb3, ?_, by omega, by simp; omega⟩
          · rw [readN_snoc]
            exact b3
          · rw [sgns, if_pos hp] at hsg
            simpa using hsg
      case measure =>
        obtain ⟨hi3, hb3, b3⟩ := H3.out
        have hit0 := HIT.out
        rw [iterPos_of hit0, iterPos_of hi3]
        omega
    · have hnx : ∀ ty, (Instr.next (.pointer (some ⟨W.heap.size, 0, none⟩)) true ty).run Tryz.prog wr = _ := fun ty => Lib.run_next_end_at wr W.heap.size s pos ty hit hp
      have HH := hideC (And.intro hsg (And.intro hbr hbut))
      clear hsg hbr hbut
      go_wp2
      go_end0
      obtain ⟨hsg, hbr, hbut⟩ := HH.out
      refine ⟨⟨_, rfl⟩, ?_, hbut⟩
      rw [sgns_end s f pos hp, List.append_nil] at hsg
      rw [← hsg]
      exact hbr

set_option maxRecDepth 100000 in
set_option maxHeartbeats 400000 in
theorem scount_any (s : ByteArray) (hs : s.size < 140737488355329) (v : Value) (N : Nat) (w : World) (hT : Tabs N w) :
    Calls Tryz.prog 9 #[.agg #[.string s, v]] w fun e w' => e = .returned (.int .i64 (readN (signs s))) ∧ Below w.heap.size w w' := by
  go_enter Tryz.func9, Tryz.ntmps9
  go_wp2_with (go_at_call 19; refine (signs_mk s _).mono ?_; rintro e w' ⟨rfl, rfl⟩)
  have b1 : Boxed (((w.alloc (.cells #[.string s, v] 24)).alloc (.cells #[.int .i64 0] 50)).alloc (.cells #[.string s] 9)) (w.heap.size + 1) 50 (.int .i64 0) := by
    have := Boxed.new (w.alloc (.cells #[.string s, v] 24)) 50 (.int .i64 0)
    rw [World.size_alloc] at this
    exact this.alloc _
  have b2 : Boxed (((w.alloc (.cells #[.string s, v] 24)).alloc (.cells #[.int .i64 0] 50)).alloc (.cells #[.string s] 9)) (w.heap.size + 1 + 1) 9 (.string s) := by
    have := Boxed.new ((w.alloc (.cells #[.string s, v] 24)).alloc (.cells #[.int .i64 0] 50)) 9 (.string s)
    simpa only [World.size_alloc] using this
  have bb : Below w.heap.size w (((w.alloc (.cells #[.string s, v] 24)).alloc (.cells #[.int .i64 0] 50)).alloc (.cells #[.string s] 9)) :=
    (((Below.refl _ w).alloc (Nat.le_refl _) _).alloc (by simp) _).alloc (by simp; omega) _
  refine (signs_see (w.heap.size + 1) (w.heap.size + 1 + 1) N (by have := hT.room; omega) (by omega) s hs _ (hT.below bb) b1 b2).mono ?_
  rintro e w1 ⟨⟨u, rfl⟩, c1, d1⟩
  have hc := c1.cell
  have bw : Below w.heap.size w w1 := bb.trans (d1.below (by simp; omega) (fun k h => by omega))
  have HB := hideC bw
  clear b1 b2 bb c1 d1 bw
  go_wp2
  go_ret
  exact ⟨rfl, HB.out⟩

end Go.Proofs.YtknpgifloddflaaGreatDoor

/- Contracts of style.Check at texts without spans, of mark.Name at the empty name, of cmp.Or at two numbers. -/
namespace Go.Proofs.YtknpgifloddflaaGreatDoor
open Go.RowKit

set_option maxRecDepth 100000 in
set_option maxHeartbeats 400000 in
theorem spclone_nil (w : World) : Calls Tryz.prog 95 #[.slice none 0 0] w fun e w' => e = .returned (.slice none 0 0) ∧ w' = w := by
  have he : ∀ W, (binOp .eql 22 (.slice none 0 0) (.slice none 0 0)).run Tryz.prog W = .ok (.bool true) W := fun W => by kernel_rfl
  go_enter Tryz.func95, Tryz.ntmps95
  go_wp2
  go_ret
  exact ⟨rfl, rfl⟩
set_option maxHeartbeats 400000 in
theorem insert_nil (v f : Value) (w : World) : Calls Tryz.prog 107 #[v, .int .i64 0, .int .i64 0, f] w fun e w' => e = .returned (.tuple #[]) ∧ w' = w := by
  go_enter Tryz.func107, Tryz.ntmps107
  go_wp2
  go_loopw [8] (fun i wr => i = .int .i64 1 ∧ wr = w) (fun _ _ => 0)
  case atStart => exact ⟨rfl, rfl⟩
  case round =>
    obtain ⟨rfl, rfl⟩ := hrel
    go_wp2
    go_end0
    exact ⟨rfl, rfl⟩
set_option maxHeartbeats 400000 in
theorem stable_nil (v f : Value) (w : World) : Calls Tryz.prog 100 #[v, .int .i64 0, f] w fun e w' => e = .returned (.tuple #[]) ∧ w' = w := by
  go_enter Tryz.func100, Tryz.ntmps100
  go_wp2
  go_loopw [7, 8] (fun i j wr => i = .int .i64 0 ∧ j = .int .i64 20 ∧ wr = w) (fun _ _ _ => 0)
  case atStart => exact ⟨rfl, rfl, rfl⟩
  case round =>
    obtain ⟨rfl, rfl, rfl⟩ := hrel
    go_wp2_with (go_at_call 107; refine (insert_nil _ _ _).mono ?_; rintro e w' ⟨rfl, rfl⟩)
    go_loopw [6, 7, 8] (fun k i j wr => k = .int .i64 20 ∧ i = .int .i64 0 ∧ j = .int .i64 20 ∧ wr = w') (fun _ _ _ _ => 0)
    case atStart => exact ⟨rfl, rfl, rfl, rfl⟩
    case round =>
      obtain ⟨rfl, rfl, rfl, rfl⟩ := hrel
      go_wp2
      go_end0
      exact ⟨rfl, rfl⟩
set_option maxHeartbeats 400000 in
theorem sortst_nil (f : Value) (w : World) : Calls Tryz.prog 96 #[.slice none 0 0, f] w fun e w' => e = .returned (.tuple #[]) ∧ w' = w := by
  go_enter Tryz.func96, Tryz.ntmps96
  go_wp2_with (go_at_call 100; refine (stable_nil _ _ _).mono ?_; rintro e w' ⟨rfl, rfl⟩)
  go_end0
  exact ⟨rfl, rfl⟩
set_option maxHeartbeats 400000 in
theorem outerFirst_nil (w : World) : Calls Tryz.prog 84 #[.slice none 0 0] w fun e w' => e = .returned (.slice none 0 0) ∧ w' = w := by
  go_enter Tryz.func84, Tryz.ntmps84
  go_wp2_with fail
  refine (spclone_nil _).mono ?_
  rintro e w' ⟨rfl, rfl⟩
  go_wp2_with (go_at_call 96; refine (sortst_nil _ _).mono ?_; rintro e w' ⟨rfl, rfl⟩)
  go_ret
  exact ⟨rfl, rfl⟩
set_option maxHeartbeats 400000 in
theorem cross_nil (w : World) : Calls Tryz.prog 67 #[.slice none 0 0] w fun e w' => e = .returned (.bool false) ∧ Below w.heap.size w w' := by
  go_enter Tryz.func67, Tryz.ntmps67
  go_wp2_with (go_at_call 84; refine (outerFirst_nil _).mono ?_; rintro e w' ⟨rfl, rfl⟩)
  go_loopw [9] (fun i wr => i = .int .i64 0 ∧ wr = w') (fun _ _ => 0)
  case atStart => exact ⟨rfl, rfl⟩
  case round =>
    obtain ⟨rfl, rfl⟩ := hrel
    go_wp2
    go_ret
    exact ⟨rfl, Below.refl _ _⟩
set_option maxHeartbeats 400000 in
theorem allFit_nil (n : Int) (w : World) : Calls Tryz.prog 65 #[.slice none 0 0, .int .i64 n] w fun e w' => e = .returned (.bool true) ∧ Below w.heap.size w w' := by
  go_enter Tryz.func65, Tryz.ntmps65
  go_wp2
  go_loopw [9] (fun i wr => i = .int .i64 0 ∧ wr = w) (fun _ _ => 0)
  case atStart => exact ⟨rfl, rfl⟩
  case round =>
    obtain ⟨rfl, rfl⟩ := hrel
    go_wp2
    go_ret
    exact ⟨rfl, Below.refl _ _⟩

set_option maxRecDepth 100000 in
set_option maxHeartbeats 400000 in
theorem stcount_any (s : ByteArray) (w : World) (_hs : s.size ≤ 140737488355328) : Calls Tryz.prog 66 #[.string s] w fun e w' => e = .returned (.int .i64 (signs s).length) ∧ Below w.heap.size w w' := by
  go_enter Tryz.func66, Tryz.ntmps66
  go_wp2
  go_loopw [3] (fun n w' => ∃ (pos b : Nat) (acc : Nat), w' = w.iter s pos ∧ n = .int .i64 acc ∧ acc + (sgns s b pos).length = (signs s).length ∧ s.size ≤ pos + b ∧ acc ≤ pos) (fun _ w' => s.size - w'.iterPos w.heap.size)
  case atStart => exact ⟨0, s.size, 0, rfl, rfl, by simp [signs], by omega, by omega⟩
  case round =>
    obtain ⟨pos, b, acc, rfl, rfl, hc, hb, ha⟩ := hrel
    have HC : Hid (acc + (sgns s b pos).length = (signs s).length) := hc
    clear hc
    by_cases hp : pos < s.size
    · have hnx : ∀ ty, (Instr.next (.pointer (some ⟨w.heap.size, 0, none⟩)) true ty).run Tryz.prog (w.iter s pos) = _ := fun ty => run_next_any w s pos ty hp
      go_wp2
      have hwd := Lib.decode_width_pos s pos hp
      go_roundw
      case rel =>
        cases b with
        | zero => omega
        | succ b =>
          refine ⟨pos + (Utf8.decode s pos).2, b, acc + 1, rfl, by go_num, ?_, by omega, by omega⟩
          have := HC.out
          rw [sgns, if_pos hp] at this
          simp at this
          omega
      case measure =>
        simp
        omega
    · have hnx : ∀ ty, (Instr.next (.pointer (some ⟨w.heap.size, 0, none⟩)) true ty).run Tryz.prog (w.iter s pos) = _ := fun ty => run_next_end w s pos ty hp
      go_wp2
      go_ret
      have := HC.out
      rw [sgns_end s b pos hp] at this
      simp at this
      subst this
      exact ⟨rfl, (Below.refl _ w).alloc (Nat.le_refl _) _⟩

theorem cell_two_newA (w : World) (a b : Value) (t : TypeId) : (w.alloc (.cells #[a, b] t)).cell? ⟨w.heap.size, 0, none⟩ = some a := by
  unfold World.cell?
  rw [show (w.alloc (.cells #[a, b] t)).heap[w.heap.size]? = _ from World.alloc_heap_new w _]
  rfl
theorem cell_two_newB (w : World) (a b : Value) (t : TypeId) : (w.alloc (.cells #[a, b] t)).cell? ⟨w.heap.size, 1, none⟩ = some b := by
  unfold World.cell?
  rw [show (w.alloc (.cells #[a, b] t)).heap[w.heap.size]? = _ from World.alloc_heap_new w _]
  rfl

set_option maxRecDepth 100000 in
set_option maxHeartbeats 1000000 in
theorem stcheck_plain (s : ByteArray) (hs : s.size ≤ 4096) (w : World) : Calls Tryz.prog 46 #[.agg #[.string s, .slice none 0 0]] w fun e w' => e = .returned (.int .i64 0) ∧ Below w.heap.size w w' := by
  go_enter Tryz.func46, Tryz.ntmps46
  go_wp2_with fail
  have c0 : (w.alloc (.cells #[.string s, .slice none 0 0] 24)).cell? ⟨w.heap.size, 0, none⟩ = some (.string s) := cell_two_newA _ _ _ _
  have c1 : (w.alloc (.cells #[.string s, .slice none 0 0] 24)).cell? ⟨w.heap.size, 1, none⟩ = some (.slice none 0 0) := cell_two_newB _ _ _ _
  have bb : Below w.heap.size w (w.alloc (.cells #[.string s, .slice none 0 0] 24)) := (Below.refl _ w).alloc (Nat.le_refl _) _
  have hz : w.heap.size < (w.alloc (.cells #[.string s, .slice none 0 0] 24)).heap.size := by simp
  generalize w.alloc (.cells #[.string s, .slice none 0 0] 24) = V at *
  go_region_held (fun w' => w'.cell? ⟨w.heap.size, 0, none⟩ = some (.string s) ∧ w'.cell? ⟨w.heap.size, 1, none⟩ = some (.slice none 0 0)) (first | go_keep | assumption) (first
    | (go_at_call 66; refine (stcount_any s _ (by omega)).mono ?_; rintro e w1 ⟨rfl, b1⟩; have d0 : w1.cell? ⟨w.heap.size, 0, none⟩ = some (.string s) := (b1.cell (p := ⟨w.heap.size, 0, none⟩) hz).trans c0; have d1 : w1.cell? ⟨w.heap.size, 1, none⟩ = some (.slice none 0 0) := (b1.cell (p := ⟨w.heap.size, 1, none⟩) hz).trans c1; have hz1 : w.heap.size < w1.heap.size := Nat.lt_of_lt_of_le hz b1.size)
    | (go_at_call 65; refine (allFit_nil _ _).mono ?_; rintro e w2 ⟨rfl, b2⟩; have e0 : w2.cell? ⟨w.heap.size, 0, none⟩ = some (.string s) := (b2.cell (p := ⟨w.heap.size, 0, none⟩) hz1).trans d0; have e1 : w2.cell? ⟨w.heap.size, 1, none⟩ = some (.slice none 0 0) := (b2.cell (p := ⟨w.heap.size, 1, none⟩) hz1).trans d1; have hz2 : w.heap.size < w2.heap.size := Nat.lt_of_lt_of_le hz1 b2.size)
    | (go_at_call 67; refine (cross_nil _).mono ?_; rintro e w3 ⟨rfl, b3⟩; have f0 : w3.cell? ⟨w.heap.size, 0, none⟩ = some (.string s) := (b3.cell (p := ⟨w.heap.size, 0, none⟩) hz2).trans e0; have f1 : w3.cell? ⟨w.heap.size, 1, none⟩ = some (.slice none 0 0) := (b3.cell (p := ⟨w.heap.size, 1, none⟩) hz2).trans e1))
  have b9 : Below w.heap.size w w3 := ((bb.drew.trans (b1.mono (by simp; omega))).trans (b2.mono (by omega))).trans (b3.mono (by omega))
  clear c0 c1 bb d0 d1 e0 e1 f0 f1 b1 b2 b3
  go_wp2
  go_ret
  exact ⟨rfl, b9⟩

set_option maxHeartbeats 400000 in
theorem isDialect_voice (w : World) : Calls Tryz.prog 79 #[.int .i64 2] w fun e w' => e = .returned (.bool true) ∧ w' = w := by
  go_enter Tryz.func79, Tryz.ntmps79
  go_wp2
  go_ret
  exact ⟨rfl, rfl⟩
set_option maxHeartbeats 400000 in
theorem isName_none (w : World) : Calls Tryz.prog 80 #[.string ByteArray.empty] w fun e w' => e = .returned (.bool true) ∧ Below w.heap.size w w' := by
  go_enter Tryz.func80, Tryz.ntmps80
  go_wp2
  go_loopw [4] (fun _ wr => wr = w.iter ByteArray.empty 0) (fun _ _ => 0)
  case atStart => rfl
  case round =>
    subst hrel
    have hnx : ∀ ty, (Instr.next (.pointer (some ⟨w.heap.size, 0, none⟩)) true ty).run Tryz.prog (w.iter ByteArray.empty 0) = _ := fun ty => run_next_end w ByteArray.empty 0 ty (by decide)
    go_wp2
    go_ret
    exact ⟨rfl, (Below.refl _ w).alloc (Nat.le_refl _) _⟩

set_option maxHeartbeats 400000 in
theorem liteclone_none (w : World) : Calls Tryz.prog 94 #[.string ByteArray.empty] w fun e w' => e = .returned (.string ByteArray.empty) ∧ w' = w := by
  go_enter Tryz.func94, Tryz.ntmps94
  go_wp2
  go_ret
  exact ⟨rfl, rfl⟩
set_option maxHeartbeats 400000 in
theorem clone_none (w : World) : Calls Tryz.prog 82 #[.string ByteArray.empty] w fun e w' => e = .returned (.string ByteArray.empty) ∧ w' = w := by
  go_enter Tryz.func82, Tryz.ntmps82
  go_wp2_with (go_at_call 94; refine (liteclone_none _).mono ?_; rintro e w3 ⟨rfl, rfl⟩)
  go_ret
  exact ⟨rfl, rfl⟩

set_option maxRecDepth 100000 in
set_option maxHeartbeats 400000 in
theorem name_none (w : World) : Calls Tryz.prog 64 #[.int .i64 2, .string ByteArray.empty] w fun e w' => e = .returned (.tuple #[.string ByteArray.empty, .bool false, .int .i64 0]) ∧ Below w.heap.size w w' := by
  go_enter Tryz.func64, Tryz.ntmps64
  go_wp2_with (go_at_call 79; refine (isDialect_voice _).mono ?_; rintro e w1 ⟨rfl, rfl⟩)
  refine (isName_none _).mono ?_
  rintro e w2 ⟨rfl, b2⟩
  have B2 := hideC b2
  clear b2
  go_wp2_with (go_at_call 82; refine (clone_none _).mono ?_; rintro e w3 ⟨rfl, rfl⟩)
  go_ret3
  exact ⟨rfl, B2.out⟩

set_option maxRecDepth 100000 in
set_option maxHeartbeats 400000 in
/-- cmp.Or of two numbers: the first that is not 0. -/
theorem or_two (a b : Int) (B : Nat) (w : World) (h0 : w.cell? ⟨B, 0, none⟩ = some (.int .i64 a)) (h1 : w.cell? ⟨B, 1, none⟩ = some (.int .i64 b)) :
    Calls Tryz.prog 26 #[.slice (some ⟨B, 0, none⟩) 2 2] w fun e w' => e = .returned (.int .i64 (if a = 0 then b else a)) ∧ Below w.heap.size w w' := by
  generalize hv : (if a = 0 then b else a) = V at *
  have HW := hideC hv
  clear hv
  go_enter Tryz.func26, Tryz.ntmps26
  go_wp2
  go_loopw [5, 8] (fun _ i wr => wr = w ∧ ((i = .int .i64 0) ∨ (i = .int .i64 1 ∧ a = 0) ∨ (i = .int .i64 2 ∧ a = 0 ∧ b = 0))) (fun _ i _ => 2 - (intOf i).toNat)
  case atStart => exact ⟨rfl, .inl rfl⟩
  case round =>
    obtain ⟨rfl, rfl | ⟨rfl, ha⟩ | ⟨rfl, ha, hb⟩⟩ := hrel
    · by_cases h : a = 0
      · subst h
        go_wp2
        go_roundw
        case rel => exact ⟨trivial, .inr (.inl ⟨by go_num, trivial⟩)⟩
        case measure => decide
      · go_wp2
        go_ret
        refine ⟨?_, Below.refl _ _⟩
        have := HW.out
        rw [if_neg h] at this
        rw [← this]
        rfl
    · by_cases h : b = 0
      · subst h ha
        go_wp2
        go_roundw
        case rel => exact ⟨trivial, .inr (.inr ⟨by go_num, trivial, trivial⟩)⟩
        case measure => decide
      · go_wp2
        go_ret
        refine ⟨?_, Below.refl _ _⟩
        have := HW.out
        rw [if_pos ha] at this
        rw [← this]
        rfl
    · go_wp2
      go_ret
      refine ⟨?_, Below.refl _ _⟩
      have := HW.out
      rw [if_pos ha, hb] at this
      rw [← this]
      rfl

end Go.Proofs.YtknpgifloddflaaGreatDoor
