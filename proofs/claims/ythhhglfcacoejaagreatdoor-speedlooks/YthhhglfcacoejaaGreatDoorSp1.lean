/- Contracts of speed.Count: the signs that are read. -/
import Derived.RangeFuncNested
import Derived.RangeFuncBound
import Derived.RangeFuncCalls
import Derived.RangeFuncLeaves
import Derived.Shelf.Abstract
import Derived.Test.YthhhglfcacoejaaGreatDoorW1
import Derived.Test.YthhhglfcacoejaaGreatDoorCellW1
import Derived.Test.YthhhglfcacoejaaGreatDoorLawL
namespace Go.Proofs.YthhhglfcacoejaaGreatDoor
open Go.RowKit Go.Shelf

def blankR (r : Int) : Bool := decide (r = 32 ∨ r = 160 ∨ r = 12288)
/-- Is a sign read? -/
def readB (r : Int) : Bool := decide (0 < widthI r) && !blankR r
/-- How many signs are read. -/
def readN (l : List Sg) : Nat := (l.filter fun x => readB x.rune).length
theorem readN_snoc (l : List Sg) (x : Sg) : readN (l ++ [x]) = readN l + if readB x.rune then 1 else 0 := by
  unfold readN
  rw [List.filter_append, List.length_append]
  cases h : readB x.rune <;> simp [List.filter, h]

set_option maxHeartbeats 400000 in
theorem isBlank_any (r : Int) (w : World) : Calls Tryz.prog 62 #[.int .i32 r] w fun e w' => e = .returned (.bool (blankR r)) ∧ w' = w := by
  by_cases h1 : r = 32
  · subst h1
    go_enter Tryz.func62, Tryz.ntmps62
    go_wp2
    go_ret
    exact ⟨rfl, rfl⟩
  by_cases h2 : r = 160
  · subst h2
    go_enter Tryz.func62, Tryz.ntmps62
    go_wp2
    go_ret
    exact ⟨rfl, rfl⟩
  have hv : blankR r = decide (r = 12288) := by simp [blankR, h1, h2]
  rw [hv]
  have k1 : (r == 32) = false := beq_eq_false_iff_ne.2 h1
  have k2 : (r == 160) = false := beq_eq_false_iff_ne.2 h2
  clear hv
  go_enter Tryz.func62, Tryz.ntmps62
  go_wp2
  go_ret
  refine ⟨?_, rfl⟩
  by_cases h3 : r = 12288
  · subst h3; rfl
  · simp [h3]

theorem cell_four_new2 (w : World) (a b c d : Value) (t : TypeId) : (w.alloc (.cells #[a, b, c, d] t)).cell? ⟨w.heap.size, 2, none⟩ = some c := by
  unfold World.cell?
  rw [show (w.alloc (.cells #[a, b, c, d] t)).heap[w.heap.size]? = _ from World.alloc_heap_new w _]
  rfl

set_option maxRecDepth 100000 in
set_option maxHeartbeats 400000 in
theorem see_any (b N : Nat) (x : Sg) (n : Nat) (hn : n < 140737488355329) (w : World) (hT : Tabs N w) (hb : Boxed w b 87 (.int .i64 n)) :
    Calls Tryz.prog 32 #[.pointer (some ⟨b, 0, none⟩), x.val] w fun e w' => e = .returned (.bool true) ∧ But (fun k => k = b) w w' ∧ Boxed w' b 87 (.int .i64 ((n + if readB x.rune then 1 else 0 : Nat) : Int)) := by
  obtain ⟨lc, ln, r, bad, sm⟩ := x
  unfold Sg.val
  dsimp only
  have hz := hb.lt
  cases hv : readB r
  all_goals
    have HV := hideC hv
    clear hv
    simp only [Bool.false_eq_true, if_false, if_true, Nat.add_zero]
    go_enter Tryz.func32, Tryz.ntmps32
    go_wp2_with fail
    refine (width_any r N _ (hT.below ((Below.refl _ w).alloc (Nat.le_refl _) _))).mono ?_
    rintro e w1 ⟨rfl, b1⟩
    have c0 : w1.cell? ⟨w.heap.size, 2, none⟩ = some (.int .i32 r) := (b1.cell (p := ⟨w.heap.size, 2, none⟩) (by simp)).trans (cell_four_new2 _ _ _ _ _ _)
    have h1 : Boxed w1 b 87 (.int .i64 n) := (b1.block b (by simp; omega)).trans (hb.alloc _)
    have hw1 : But (fun k => k = b) w w1 := But.grown ((((Below.refl w.heap.size w).alloc (Nat.le_refl _) _)).trans (b1.mono (by simp)))
    clear b1 hb hT
    have hc := h1.cell
    have hf := h1.frozen
    have H1 := hideC (And.intro h1 hw1)
    clear h1 hw1
    by_cases hw : 0 < widthI r
    · cases hq : blankR r
      · first
          | (exfalso; have := HV.out; simp [readB, hw, hq] at this; done)
          | (
            generalize widthI r = wd at *
            go_wp2_with (go_at_call 62; refine (isBlank_any r _).mono ?_; rw [hq]; rintro e w2 ⟨rfl, rfl⟩)
            go_ret
            obtain ⟨h1, hw1⟩ := H1.out
            exact ⟨rfl, hw1.setCell rfl _, h1.set (.int .i64 ((n : Int) + 1))⟩)
      · first
          | (exfalso; have := HV.out; simp [readB, hw, hq] at this; done)
          | (
            generalize widthI r = wd at *
            go_wp2_with (go_at_call 62; refine (isBlank_any r _).mono ?_; rw [hq]; rintro e w2 ⟨rfl, rfl⟩)
            go_ret
            obtain ⟨h1, hw1⟩ := H1.out
            exact ⟨rfl, hw1, h1⟩)
    · first
        | (exfalso; have := HV.out; simp [readB, hw] at this; done)
        | (
          generalize widthI r = wd at *
          go_wp2
          go_ret
          obtain ⟨h1, hw1⟩ := H1.out
          exact ⟨rfl, hw1, h1⟩)

theorem grownBy_iterAtS (W : World) (k : Nat) (s : ByteArray) (p : Nat) : W.grownBy (W.iterAt k s p) (some k) :=
  ⟨rfl, rfl, rfl, by rw [Lib.iterAt_size]; exact Nat.le_refl _, fun i _ hi => Lib.iterAt_other W k i s p (fun e => hi (by rw [e]))⟩
theorem readN_le (l : List Sg) : readN l ≤ l.length := List.length_filter_le _ _

set_option maxRecDepth 100000 in
set_option maxHeartbeats 400000 in
/-- utf.Signs's sequence, called with a counter's method value. -/
theorem signs_see (b bx N : Nat) (hN : N ≤ b) (hne : b ≠ bx) (s : ByteArray) (hs : s.size < 140737488355329) (W : World) (hT : Tabs N W) (hb : Boxed W b 87 (.int .i64 0)) (hx : Boxed W bx 9 (.string s)) :
    Calls Tryz.prog 59 #[.func (.func 32) #[.pointer (some ⟨b, 0, none⟩)] #[], .pointer (some ⟨bx, 0, none⟩)] W fun e W' => (∃ v, e = .returned v) ∧
      Boxed W' b 87 (.int .i64 (readN (signs s))) ∧ But (fun k => k = b) W W' := by
  have hcx := hx.cell
  have hlx := hx.lt
  have hlb := hb.lt
  go_enter Tryz.func59, Tryz.ntmps59
  go_wp2
  go_loopw [3, 4] (fun _ _ wr => ∃ (pre : List Sg) (pos f : Nat), wr.heap[W.heap.size]? = some (.stringIter s pos) ∧ Boxed wr b 87 (.int .i64 (readN pre)) ∧ But (fun k => k = b) W wr ∧ pre ++ sgns s f pos = signs s ∧ s.size ≤ pos + f ∧ pre.length ≤ pos)
    (fun _ _ wr => s.size - wr.iterPos W.heap.size)
  case atStart =>
    refine ⟨[], 0, s.size, World.alloc_heap_new W _, hb.alloc _, (But.refl _ W).alloc _, rfl, by omega, by simp⟩
  case round =>
    obtain ⟨pre, pos, f, hit, hbr, hbut, hsg, hf, hpl⟩ := hrel
    have hkz : W.heap.size < wr.heap.size := (Array.getElem?_eq_some_iff.1 hit).1
    have hrl := readN_le pre
    have HIT := hideC hit
    by_cases hp : pos < s.size
    · have hnx : ∀ ty, (Instr.next (.pointer (some ⟨W.heap.size, 0, none⟩)) true ty).run Tryz.prog wr = _ := fun ty => Lib.run_next_any_at wr W.heap.size s pos ty hit hp
      have hxr : Boxed wr bx 9 (.string s) := (hbut.same bx hlx (fun e => hne e.symm)).trans hx
      generalize hV : wr.iterAt W.heap.size s (pos + (Utf8.decode s pos).2) = V at *
      have hVo : ∀ k, k ≠ W.heap.size → V.heap[k]? = wr.heap[k]? := fun k hk => by rw [← hV]; exact Lib.iterAt_other _ _ _ _ _ hk
      have hVz : V.heap.size = wr.heap.size := by rw [← hV]; exact Lib.iterAt_size _ _ _ _
      have hVi : V.heap[W.heap.size]? = some (.stringIter s (pos + (Utf8.decode s pos).2)) := by rw [← hV]; exact Lib.iterAt_heap wr W.heap.size s pos _ hit
      have hVg : But (fun k => k = b ∨ k = W.heap.size) wr V := by
        have := grownBy_iterAtS wr W.heap.size s (pos + (Utf8.decode s pos).2)
        rw [hV] at this
        exact ⟨this.os, this.tape, this.output, this.size, fun k hk hn => hVo k (fun e => hn (.inr e))⟩
      have hcxV : V.cell? ⟨bx, 0, none⟩ = some (.string s) := (show Boxed V bx 9 (.string s) from (hVo bx (by omega)).trans hxr).cell
      have hbV : Boxed V b 87 (.int .i64 (readN pre)) := (hVo b (by omega)).trans hbr
      have hTV : Tabs N V := hT.kept (by have := hbut.size; omega) (fun k hk => (hVo k (by have := hT.room; omega)).trans (hbut.same k (by have := hT.room; omega) (by omega)))
      have hwd := Lib.decode_width_pos s pos hp
      have HH := hideC (And.intro hsg (And.intro hVi (And.intro hVg (And.intro hbV (And.intro hTV hVz)))))
      clear hsg hVi hVg hbV hTV hVz hVo hV hxr hit hbr
      go_wp2_with (go_at_call 60; refine (signAt_any s pos _ _ (by omega) (by omega)).mono ?_; rintro e w' ⟨rfl, v, rfl⟩)
      obtain ⟨hsg, hVi, hVg, hbV, hTV, hVz⟩ := HH.out
      refine (see_any b N (sgnR s pos (Utf8.decode s pos).1) (readN pre) (by omega) _ (hTV.below ((Below.refl _ V).alloc (Nat.le_refl _) _)) (hbV.alloc _)).mono ?_
      rintro e w3 ⟨rfl, d3, b3⟩
      have hi3 : w3.heap[W.heap.size]? = some (.stringIter s (pos + (Utf8.decode s pos).2)) := (d3.same _ (by simp; omega) (by omega)).trans ((Below.heap_alloc _ _ _ (by omega)).trans hVi)
      have hb3 : But (fun k => k = b) W w3 := by
        refine ⟨d3.os.trans (hVg.os.trans hbut.os), d3.tape.trans (hVg.tape.trans hbut.tape), d3.output.trans (hVg.output.trans hbut.output), ?_, fun k hk hn => ?_⟩
        · have h1 := d3.size
          have h2 := hbut.size
          simp at h1
          omega
        · exact (d3.same k (by simp; omega) hn).trans ((Below.heap_alloc _ _ _ (by omega)).trans ((hVg.same k (by omega) (by omega)).trans (hbut.same k hk hn)))
      have H3 := hideC (And.intro hi3 (And.intro hb3 b3))
      clear hi3 hb3 b3 d3 hsg hVi hVg hbV hTV hVz hbut
      go_wp2
      go_roundw
      case rel =>
        obtain ⟨hi3, hb3, b3⟩ := H3.out
        obtain ⟨hsg, -⟩ := HH.out
        cases f with
        | zero => omega
        | succ f =>
          refine ⟨pre ++ [sgn s pos], pos + (Utf8.decode s pos).2, f, hi3, ?_, hb3, ?_, by omega, by simp; omega⟩
          · rw [readN_snoc]
            exact b3
          · rw [sgns, if_pos hp] at hsg
            simpa using hsg
      case measure =>
        obtain ⟨hi3, hb3, b3⟩ := H3.out
        have hit0 := HIT.out
        rw [iterPos_of hit0, iterPos_of hi3]
        omega
    · have hnx : ∀ ty, (Instr.next (.pointer (some ⟨W.heap.size, 0, none⟩)) true ty).run Tryz.prog wr = _ := fun ty => Lib.run_next_end_at wr W.heap.size s pos ty hit hp
      have HH := hideC (And.intro hsg (And.intro hbr hbut))
      clear hsg hbr hbut
      go_wp2
      go_end0
      obtain ⟨hsg, hbr, hbut⟩ := HH.out
      refine ⟨⟨_, rfl⟩, ?_, hbut⟩
      rw [sgns_end s f pos hp, List.append_nil] at hsg
      rw [← hsg]
      exact hbr

set_option maxRecDepth 100000 in
set_option maxHeartbeats 400000 in
theorem scount_any (s : ByteArray) (hs : s.size < 140737488355329) (v : Value) (N : Nat) (w : World) (hT : Tabs N w) :
    Calls Tryz.prog 16 #[.agg #[.string s, v]] w fun e w' => e = .returned (.int .i64 (readN (signs s))) ∧ Below w.heap.size w w' := by
  go_enter Tryz.func16, Tryz.ntmps16
  go_wp2_with (go_at_call 31; refine (signs_mk s _).mono ?_; rintro e w' ⟨rfl, rfl⟩)
  have b1 : Boxed (((w.alloc (.cells #[.string s, v] 52)).alloc (.cells #[.int .i64 0] 87)).alloc (.cells #[.string s] 9)) (w.heap.size + 1) 87 (.int .i64 0) := by
    have := Boxed.new (w.alloc (.cells #[.string s, v] 52)) 87 (.int .i64 0)
    rw [World.size_alloc] at this
    exact this.alloc _
  have b2 : Boxed (((w.alloc (.cells #[.string s, v] 52)).alloc (.cells #[.int .i64 0] 87)).alloc (.cells #[.string s] 9)) (w.heap.size + 1 + 1) 9 (.string s) := by
    have := Boxed.new ((w.alloc (.cells #[.string s, v] 52)).alloc (.cells #[.int .i64 0] 87)) 9 (.string s)
    simpa only [World.size_alloc] using this
  have bb : Below w.heap.size w (((w.alloc (.cells #[.string s, v] 52)).alloc (.cells #[.int .i64 0] 87)).alloc (.cells #[.string s] 9)) :=
    (((Below.refl _ w).alloc (Nat.le_refl _) _).alloc (by simp) _).alloc (by simp; omega) _
  refine (signs_see (w.heap.size + 1) (w.heap.size + 1 + 1) N (by have := hT.room; omega) (by omega) s hs _ (hT.below bb) b1 b2).mono ?_
  rintro e w1 ⟨⟨u, rfl⟩, c1, d1⟩
  have hc := c1.cell
  have bw : Below w.heap.size w w1 := bb.trans (d1.below (by simp; omega) (fun k h => by omega))
  have HB := hideC bw
  clear b1 b2 bb c1 d1 bw
  go_wp2
  go_ret
  exact ⟨rfl, HB.out⟩

end Go.Proofs.YthhhglfcacoejaaGreatDoor
