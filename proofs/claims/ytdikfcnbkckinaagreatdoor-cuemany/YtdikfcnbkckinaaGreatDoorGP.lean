/- Several texts, one behind the other. -/
import Derived.RangeFuncNested
import Derived.RangeFuncBound
import Derived.RangeFuncCalls
import Derived.RangeFuncLeaves
import Derived.Shelf.Abstract
import Derived.Deep.RegionHeld
import Derived.Deep.RegionHeld3
import Derived.Test.YtdikfcnbkckinaaGreatDoorCellM
import Derived.Test.YtdikfcnbkckinaaGreatDoorCellW1
import Derived.Test.YtdikfcnbkckinaaGreatDoorGB
import Derived.Test.YtdikfcnbkckinaaGreatDoorLawL
import Derived.Test.YtdikfcnbkckinaaGreatDoorW1
/- Contracts of speed.Count: the signs that are read. -/
namespace Go.Proofs.YtdikfcnbkckinaaGreatDoor
open Go.RowKit Go.Shelf

def blankR (r : Int) : Bool := decide (r = 32 ∨ r = 160 ∨ r = 12288)
/-- Is a sign read? -/
def readB (r : Int) : Bool := decide (0 < widthI r) && !blankR r
/-- How many signs are read. -/
def readN (l : List Sg) : Nat := (l.filter fun x => readB x.rune).length
theorem readN_snoc (l : List Sg) (x : Sg) : readN (l ++ [x]) = readN l + if readB x.rune then 1 else 0 := by
  unfold readN
  rw [List.filter_append, List.length_append]
  cases h : readB x.rune <;> simp [List.filter, h]

theorem cell_four_new2 (w : World) (a b c d : Value) (t : TypeId) : (w.alloc (.cells #[a, b, c, d] t)).cell? ⟨w.heap.size, 2, none⟩ = some c := by
  unfold World.cell?
  rw [show (w.alloc (.cells #[a, b, c, d] t)).heap[w.heap.size]? = _ from World.alloc_heap_new w _]
  rfl

theorem grownBy_iterAtS (W : World) (k : Nat) (s : ByteArray) (p : Nat) : W.grownBy (W.iterAt k s p) (some k) :=
  ⟨rfl, rfl, rfl, by rw [Lib.iterAt_size]; exact Nat.le_refl _, fun i _ hi => Lib.iterAt_other W k i s p (fun e => hi (by rw [e]))⟩
theorem readN_le (l : List Sg) : readN l ≤ l.length := List.length_filter_le _ _

end Go.Proofs.YtdikfcnbkckinaaGreatDoor

/- Contracts of style.Check at texts without spans, of mark.Name at the empty name, of cmp.Or at two numbers. -/
namespace Go.Proofs.YtdikfcnbkckinaaGreatDoor
open Go.RowKit

set_option maxRecDepth 100000 in
set_option maxHeartbeats 400000 in
theorem spclone_nil (w : World) : Calls Tryz.prog 80 #[.slice none 0 0] w fun e w' => e = .returned (.slice none 0 0) ∧ w' = w := by
  have he : ∀ W, (binOp .eql 24 (.slice none 0 0) (.slice none 0 0)).run Tryz.prog W = .ok (.bool true) W := fun W => by kernel_rfl
  go_enter Tryz.func80, Tryz.ntmps80
  go_wp2
  go_ret
  exact ⟨rfl, rfl⟩
set_option maxHeartbeats 400000 in
theorem insert_nil (v f : Value) (w : World) : Calls Tryz.prog 96 #[v, .int .i64 0, .int .i64 0, f] w fun e w' => e = .returned (.tuple #[]) ∧ w' = w := by
  go_enter Tryz.func96, Tryz.ntmps96
  go_wp2
  go_loopw [8] (fun i wr => i = .int .i64 1 ∧ wr = w) (fun _ _ => 0)
  case atStart => exact ⟨rfl, rfl⟩
  case round =>
    obtain ⟨rfl, rfl⟩ := hrel
    go_wp2
    go_end0
    exact ⟨rfl, rfl⟩
set_option maxHeartbeats 400000 in
theorem stable_nil (v f : Value) (w : World) : Calls Tryz.prog 86 #[v, .int .i64 0, f] w fun e w' => e = .returned (.tuple #[]) ∧ w' = w := by
  go_enter Tryz.func86, Tryz.ntmps86
  go_wp2
  go_loopw [7, 8] (fun i j wr => i = .int .i64 0 ∧ j = .int .i64 20 ∧ wr = w) (fun _ _ _ => 0)
  case atStart => exact ⟨rfl, rfl, rfl⟩
  case round =>
    obtain ⟨rfl, rfl, rfl⟩ := hrel
    go_wp2_with (go_at_call 96; refine (insert_nil _ _ _).mono ?_; rintro e w' ⟨rfl, rfl⟩)
    go_loopw [6, 7, 8] (fun k i j wr => k = .int .i64 20 ∧ i = .int .i64 0 ∧ j = .int .i64 20 ∧ wr = w') (fun _ _ _ _ => 0)
    case atStart => exact ⟨rfl, rfl, rfl, rfl⟩
    case round =>
      obtain ⟨rfl, rfl, rfl, rfl⟩ := hrel
      go_wp2
      go_end0
      exact ⟨rfl, rfl⟩
set_option maxHeartbeats 400000 in
theorem sortst_nil (f : Value) (w : World) : Calls Tryz.prog 81 #[.slice none 0 0, f] w fun e w' => e = .returned (.tuple #[]) ∧ w' = w := by
  go_enter Tryz.func81, Tryz.ntmps81
  go_wp2_with (go_at_call 86; refine (stable_nil _ _ _).mono ?_; rintro e w' ⟨rfl, rfl⟩)
  go_end0
  exact ⟨rfl, rfl⟩
set_option maxHeartbeats 400000 in
theorem outerFirst_nil (w : World) : Calls Tryz.prog 67 #[.slice none 0 0] w fun e w' => e = .returned (.slice none 0 0) ∧ w' = w := by
  go_enter Tryz.func67, Tryz.ntmps67
  go_wp2_with fail
  refine (spclone_nil _).mono ?_
  rintro e w' ⟨rfl, rfl⟩
  go_wp2_with (go_at_call 81; refine (sortst_nil _ _).mono ?_; rintro e w' ⟨rfl, rfl⟩)
  go_ret
  exact ⟨rfl, rfl⟩
set_option maxHeartbeats 400000 in
theorem cross_nil (w : World) : Calls Tryz.prog 40 #[.slice none 0 0] w fun e w' => e = .returned (.bool false) ∧ Below w.heap.size w w' := by
  go_enter Tryz.func40, Tryz.ntmps40
  go_wp2_with (go_at_call 67; refine (outerFirst_nil _).mono ?_; rintro e w' ⟨rfl, rfl⟩)
  go_loopw [9] (fun i wr => i = .int .i64 0 ∧ wr = w') (fun _ _ => 0)
  case atStart => exact ⟨rfl, rfl⟩
  case round =>
    obtain ⟨rfl, rfl⟩ := hrel
    go_wp2
    go_ret
    exact ⟨rfl, Below.refl _ _⟩
set_option maxHeartbeats 400000 in
theorem allFit_nil (n : Int) (w : World) : Calls Tryz.prog 38 #[.slice none 0 0, .int .i64 n] w fun e w' => e = .returned (.bool true) ∧ Below w.heap.size w w' := by
  go_enter Tryz.func38, Tryz.ntmps38
  go_wp2
  go_loopw [9] (fun i wr => i = .int .i64 0 ∧ wr = w) (fun _ _ => 0)
  case atStart => exact ⟨rfl, rfl⟩
  case round =>
    obtain ⟨rfl, rfl⟩ := hrel
    go_wp2
    go_ret
    exact ⟨rfl, Below.refl _ _⟩

set_option maxRecDepth 100000 in
set_option maxHeartbeats 400000 in
theorem stcount_any (s : ByteArray) (w : World) (_hs : s.size ≤ 140737488355328) : Calls Tryz.prog 39 #[.string s] w fun e w' => e = .returned (.int .i64 (signs s).length) ∧ Below w.heap.size w w' := by
  go_enter Tryz.func39, Tryz.ntmps39
  go_wp2
  go_loopw [3] (fun n w' => ∃ (pos b : Nat) (acc : Nat), w' = w.iter s pos ∧ n = .int .i64 acc ∧ acc + (sgns s b pos).length = (signs s).length ∧ s.size ≤ pos + b ∧ acc ≤ pos) (fun _ w' => s.size - w'.iterPos w.heap.size)
  case atStart => exact ⟨0, s.size, 0, rfl, rfl, by simp [signs], by omega, by omega⟩
  case round =>
    obtain ⟨pos, b, acc, rfl, rfl, hc, hb, ha⟩ := hrel
    have HC : Hid (acc + (sgns s b pos).length = (signs s).length) := hc
    clear hc
    by_cases hp : pos < s.size
    · have hnx : ∀ ty, (Instr.next (.pointer (some ⟨w.heap.size, 0, none⟩)) true ty).run Tryz.prog (w.iter s pos) = _ := fun ty => run_next_any w s pos ty hp
      go_wp2
      have hwd := Lib.decode_width_pos s pos hp
      go_roundw
      case rel =>
        cases b with
        | zero => omega
        | succ b =>
          refine ⟨pos + (Utf8.decode s pos).2, b, acc + 1, rfl, by go_num, ?_, by omega, by omega⟩
          have := HC.out
          rw [sgns, if_pos hp] at this
          simp at this
          omega
      case measure =>
        simp
        omega
    · have hnx : ∀ ty, (Instr.next (.pointer (some ⟨w.heap.size, 0, none⟩)) true ty).run Tryz.prog (w.iter s pos) = _ := fun ty => run_next_end w s pos ty hp
      go_wp2
      go_ret
      have := HC.out
      rw [sgns_end s b pos hp] at this
      simp at this
      subst this
      exact ⟨rfl, (Below.refl _ w).alloc (Nat.le_refl _) _⟩

theorem cell_two_newA (w : World) (a b : Value) (t : TypeId) : (w.alloc (.cells #[a, b] t)).cell? ⟨w.heap.size, 0, none⟩ = some a := by
  unfold World.cell?
  rw [show (w.alloc (.cells #[a, b] t)).heap[w.heap.size]? = _ from World.alloc_heap_new w _]
  rfl
theorem cell_two_newB (w : World) (a b : Value) (t : TypeId) : (w.alloc (.cells #[a, b] t)).cell? ⟨w.heap.size, 1, none⟩ = some b := by
  unfold World.cell?
  rw [show (w.alloc (.cells #[a, b] t)).heap[w.heap.size]? = _ from World.alloc_heap_new w _]
  rfl

set_option maxRecDepth 100000 in
set_option maxHeartbeats 1000000 in
theorem stcheck_plain (s : ByteArray) (hs : s.size ≤ 4096) (w : World) : Calls Tryz.prog 20 #[.agg #[.string s, .slice none 0 0]] w fun e w' => e = .returned (.int .i64 0) ∧ Below w.heap.size w w' := by
  go_enter Tryz.func20, Tryz.ntmps20
  go_wp2_with fail
  have c0 : (w.alloc (.cells #[.string s, .slice none 0 0] 26)).cell? ⟨w.heap.size, 0, none⟩ = some (.string s) := cell_two_newA _ _ _ _
  have c1 : (w.alloc (.cells #[.string s, .slice none 0 0] 26)).cell? ⟨w.heap.size, 1, none⟩ = some (.slice none 0 0) := cell_two_newB _ _ _ _
  have bb : Below w.heap.size w (w.alloc (.cells #[.string s, .slice none 0 0] 26)) := (Below.refl _ w).alloc (Nat.le_refl _) _
  have hz : w.heap.size < (w.alloc (.cells #[.string s, .slice none 0 0] 26)).heap.size := by simp
  generalize w.alloc (.cells #[.string s, .slice none 0 0] 26) = V at *
  go_region_held (fun w' => w'.cell? ⟨w.heap.size, 0, none⟩ = some (.string s) ∧ w'.cell? ⟨w.heap.size, 1, none⟩ = some (.slice none 0 0)) (first | go_keep | assumption) (first
    | (go_at_call 39; refine (stcount_any s _ (by omega)).mono ?_; rintro e w1 ⟨rfl, b1⟩; have d0 : w1.cell? ⟨w.heap.size, 0, none⟩ = some (.string s) := (b1.cell (p := ⟨w.heap.size, 0, none⟩) hz).trans c0; have d1 : w1.cell? ⟨w.heap.size, 1, none⟩ = some (.slice none 0 0) := (b1.cell (p := ⟨w.heap.size, 1, none⟩) hz).trans c1; have hz1 : w.heap.size < w1.heap.size := Nat.lt_of_lt_of_le hz b1.size)
    | (go_at_call 38; refine (allFit_nil _ _).mono ?_; rintro e w2 ⟨rfl, b2⟩; have e0 : w2.cell? ⟨w.heap.size, 0, none⟩ = some (.string s) := (b2.cell (p := ⟨w.heap.size, 0, none⟩) hz1).trans d0; have e1 : w2.cell? ⟨w.heap.size, 1, none⟩ = some (.slice none 0 0) := (b2.cell (p := ⟨w.heap.size, 1, none⟩) hz1).trans d1; have hz2 : w.heap.size < w2.heap.size := Nat.lt_of_lt_of_le hz1 b2.size)
    | (go_at_call 40; refine (cross_nil _).mono ?_; rintro e w3 ⟨rfl, b3⟩; have f0 : w3.cell? ⟨w.heap.size, 0, none⟩ = some (.string s) := (b3.cell (p := ⟨w.heap.size, 0, none⟩) hz2).trans e0; have f1 : w3.cell? ⟨w.heap.size, 1, none⟩ = some (.slice none 0 0) := (b3.cell (p := ⟨w.heap.size, 1, none⟩) hz2).trans e1))
  have b9 : Below w.heap.size w w3 := ((bb.drew.trans (b1.mono (by simp; omega))).trans (b2.mono (by omega))).trans (b3.mono (by omega))
  clear c0 c1 bb d0 d1 e0 e1 f0 f1 b1 b2 b3
  go_wp2
  go_ret
  exact ⟨rfl, b9⟩

set_option maxHeartbeats 400000 in
theorem isDialect_voice (w : World) : Calls Tryz.prog 62 #[.int .i64 2] w fun e w' => e = .returned (.bool true) ∧ w' = w := by
  go_enter Tryz.func62, Tryz.ntmps62
  go_wp2
  go_ret
  exact ⟨rfl, rfl⟩
set_option maxHeartbeats 400000 in
theorem isName_none (w : World) : Calls Tryz.prog 63 #[.string ByteArray.empty] w fun e w' => e = .returned (.bool true) ∧ Below w.heap.size w w' := by
  go_enter Tryz.func63, Tryz.ntmps63
  go_wp2
  go_loopw [4] (fun _ wr => wr = w.iter ByteArray.empty 0) (fun _ _ => 0)
  case atStart => rfl
  case round =>
    subst hrel
    have hnx : ∀ ty, (Instr.next (.pointer (some ⟨w.heap.size, 0, none⟩)) true ty).run Tryz.prog (w.iter ByteArray.empty 0) = _ := fun ty => run_next_end w ByteArray.empty 0 ty (by decide)
    go_wp2
    go_ret
    exact ⟨rfl, (Below.refl _ w).alloc (Nat.le_refl _) _⟩

set_option maxHeartbeats 400000 in
theorem liteclone_none (w : World) : Calls Tryz.prog 79 #[.string ByteArray.empty] w fun e w' => e = .returned (.string ByteArray.empty) ∧ w' = w := by
  go_enter Tryz.func79, Tryz.ntmps79
  go_wp2
  go_ret
  exact ⟨rfl, rfl⟩
set_option maxHeartbeats 400000 in
theorem clone_none (w : World) : Calls Tryz.prog 65 #[.string ByteArray.empty] w fun e w' => e = .returned (.string ByteArray.empty) ∧ w' = w := by
  go_enter Tryz.func65, Tryz.ntmps65
  go_wp2_with (go_at_call 79; refine (liteclone_none _).mono ?_; rintro e w3 ⟨rfl, rfl⟩)
  go_ret
  exact ⟨rfl, rfl⟩

set_option maxRecDepth 100000 in
set_option maxHeartbeats 400000 in
theorem name_none (w : World) : Calls Tryz.prog 37 #[.int .i64 2, .string ByteArray.empty] w fun e w' => e = .returned (.tuple #[.string ByteArray.empty, .bool false, .int .i64 0]) ∧ Below w.heap.size w w' := by
  go_enter Tryz.func37, Tryz.ntmps37
  go_wp2_with (go_at_call 62; refine (isDialect_voice _).mono ?_; rintro e w1 ⟨rfl, rfl⟩)
  refine (isName_none _).mono ?_
  rintro e w2 ⟨rfl, b2⟩
  have B2 := hideC b2
  clear b2
  go_wp2_with (go_at_call 65; refine (clone_none _).mono ?_; rintro e w3 ⟨rfl, rfl⟩)
  go_ret3
  exact ⟨rfl, B2.out⟩

set_option maxRecDepth 100000 in
set_option maxHeartbeats 400000 in
/-- cmp.Or of two numbers: the first that is not 0. -/
theorem or_two (a b : Int) (B : Nat) (w : World) (h0 : w.cell? ⟨B, 0, none⟩ = some (.int .i64 a)) (h1 : w.cell? ⟨B, 1, none⟩ = some (.int .i64 b)) :
    Calls Tryz.prog 16 #[.slice (some ⟨B, 0, none⟩) 2 2] w fun e w' => e = .returned (.int .i64 (if a = 0 then b else a)) ∧ Below w.heap.size w w' := by
  generalize hv : (if a = 0 then b else a) = V at *
  have HW := hideC hv
  clear hv
  go_enter Tryz.func16, Tryz.ntmps16
  go_wp2
  go_loopw [5, 8] (fun _ i wr => wr = w ∧ ((i = .int .i64 0) ∨ (i = .int .i64 1 ∧ a = 0) ∨ (i = .int .i64 2 ∧ a = 0 ∧ b = 0))) (fun _ i _ => 2 - (intOf i).toNat)
  case atStart => exact ⟨rfl, .inl rfl⟩
  case round =>
    obtain ⟨rfl, rfl | ⟨rfl, ha⟩ | ⟨rfl, ha, hb⟩⟩ := hrel
    · by_cases h : a = 0
      · subst h
        go_wp2
        go_roundw
        case rel => exact ⟨trivial, .inr (.inl ⟨by go_num, trivial⟩)⟩
        case measure => decide
      · go_wp2
        go_ret
        refine ⟨?_, Below.refl _ _⟩
        have := HW.out
        rw [if_neg h] at this
        rw [← this]
        rfl
    · by_cases h : b = 0
      · subst h ha
        go_wp2
        go_roundw
        case rel => exact ⟨trivial, .inr (.inr ⟨by go_num, trivial, trivial⟩)⟩
        case measure => decide
      · go_wp2
        go_ret
        refine ⟨?_, Below.refl _ _⟩
        have := HW.out
        rw [if_pos ha] at this
        rw [← this]
        rfl
    · go_wp2
      go_ret
      refine ⟨?_, Below.refl _ _⟩
      have := HW.out
      rw [if_pos ha, hb] at this
      rw [← this]
      rfl

end Go.Proofs.YtdikfcnbkckinaaGreatDoor

/- Contracts of cue.Check at a cue from 0 to 1 of a text without spans, of speed.checkText, right, wants, Wants. -/
namespace Go.Proofs.YtdikfcnbkckinaaGreatDoor
open Go.RowKit Go.Shelf

set_option maxRecDepth 100000 in
set_option maxHeartbeats 400000 in
theorem checkName_none (w : World) : Calls Tryz.prog 19 #[.string ByteArray.empty] w fun e w' => e = .returned (.int .i64 0) ∧ Below w.heap.size w w' := by
  go_enter Tryz.func19, Tryz.ntmps19
  go_wp2_with (go_at_call 37; refine (name_none _).mono ?_; rintro e w1 ⟨rfl, b1⟩)
  go_ret
  exact ⟨rfl, b1⟩

theorem Below.drew_of {A B : World} (h : Below A.drew.heap.size A.drew B) : Below A.heap.size A B := (Below.refl A.heap.size A).drew.trans h

/-- A cue from 0 to 1 of a text without spans, in a block of its own. -/
def CueAt (w : World) (B : Nat) (s : ByteArray) : Prop := w.heap[B]? = some (.cells #[.int .i64 0, .int .i64 1, .int .i64 1, .int .i64 1, .int .i64 0, .int .i64 0, .string ByteArray.empty, .string s, .slice none 0 0] 28)
theorem CueAt.cells {w : World} {B : Nat} {s : ByteArray} (h : CueAt w B s) :
    (w.cell? ⟨B, 0, none⟩ = some (.int .i64 0) ∧ w.cell? ⟨B, 1, none⟩ = some (.int .i64 1) ∧ w.cell? ⟨B, 2, none⟩ = some (.int .i64 1) ∧ w.cell? ⟨B, 3, none⟩ = some (.int .i64 1)) ∧
    (w.cell? ⟨B, 4, none⟩ = some (.int .i64 0) ∧ w.cell? ⟨B, 5, none⟩ = some (.int .i64 0)) ∧ (w.cell? ⟨B, 6, none⟩ = some (.string ByteArray.empty) ∧ w.cell? ⟨B, 7, none⟩ = some (.string s) ∧ w.cell? ⟨B, 8, none⟩ = some (.slice none 0 0)) := by
  simp [World.cell?, show w.heap[B]? = _ from h]
theorem CueAt.keep {w w' : World} {B : Nat} {s : ByteArray} (h : CueAt w B s) (b : Below w.heap.size w w') : CueAt w' B s := (b.block B (Array.getElem?_eq_some_iff.1 h).1).trans h
theorem CueAt.lt {w : World} {B : Nat} {s : ByteArray} (h : CueAt w B s) : B < w.heap.size := (Array.getElem?_eq_some_iff.1 h).1
theorem time_0 (w : World) : Calls Tryz.prog 17 #[.agg #[.int .i64 0, .int .i64 1]] w fun e w' => e = .returned (.int .i64 0) ∧ Below w.heap.size w w' :=
  (time_any ⟨0, 1⟩ ⟨⟨by simp, by simp⟩, ⟨by simp, by simp⟩⟩ w)
theorem time_1 (w : World) : Calls Tryz.prog 17 #[.agg #[.int .i64 1, .int .i64 1]] w fun e w' => e = .returned (.int .i64 0) ∧ Below w.heap.size w w' :=
  (time_any ⟨1, 1⟩ ⟨⟨by simp, by simp⟩, ⟨by simp, by simp⟩⟩ w)
theorem cmp_01 (w : World) : Calls Tryz.prog 18 #[.agg #[.int .i64 0, .int .i64 1], .agg #[.int .i64 1, .int .i64 1]] w fun e w' => e = .returned (.int .i64 (-1)) ∧ Below w.heap.size w w' :=
  (cmp_any ⟨0, 1⟩ ⟨1, 1⟩ ⟨⟨by simp, by simp⟩, ⟨by simp, by simp⟩⟩ ⟨⟨by simp, by simp⟩, ⟨by simp, by simp⟩⟩ w)
theorem or_zero (B : Nat) (w : World) (h0 : w.cell? ⟨B, 0, none⟩ = some (.int .i64 0)) (h1 : w.cell? ⟨B, 1, none⟩ = some (.int .i64 0)) :
    Calls Tryz.prog 16 #[.slice (some ⟨B, 0, none⟩) 2 2] w fun e w' => e = .returned (.int .i64 0) ∧ Below w.heap.size w w' := or_two 0 0 B w h0 h1

set_option maxRecDepth 100000 in
set_option maxHeartbeats 400000 in
theorem cuecheck_plain (s : ByteArray) (hs : s.size ≤ 4096) (w : World) :
    Calls Tryz.prog 9 #[.agg #[.int .i64 0, .int .i64 1, .int .i64 1, .int .i64 1, .int .i64 0, .int .i64 0, .string ByteArray.empty, .string s, .slice none 0 0]] w fun e w' => e = .returned (.int .i64 0) ∧ Below w.heap.size w w' := by
  go_enter Tryz.func9, Tryz.ntmps9
  go_wp2_with fail
  have Q0 : CueAt (w.alloc (.cells #[.int .i64 0, .int .i64 1, .int .i64 1, .int .i64 1, .int .i64 0, .int .i64 0, .string ByteArray.empty, .string s, .slice none 0 0] 28)) w.heap.size s := World.alloc_heap_new w _
  have B0 : Below w.heap.size w (w.alloc (.cells #[.int .i64 0, .int .i64 1, .int .i64 1, .int .i64 1, .int .i64 0, .int .i64 0, .string ByteArray.empty, .string s, .slice none 0 0] 28)) := (Below.refl _ w).alloc (Nat.le_refl _) _
  generalize w.alloc (.cells #[.int .i64 0, .int .i64 1, .int .i64 1, .int .i64 1, .int .i64 0, .int .i64 0, .string ByteArray.empty, .string s, .slice none 0 0] 28) = V at *
  have B0 := hideC B0
  have ⟨⟨c0, c1, c2, c3⟩, ⟨c4, c5⟩, ⟨c6, c7, c8⟩⟩ := Q0.cells
  have Q0 := hideC Q0
  go_region_held3 (fun w' => w'.cell? ⟨w.heap.size, 0, none⟩ = some (.int .i64 0) ∧ w'.cell? ⟨w.heap.size, 1, none⟩ = some (.int .i64 1) ∧ w'.cell? ⟨w.heap.size, 2, none⟩ = some (.int .i64 1) ∧ w'.cell? ⟨w.heap.size, 3, none⟩ = some (.int .i64 1)) (first | go_keep | assumption) (first
    | (go_at_call 17; (with_reducible refine (time_0 _).mono ?_); rintro e w1 ⟨rfl, b1⟩; have Q1 := hideC (Q0.out.keep (Below.drew_of b1)); have ⟨⟨d0, d1, d2, d3⟩, _⟩ := Q1.out.cells)
    | (go_at_call 17; (with_reducible refine (time_1 _).mono ?_); rintro e w2 ⟨rfl, b2⟩; have Q2 := hideC (Q1.out.keep b2); have ⟨⟨e0, e1, e2, e3⟩, _⟩ := Q2.out.cells)
    | (go_at_call 16; (with_reducible refine (or_zero _ _ (cell_two_newA _ _ _ _) (cell_two_newB _ _ _ _)).mono ?_); rintro e w3 ⟨rfl, b3⟩; have Q3 := hideC ((Q2.out.keep (bel1 _ _)).keep b3); have ⟨⟨f0, f1, f2, f3⟩, _⟩ := Q3.out.cells))
  have B3 := hideC (((B0.out.trans ((Below.drew_of b1).mono (by have := B0.out.size; omega))).trans (b2.mono (Nat.le_trans B0.out.size (Below.drew_of b1).size))).trans ((bel1 _ _).trans (b3.mono (by simp))|>.mono (Nat.le_trans (Nat.le_trans B0.out.size (Below.drew_of b1).size) b2.size)))
  clear b1 b2 b3 Q0 Q1 Q2 B0 c0 c1 c2 c3 c4 c5 c6 c7 c8 d0 d1 d2 d3 e0 e1 e2 e3 f0 f1 f2 f3
  obtain ⟨⟨c0, c1, c2, c3⟩, ⟨c4, c5⟩, ⟨c6, c7, c8⟩⟩ := Q3.out.cells
  go_wp2_with fail
  refine (cmp_01 _).mono ?_
  rintro e w4 ⟨rfl, b4⟩
  have Q4 := hideC (Q3.out.keep b4)
  have B4 := hideC (B3.out.trans (b4.mono B3.out.size))
  clear b4 Q3 B3 c0 c1 c2 c3 c4 c5 c6 c7 c8
  obtain ⟨⟨c0, c1, c2, c3⟩, ⟨c4, c5⟩, ⟨c6, c7, c8⟩⟩ := Q4.out.cells
  go_wp2_with fail
  go_region_held3 (fun w' => w'.cell? ⟨w.heap.size, 6, none⟩ = some (.string ByteArray.empty) ∧ w'.cell? ⟨w.heap.size, 7, none⟩ = some (.string s) ∧ w'.cell? ⟨w.heap.size, 8, none⟩ = some (.slice none 0 0)) (first | go_keep | assumption) (first
    | (go_at_call 19; (with_reducible refine (checkName_none _).mono ?_); rintro e w5 ⟨rfl, b5⟩; have Q5 := hideC (Q4.out.keep (Below.drew_of b5)); have ⟨_, _, ⟨d6, d7, d8⟩⟩ := Q5.out.cells)
    | (go_at_call 20; (with_reducible refine (stcheck_plain s hs _).mono ?_); rintro e w6 ⟨rfl, b6⟩; have Q6 := hideC (Q5.out.keep b6); have ⟨_, _, ⟨e6, e7, e8⟩⟩ := Q6.out.cells)
    | (go_at_call 16; (with_reducible refine (or_zero _ _ (cell_two_newA _ _ _ _) (cell_two_newB _ _ _ _)).mono ?_); rintro e w7 ⟨rfl, b7⟩; have Q7 := hideC ((Q6.out.keep (bel1 _ _)).keep b7); have ⟨_, _, ⟨f6, f7, f8⟩⟩ := Q7.out.cells))
  have B7 := hideC (((B4.out.trans ((Below.drew_of b5).mono B4.out.size)).trans (b6.mono (Nat.le_trans B4.out.size (Below.drew_of b5).size))).trans ((bel1 _ _).trans (b7.mono (by simp))|>.mono (Nat.le_trans (Nat.le_trans B4.out.size (Below.drew_of b5).size) b6.size)))
  clear b5 b6 b7 Q4 Q5 Q6 B4 c0 c1 c2 c3 c4 c5 c6 c7 c8 d6 d7 d8 e6 e7 e8 f6 f7 f8
  go_wp2
  go_ret
  exact ⟨rfl, B7.out⟩

end Go.Proofs.YtdikfcnbkckinaaGreatDoor

/- cue.Check at every cue, what its parts' checks tell given. -/
namespace Go.Proofs.YtdikfcnbkckinaaGreatDoor
open Go.RowKit Go.Shelf

/-- A cue in a block of its own. -/
def CueC (w : World) (B : Nat) (a b c d la sd : Int) (nm s : ByteArray) (v : Value) : Prop := w.heap[B]? = some (.cells #[.int .i64 a, .int .i64 b, .int .i64 c, .int .i64 d, .int .i64 la, .int .i64 sd, .string nm, .string s, v] 28)
theorem CueC.cells {w : World} {B : Nat} {a b c d la sd : Int} {nm s : ByteArray} {v : Value} (h : CueC w B a b c d la sd nm s v) :
    (w.cell? ⟨B, 0, none⟩ = some (.int .i64 a) ∧ w.cell? ⟨B, 1, none⟩ = some (.int .i64 b) ∧ w.cell? ⟨B, 2, none⟩ = some (.int .i64 c) ∧ w.cell? ⟨B, 3, none⟩ = some (.int .i64 d)) ∧
    (w.cell? ⟨B, 4, none⟩ = some (.int .i64 la) ∧ w.cell? ⟨B, 5, none⟩ = some (.int .i64 sd)) ∧ (w.cell? ⟨B, 6, none⟩ = some (.string nm) ∧ w.cell? ⟨B, 7, none⟩ = some (.string s) ∧ w.cell? ⟨B, 8, none⟩ = some v) := by
  simp [World.cell?, show w.heap[B]? = _ from h]
theorem CueC.keep {w w' : World} {B : Nat} {a b c d la sd : Int} {nm s : ByteArray} {v : Value} (h : CueC w B a b c d la sd nm s v) (bb : Below w.heap.size w w') : CueC w' B a b c d la sd nm s v := (bb.block B (Array.getElem?_eq_some_iff.1 h).1).trans h

/-- What cue.Check tells. -/
def chkC (e12 cc la sd e34 : Int) : Int := if ¬ e12 = 0 then e12 else if 0 ≤ cc then 32 else if la < 0 ∨ 8 ≤ la ∨ (¬ sd = 0 ∧ ¬ sd = 1) then 34 else e34

set_option maxRecDepth 100000 in
set_option maxHeartbeats 1000000 in
theorem cuecheck_walk (a b c d la sd : Int) (nm s : ByteArray) (v : Value) (e1 e2 e12 cc en et e34 : Int) (h12 : (if e1 = 0 then e2 else e1) = e12) (h34 : (if en = 0 then et else en) = e34) (w : World)
    (H1 : ∀ W, Calls Tryz.prog 17 #[.agg #[.int .i64 a, .int .i64 b]] W fun e w' => e = .returned (.int .i64 e1) ∧ Below W.heap.size W w')
    (H2 : ∀ W, Calls Tryz.prog 17 #[.agg #[.int .i64 c, .int .i64 d]] W fun e w' => e = .returned (.int .i64 e2) ∧ Below W.heap.size W w')
    (H3 : ∀ W, Calls Tryz.prog 18 #[.agg #[.int .i64 a, .int .i64 b], .agg #[.int .i64 c, .int .i64 d]] W fun e w' => e = .returned (.int .i64 cc) ∧ Below W.heap.size W w')
    (H4 : ∀ W, Calls Tryz.prog 19 #[.string nm] W fun e w' => e = .returned (.int .i64 en) ∧ Below W.heap.size W w')
    (H5 : ∀ W, Below w.heap.size w W → Calls Tryz.prog 20 #[.agg #[.string s, v]] W fun e w' => e = .returned (.int .i64 et) ∧ Below W.heap.size W w') :
    Calls Tryz.prog 9 #[.agg #[.int .i64 a, .int .i64 b, .int .i64 c, .int .i64 d, .int .i64 la, .int .i64 sd, .string nm, .string s, v]] w fun e w' => e = .returned (.int .i64 (chkC e12 cc la sd e34)) ∧ Below w.heap.size w w' := by
  obtain ⟨R, hR⟩ : ∃ R, chkC e12 cc la sd e34 = R := ⟨_, rfl⟩
  rw [hR]
  have HR := hideC hR
  have HO : ∀ B W, World.cell? W ⟨B, 0, none⟩ = some (.int .i64 e1) → World.cell? W ⟨B, 1, none⟩ = some (.int .i64 e2) → Calls Tryz.prog 16 #[.slice (some ⟨B, 0, none⟩) 2 2] W fun e w' => e = .returned (.int .i64 e12) ∧ Below W.heap.size W w' := fun B W g0 g1 => by
    have := or_two e1 e2 B W g0 g1
    rw [h12] at this
    exact this
  have HP : ∀ B W, World.cell? W ⟨B, 0, none⟩ = some (.int .i64 en) → World.cell? W ⟨B, 1, none⟩ = some (.int .i64 et) → Calls Tryz.prog 16 #[.slice (some ⟨B, 0, none⟩) 2 2] W fun e w' => e = .returned (.int .i64 e34) ∧ Below W.heap.size W w' := fun B W g0 g1 => by
    have := or_two en et B W g0 g1
    rw [h34] at this
    exact this
  clear hR h12 h34
  replace HO := hideC HO
  replace HP := hideC HP
  replace H1 := hideC H1
  replace H2 := hideC H2
  replace H3 := hideC H3
  replace H4 := hideC H4
  replace H5 := hideC H5
  go_enter Tryz.func9, Tryz.ntmps9
  go_wp2_with fail
  have Q0 : CueC (w.alloc (.cells #[.int .i64 a, .int .i64 b, .int .i64 c, .int .i64 d, .int .i64 la, .int .i64 sd, .string nm, .string s, v] 28)) w.heap.size a b c d la sd nm s v := World.alloc_heap_new w _
  have B0 : Below w.heap.size w (w.alloc (.cells #[.int .i64 a, .int .i64 b, .int .i64 c, .int .i64 d, .int .i64 la, .int .i64 sd, .string nm, .string s, v] 28)) := (Below.refl _ w).alloc (Nat.le_refl _) _
  generalize w.alloc (.cells #[.int .i64 a, .int .i64 b, .int .i64 c, .int .i64 d, .int .i64 la, .int .i64 sd, .string nm, .string s, v] 28) = V at *
  have B0 := hideC B0
  have ⟨⟨c0, c1, c2, c3⟩, ⟨c4, c5⟩, ⟨c6, c7, c8⟩⟩ := Q0.cells
  have Q0 := hideC Q0
  go_region_held3 (fun w' => w'.cell? ⟨w.heap.size, 0, none⟩ = some (.int .i64 a) ∧ w'.cell? ⟨w.heap.size, 1, none⟩ = some (.int .i64 b) ∧ w'.cell? ⟨w.heap.size, 2, none⟩ = some (.int .i64 c) ∧ w'.cell? ⟨w.heap.size, 3, none⟩ = some (.int .i64 d)) (first | go_keep | assumption) (first
    | (go_at_call 17; (with_reducible refine (H1.out V.drew).mono ?_); rintro e w1 ⟨rfl, b1⟩; have Q1 := hideC (Q0.out.keep (Below.drew_of b1)); have ⟨⟨d0, d1, d2, d3⟩, _⟩ := Q1.out.cells)
    | (go_at_call 17; (with_reducible refine (H2.out _).mono ?_); rintro e w2 ⟨rfl, b2⟩; have Q2 := hideC (Q1.out.keep b2); have ⟨⟨e0, e1', e2', e3⟩, _⟩ := Q2.out.cells)
    | (go_at_call 16; (with_reducible refine (HO.out _ _ (cell_two_newA _ _ _ _) (cell_two_newB _ _ _ _)).mono ?_); rintro e w3 ⟨rfl, b3⟩; have Q3 := hideC ((Q2.out.keep (bel1 _ _)).keep b3); have ⟨⟨f0, f1, f2, f3⟩, _⟩ := Q3.out.cells))
  have B3 := hideC (((B0.out.trans ((Below.drew_of b1).mono (by have := B0.out.size; omega))).trans (b2.mono (Nat.le_trans B0.out.size (Below.drew_of b1).size))).trans ((bel1 _ _).trans (b3.mono (by simp))|>.mono (Nat.le_trans (Nat.le_trans B0.out.size (Below.drew_of b1).size) b2.size)))
  clear b1 b2 b3 Q0 Q1 Q2 B0 c0 c1 c2 c3 c4 c5 c6 c7 c8 d0 d1 d2 d3 e0 e1' e2' e3 f0 f1 f2 f3 H1 H2 HO
  by_cases g1 : e12 = 0
  · subst g1
    obtain ⟨⟨c0, c1, c2, c3⟩, ⟨c4, c5⟩, ⟨c6, c7, c8⟩⟩ := Q3.out.cells
    go_wp2_with fail
    refine (H3.out _).mono ?_
    rintro e w4 ⟨rfl, b4⟩
    have Q4 := hideC (Q3.out.keep b4)
    have B4 := hideC (B3.out.trans (b4.mono B3.out.size))
    clear b4 Q3 B3 c0 c1 c2 c3 c4 c5 c6 c7 c8 H3
    obtain ⟨⟨c0, c1, c2, c3⟩, ⟨c4, c5⟩, ⟨c6, c7, c8⟩⟩ := Q4.out.cells
    by_cases g2 : 0 ≤ cc
    · have hr : R = 32 := by have := HR.out; unfold chkC at this; rw [if_neg (by simp), if_pos g2] at this; exact this.symm
      go_wp2_with fail
      go_ret
      exact ⟨(by rw [hr]; first | done | rfl), B4.out⟩
    have hr := HR.out
    unfold chkC at hr
    rw [if_neg (by simp), if_neg g2] at hr
    by_cases g3 : la < 0
    · rw [if_pos (.inl g3)] at hr
      have HQ := hideC hr.symm
      clear hr HR
      go_wp2_with fail
      go_ret
      exact ⟨(by rw [HQ.out]; first | done | rfl), B4.out⟩
    by_cases g4 : 8 ≤ la
    · rw [if_pos (.inr (.inl g4))] at hr
      have HQ := hideC hr.symm
      clear hr HR
      go_wp2_with fail
      go_ret
      exact ⟨(by rw [HQ.out]; first | done | rfl), B4.out⟩
    by_cases g5 : ¬ sd = 0 ∧ ¬ sd = 1
    · rw [if_pos (.inr (.inr g5))] at hr
      have HQ := hideC hr.symm
      have g6 : (sd != 0) = true := by simpa using g5.1
      have g7 : (sd != 1) = true := by simpa using g5.2
      obtain ⟨g8, g9⟩ := g5
      clear hr HR
      go_wp2_with fail
      go_ret
      exact ⟨(by rw [HQ.out]; first | done | rfl), B4.out⟩
    rw [if_neg (by rintro (h | h | h) <;> contradiction)] at hr
    have HQ := hideC hr.symm
    clear hr HR
    rcases (show sd = 0 ∨ sd = 1 by by_cases h : sd = 0 <;> by_cases k : sd = 1 <;> simp_all) with rfl | rfl
    all_goals
      clear g5
      go_wp2_with fail
      go_region_held3 (fun w' => w'.cell? ⟨w.heap.size, 6, none⟩ = some (.string nm) ∧ w'.cell? ⟨w.heap.size, 7, none⟩ = some (.string s) ∧ w'.cell? ⟨w.heap.size, 8, none⟩ = some v) (first | go_keep | assumption) (first
        | (go_at_call 19; (with_reducible refine (H4.out _).mono ?_); rintro e w5 ⟨rfl, b5⟩; have Q5 := hideC (Q4.out.keep (Below.drew_of b5)); have ⟨_, _, ⟨d6, d7, d8⟩⟩ := Q5.out.cells; have B5 := hideC (B4.out.trans ((Below.drew_of b5).mono B4.out.size)))
        | (go_at_call 20; (with_reducible refine (H5.out _ B5.out).mono ?_); rintro e w6 ⟨rfl, b6⟩; have Q6 := hideC (Q5.out.keep b6); have ⟨_, _, ⟨e6, e7, e8⟩⟩ := Q6.out.cells)
        | (go_at_call 16; (with_reducible refine (HP.out _ _ (cell_two_newA _ _ _ _) (cell_two_newB _ _ _ _)).mono ?_); rintro e w7 ⟨rfl, b7⟩; have Q7 := hideC ((Q6.out.keep (bel1 _ _)).keep b7); have ⟨_, _, ⟨f6, f7, f8⟩⟩ := Q7.out.cells))
      have B7 := hideC (((B4.out.trans ((Below.drew_of b5).mono B4.out.size)).trans (b6.mono (Nat.le_trans B4.out.size (Below.drew_of b5).size))).trans ((bel1 _ _).trans (b7.mono (by simp))|>.mono (Nat.le_trans (Nat.le_trans B4.out.size (Below.drew_of b5).size) b6.size)))
      clear b5 b6 b7 Q4 Q5 Q6 B4 c0 c1 c2 c3 c4 c5 c6 c7 c8 d6 d7 d8 e6 e7 e8 f6 f7 f8
      go_wp2
      go_ret
      exact ⟨(by rw [HQ.out]; first | done | rfl), B7.out⟩
  · have hr : R = e12 := by have := HR.out; unfold chkC at this; rw [if_pos g1] at this; exact this.symm
    have g6 : (e12 != 0) = true := by simpa using g1
    have HQ := hideC hr
    clear hr HR
    go_wp2_with fail
    go_ret
    exact ⟨(by rw [HQ.out]; first | done | rfl), B3.out⟩

end Go.Proofs.YtdikfcnbkckinaaGreatDoor
