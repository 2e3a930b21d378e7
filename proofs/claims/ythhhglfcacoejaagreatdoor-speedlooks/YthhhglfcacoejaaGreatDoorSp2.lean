/- Contracts of style.Check at texts without spans, of mark.Name at the empty name, of cmp.Or at two numbers. -/
import Derived.Test.YthhhglfcacoejaaGreatDoorW1
import Derived.Test.YthhhglfcacoejaaGreatDoorCellM
import Derived.Test.YthhhglfcacoejaaGreatDoorLawL
import Derived.Deep.RegionHeld
namespace Go.Proofs.YthhhglfcacoejaaGreatDoor
open Go.RowKit

set_option maxRecDepth 100000 in
set_option maxHeartbeats 400000 in
theorem spclone_nil (w : World) : Calls Tryz.prog 131 #[.slice none 0 0] w fun e w' => e = .returned (.slice none 0 0) ∧ w' = w := by
  have he : ∀ W, (binOp .eql 50 (.slice none 0 0) (.slice none 0 0)).run Tryz.prog W = .ok (.bool true) W := fun W => by kernel_rfl
  go_enter Tryz.func131, Tryz.ntmps131
  go_wp2
  go_ret
  exact ⟨rfl, rfl⟩
set_option maxHeartbeats 400000 in
theorem insert_nil (v f : Value) (w : World) : Calls Tryz.prog 143 #[v, .int .i64 0, .int .i64 0, f] w fun e w' => e = .returned (.tuple #[]) ∧ w' = w := by
  go_enter Tryz.func143, Tryz.ntmps143
  go_wp2
  go_loopw [8] (fun i wr => i = .int .i64 1 ∧ wr = w) (fun _ _ => 0)
  case atStart => exact ⟨rfl, rfl⟩
  case round =>
    obtain ⟨rfl, rfl⟩ := hrel
    go_wp2
    go_end0
    exact ⟨rfl, rfl⟩
set_option maxHeartbeats 400000 in
theorem stable_nil (v f : Value) (w : World) : Calls Tryz.prog 136 #[v, .int .i64 0, f] w fun e w' => e = .returned (.tuple #[]) ∧ w' = w := by
  go_enter Tryz.func136, Tryz.ntmps136
  go_wp2
  go_loopw [7, 8] (fun i j wr => i = .int .i64 0 ∧ j = .int .i64 20 ∧ wr = w) (fun _ _ _ => 0)
  case atStart => exact ⟨rfl, rfl, rfl⟩
  case round =>
    obtain ⟨rfl, rfl, rfl⟩ := hrel
    go_wp2_with (go_at_call 143; refine (insert_nil _ _ _).mono ?_; rintro e w' ⟨rfl, rfl⟩)
    go_loopw [6, 7, 8] (fun k i j wr => k = .int .i64 20 ∧ i = .int .i64 0 ∧ j = .int .i64 20 ∧ wr = w') (fun _ _ _ _ => 0)
    case atStart => exact ⟨rfl, rfl, rfl, rfl⟩
    case round =>
      obtain ⟨rfl, rfl, rfl, rfl⟩ := hrel
      go_wp2
      go_end0
      exact ⟨rfl, rfl⟩
set_option maxHeartbeats 400000 in
theorem sortst_nil (f : Value) (w : World) : Calls Tryz.prog 132 #[.slice none 0 0, f] w fun e w' => e = .returned (.tuple #[]) ∧ w' = w := by
  go_enter Tryz.func132, Tryz.ntmps132
  go_wp2_with (go_at_call 136; refine (stable_nil _ _ _).mono ?_; rintro e w' ⟨rfl, rfl⟩)
  go_end0
  exact ⟨rfl, rfl⟩
set_option maxHeartbeats 400000 in
theorem outerFirst_nil (w : World) : Calls Tryz.prog 123 #[.slice none 0 0] w fun e w' => e = .returned (.slice none 0 0) ∧ w' = w := by
  go_enter Tryz.func123, Tryz.ntmps123
  go_wp2_with fail
  refine (spclone_nil _).mono ?_
  rintro e w' ⟨rfl, rfl⟩
  go_wp2_with (go_at_call 132; refine (sortst_nil _ _).mono ?_; rintro e w' ⟨rfl, rfl⟩)
  go_ret
  exact ⟨rfl, rfl⟩
set_option maxHeartbeats 400000 in
theorem cross_nil (w : World) : Calls Tryz.prog 107 #[.slice none 0 0] w fun e w' => e = .returned (.bool false) ∧ Below w.heap.size w w' := by
  go_enter Tryz.func107, Tryz.ntmps107
  go_wp2_with (go_at_call 123; refine (outerFirst_nil _).mono ?_; rintro e w' ⟨rfl, rfl⟩)
  go_loopw [9] (fun i wr => i = .int .i64 0 ∧ wr = w') (fun _ _ => 0)
  case atStart => exact ⟨rfl, rfl⟩
  case round =>
    obtain ⟨rfl, rfl⟩ := hrel
    go_wp2
    go_ret
    exact ⟨rfl, Below.refl _ _⟩
set_option maxHeartbeats 400000 in
theorem allFit_nil (n : Int) (w : World) : Calls Tryz.prog 105 #[.slice none 0 0, .int .i64 n] w fun e w' => e = .returned (.bool true) ∧ Below w.heap.size w w' := by
  go_enter Tryz.func105, Tryz.ntmps105
  go_wp2
  go_loopw [9] (fun i wr => i = .int .i64 0 ∧ wr = w) (fun _ _ => 0)
  case atStart => exact ⟨rfl, rfl⟩
  case round =>
    obtain ⟨rfl, rfl⟩ := hrel
    go_wp2
    go_ret
    exact ⟨rfl, Below.refl _ _⟩

set_option maxRecDepth 100000 in
set_option maxHeartbeats 400000 in
theorem stcount_any (s : ByteArray) (w : World) (_hs : s.size ≤ 140737488355328) : Calls Tryz.prog 106 #[.string s] w fun e w' => e = .returned (.int .i64 (signs s).length) ∧ Below w.heap.size w w' := by
  go_enter Tryz.func106, Tryz.ntmps106
  go_wp2
  go_loopw [3] (fun n w' => ∃ (pos b : Nat) (acc : Nat), w' = w.iter s pos ∧ n = .int .i64 acc ∧ acc + (sgns s b pos).length = (signs s).length ∧ s.size ≤ pos + b ∧ acc ≤ pos) (fun _ w' => s.size - w'.iterPos w.heap.size)
  case atStart => exact ⟨0, s.size, 0, rfl, rfl, by simp [signs], by omega, by omega⟩
  case round =>
    obtain ⟨pos, b, acc, rfl, rfl, hc, hb, ha⟩ := hrel
    have HC : Hid (acc + (sgns s b pos).length = (signs s).length) := hc
    clear hc
    by_cases hp : pos < s.size
    · have hnx : ∀ ty, (Instr.next (.pointer (some ⟨w.heap.size, 0, none⟩)) true ty).run Tryz.prog (w.iter s pos) = _ := fun ty => run_next_any w s pos ty hp
      go_wp2
      have hwd := Lib.decode_width_pos s pos hp
      go_roundw
      case rel =>
        cases b with
        | zero => omega
        | succ b =>
          refine ⟨pos + (Utf8.decode s pos).2, b, acc + 1, rfl, by go_num, ?_, by omega, by omega⟩
          have := HC.out
          rw [sgns, if_pos hp] at this
          simp at this
          omega
      case measure =>
        simp
        omega
    · have hnx : ∀ ty, (Instr.next (.pointer (some ⟨w.heap.size, 0, none⟩)) true ty).run Tryz.prog (w.iter s pos) = _ := fun ty => run_next_end w s pos ty hp
      go_wp2
      go_ret
      have := HC.out
      rw [sgns_end s b pos hp] at this
      simp at this
      subst this
      exact ⟨rfl, (Below.refl _ w).alloc (Nat.le_refl _) _⟩

theorem cell_two_newA (w : World) (a b : Value) (t : TypeId) : (w.alloc (.cells #[a, b] t)).cell? ⟨w.heap.size, 0, none⟩ = some a := by
  unfold World.cell?
  rw [show (w.alloc (.cells #[a, b] t)).heap[w.heap.size]? = _ from World.alloc_heap_new w _]
  rfl
theorem cell_two_newB (w : World) (a b : Value) (t : TypeId) : (w.alloc (.cells #[a, b] t)).cell? ⟨w.heap.size, 1, none⟩ = some b := by
  unfold World.cell?
  rw [show (w.alloc (.cells #[a, b] t)).heap[w.heap.size]? = _ from World.alloc_heap_new w _]
  rfl

set_option maxRecDepth 100000 in
set_option maxHeartbeats 1000000 in
theorem stcheck_plain (s : ByteArray) (hs : s.size ≤ 4096) (w : World) : Calls Tryz.prog 83 #[.agg #[.string s, .slice none 0 0]] w fun e w' => e = .returned (.int .i64 0) ∧ Below w.heap.size w w' := by
  go_enter Tryz.func83, Tryz.ntmps83
  go_wp2_with fail
  have c0 : (w.alloc (.cells #[.string s, .slice none 0 0] 52)).cell? ⟨w.heap.size, 0, none⟩ = some (.string s) := cell_two_newA _ _ _ _
  have c1 : (w.alloc (.cells #[.string s, .slice none 0 0] 52)).cell? ⟨w.heap.size, 1, none⟩ = some (.slice none 0 0) := cell_two_newB _ _ _ _
  have bb : Below w.heap.size w (w.alloc (.cells #[.string s, .slice none 0 0] 52)) := (Below.refl _ w).alloc (Nat.le_refl _) _
  have hz : w.heap.size < (w.alloc (.cells #[.string s, .slice none 0 0] 52)).heap.size := by simp
  generalize w.alloc (.cells #[.string s, .slice none 0 0] 52) = V at *
  go_region_held (fun w' => w'.cell? ⟨w.heap.size, 0, none⟩ = some (.string s) ∧ w'.cell? ⟨w.heap.size, 1, none⟩ = some (.slice none 0 0)) (first | go_keep | assumption) (first
    | (go_at_call 106; refine (stcount_any s _ (by omega)).mono ?_; rintro e w1 ⟨rfl, b1⟩; have d0 : w1.cell? ⟨w.heap.size, 0, none⟩ = some (.string s) := (b1.cell (p := ⟨w.heap.size, 0, none⟩) hz).trans c0; have d1 : w1.cell? ⟨w.heap.size, 1, none⟩ = some (.slice none 0 0) := (b1.cell (p := ⟨w.heap.size, 1, none⟩) hz).trans c1; have hz1 : w.heap.size < w1.heap.size := Nat.lt_of_lt_of_le hz b1.size)
    | (go_at_call 105; refine (allFit_nil _ _).mono ?_; rintro e w2 ⟨rfl, b2⟩; have e0 : w2.cell? ⟨w.heap.size, 0, none⟩ = some (.string s) := (b2.cell (p := ⟨w.heap.size, 0, none⟩) hz1).trans d0; have e1 : w2.cell? ⟨w.heap.size, 1, none⟩ = some (.slice none 0 0) := (b2.cell (p := ⟨w.heap.size, 1, none⟩) hz1).trans d1; have hz2 : w.heap.size < w2.heap.size := Nat.lt_of_lt_of_le hz1 b2.size)
    | (go_at_call 107; refine (cross_nil _).mono ?_; rintro e w3 ⟨rfl, b3⟩; have f0 : w3.cell? ⟨w.heap.size, 0, none⟩ = some (.string s) := (b3.cell (p := ⟨w.heap.size, 0, none⟩) hz2).trans e0; have f1 : w3.cell? ⟨w.heap.size, 1, none⟩ = some (.slice none 0 0) := (b3.cell (p := ⟨w.heap.size, 1, none⟩) hz2).trans e1))
  have b9 : Below w.heap.size w w3 := ((bb.drew.trans (b1.mono (by simp; omega))).trans (b2.mono (by omega))).trans (b3.mono (by omega))
  clear c0 c1 bb d0 d1 e0 e1 f0 f1 b1 b2 b3
  go_wp2
  go_ret
  exact ⟨rfl, b9⟩

set_option maxHeartbeats 400000 in
theorem isDialect_voice (w : World) : Calls Tryz.prog 118 #[.int .i64 2] w fun e w' => e = .returned (.bool true) ∧ w' = w := by
  go_enter Tryz.func118, Tryz.ntmps118
  go_wp2
  go_ret
  exact ⟨rfl, rfl⟩
set_option maxHeartbeats 400000 in
theorem isName_none (w : World) : Calls Tryz.prog 119 #[.string ByteArray.empty] w fun e w' => e = .returned (.bool true) ∧ Below w.heap.size w w' := by
  go_enter Tryz.func119, Tryz.ntmps119
  go_wp2
  go_loopw [4] (fun _ wr => wr = w.iter ByteArray.empty 0) (fun _ _ => 0)
  case atStart => rfl
  case round =>
    subst hrel
    have hnx : ∀ ty, (Instr.next (.pointer (some ⟨w.heap.size, 0, none⟩)) true ty).run Tryz.prog (w.iter ByteArray.empty 0) = _ := fun ty => run_next_end w ByteArray.empty 0 ty (by decide)
    go_wp2
    go_ret
    exact ⟨rfl, (Below.refl _ w).alloc (Nat.le_refl _) _⟩

set_option maxHeartbeats 400000 in
theorem liteclone_none (w : World) : Calls Tryz.prog 130 #[.string ByteArray.empty] w fun e w' => e = .returned (.string ByteArray.empty) ∧ w' = w := by
  go_enter Tryz.func130, Tryz.ntmps130
  go_wp2
  go_ret
  exact ⟨rfl, rfl⟩
set_option maxHeartbeats 400000 in
theorem clone_none (w : World) : Calls Tryz.prog 121 #[.string ByteArray.empty] w fun e w' => e = .returned (.string ByteArray.empty) ∧ w' = w := by
  go_enter Tryz.func121, Tryz.ntmps121
  go_wp2_with (go_at_call 130; refine (liteclone_none _).mono ?_; rintro e w3 ⟨rfl, rfl⟩)
  go_ret
  exact ⟨rfl, rfl⟩

set_option maxRecDepth 100000 in
set_option maxHeartbeats 400000 in
theorem name_none (w : World) : Calls Tryz.prog 104 #[.int .i64 2, .string ByteArray.empty] w fun e w' => e = .returned (.tuple #[.string ByteArray.empty, .bool false, .int .i64 0]) ∧ Below w.heap.size w w' := by
  go_enter Tryz.func104, Tryz.ntmps104
  go_wp2_with (go_at_call 118; refine (isDialect_voice _).mono ?_; rintro e w1 ⟨rfl, rfl⟩)
  refine (isName_none _).mono ?_
  rintro e w2 ⟨rfl, b2⟩
  have B2 := hideC b2
  clear b2
  go_wp2_with (go_at_call 121; refine (clone_none _).mono ?_; rintro e w3 ⟨rfl, rfl⟩)
  go_ret3
  exact ⟨rfl, B2.out⟩

set_option maxRecDepth 100000 in
set_option maxHeartbeats 400000 in
/-- cmp.Or of two numbers: the first that is not 0. -/
theorem or_two (a b : Int) (B : Nat) (w : World) (h0 : w.cell? ⟨B, 0, none⟩ = some (.int .i64 a)) (h1 : w.cell? ⟨B, 1, none⟩ = some (.int .i64 b)) :
    Calls Tryz.prog 57 #[.slice (some ⟨B, 0, none⟩) 2 2] w fun e w' => e = .returned (.int .i64 (if a = 0 then b else a)) ∧ Below w.heap.size w w' := by
  generalize hv : (if a = 0 then b else a) = V at *
  have HW := hideC hv
  clear hv
  go_enter Tryz.func57, Tryz.ntmps57
  go_wp2
  go_loopw [5, 8] (fun _ i wr => wr = w ∧ ((i = .int .i64 0) ∨ (i = .int .i64 1 ∧ a = 0) ∨ (i = .int .i64 2 ∧ a = 0 ∧ b = 0))) (fun _ i _ => 2 - (intOf i).toNat)
  case atStart => exact ⟨rfl, .inl rfl⟩
  case round =>
    obtain ⟨rfl, rfl | ⟨rfl, ha⟩ | ⟨rfl, ha, hb⟩⟩ := hrel
    · by_cases h : a = 0
      · subst h
        go_wp2
        go_roundw
        case rel => exact ⟨trivial, .inr (.inl ⟨by go_num, trivial⟩)⟩
        case measure => decide
      · go_wp2
        go_ret
        refine ⟨?_, Below.refl _ _⟩
        have := HW.out
        rw [if_neg h] at this
        rw [← this]
        rfl
    · by_cases h : b = 0
      · subst h ha
        go_wp2
        go_roundw
        case rel => exact ⟨trivial, .inr (.inr ⟨by go_num, trivial, trivial⟩)⟩
        case measure => decide
      · go_wp2
        go_ret
        refine ⟨?_, Below.refl _ _⟩
        have := HW.out
        rw [if_pos ha] at this
        rw [← this]
        rfl
    · go_wp2
      go_ret
      refine ⟨?_, Below.refl _ _⟩
      have := HW.out
      rw [if_pos ha, hb] at this
      rw [← this]
      rfl

end Go.Proofs.YthhhglfcacoejaaGreatDoor
