/- Contracts of cue.Check at a cue from 0 to 1 of a text without spans, of speed.checkText, right, wants, Wants. -/
import Derived.Test.YtpbedjabbehhgaaSp1
import Derived.Test.YtpbedjabbehhgaaSp2
import Derived.Test.YtpbedjabbehhgaaRowsO
import Derived.Test.YtpbedjabbehhgaaRatW11
import Derived.Deep.RegionHeld3
namespace Go.Proofs.Ytpbedjabbehhgaa
open Go.RowKit Go.Shelf

set_option maxRecDepth 100000 in
set_option maxHeartbeats 400000 in
theorem checkName_none (w : World) : Calls Try.prog 24 #[.string ByteArray.empty] w fun e w' => e = .returned (.int .i64 0) ∧ Below w.heap.size w w' := by
  go_enter Try.func24, Try.ntmps24
  go_wp2_with (go_at_call 30; refine (name_none _).mono ?_; rintro e w1 ⟨rfl, b1⟩)
  go_ret
  exact ⟨rfl, b1⟩

theorem Below.drew_of {A B : World} (h : Below A.drew.heap.size A.drew B) : Below A.heap.size A B := (Below.refl A.heap.size A).drew.trans h

/-- A cue from 0 to 1 of a text without spans, in a block of its own. -/
def CueAt (w : World) (B : Nat) (s : ByteArray) : Prop := w.heap[B]? = some (.cells #[.int .i64 0, .int .i64 1, .int .i64 1, .int .i64 1, .int .i64 0, .int .i64 0, .string ByteArray.empty, .string s, .slice none 0 0] 33)
theorem CueAt.cells {w : World} {B : Nat} {s : ByteArray} (h : CueAt w B s) :
    (w.cell? ⟨B, 0, none⟩ = some (.int .i64 0) ∧ w.cell? ⟨B, 1, none⟩ = some (.int .i64 1) ∧ w.cell? ⟨B, 2, none⟩ = some (.int .i64 1) ∧ w.cell? ⟨B, 3, none⟩ = some (.int .i64 1)) ∧
    (w.cell? ⟨B, 4, none⟩ = some (.int .i64 0) ∧ w.cell? ⟨B, 5, none⟩ = some (.int .i64 0)) ∧ (w.cell? ⟨B, 6, none⟩ = some (.string ByteArray.empty) ∧ w.cell? ⟨B, 7, none⟩ = some (.string s) ∧ w.cell? ⟨B, 8, none⟩ = some (.slice none 0 0)) := by
  simp [World.cell?, show w.heap[B]? = _ from h]
theorem CueAt.keep {w w' : World} {B : Nat} {s : ByteArray} (h : CueAt w B s) (b : Below w.heap.size w w') : CueAt w' B s := (b.block B (Array.getElem?_eq_some_iff.1 h).1).trans h
theorem CueAt.lt {w : World} {B : Nat} {s : ByteArray} (h : CueAt w B s) : B < w.heap.size := (Array.getElem?_eq_some_iff.1 h).1
theorem time_0 (w : World) : Calls Try.prog 22 #[.agg #[.int .i64 0, .int .i64 1]] w fun e w' => e = .returned (.int .i64 0) ∧ Below w.heap.size w w' :=
  (time_any ⟨0, 1⟩ ⟨⟨by simp, by simp⟩, ⟨by simp, by simp⟩⟩ w)
theorem time_1 (w : World) : Calls Try.prog 22 #[.agg #[.int .i64 1, .int .i64 1]] w fun e w' => e = .returned (.int .i64 0) ∧ Below w.heap.size w w' :=
  (time_any ⟨1, 1⟩ ⟨⟨by simp, by simp⟩, ⟨by simp, by simp⟩⟩ w)
theorem cmp_01 (w : World) : Calls Try.prog 23 #[.agg #[.int .i64 0, .int .i64 1], .agg #[.int .i64 1, .int .i64 1]] w fun e w' => e = .returned (.int .i64 (-1)) ∧ Below w.heap.size w w' :=
  (cmp_any ⟨0, 1⟩ ⟨1, 1⟩ ⟨⟨by simp, by simp⟩, ⟨by simp, by simp⟩⟩ ⟨⟨by simp, by simp⟩, ⟨by simp, by simp⟩⟩ w)
theorem or_zero (B : Nat) (w : World) (h0 : w.cell? ⟨B, 0, none⟩ = some (.int .i64 0)) (h1 : w.cell? ⟨B, 1, none⟩ = some (.int .i64 0)) :
    Calls Try.prog 21 #[.slice (some ⟨B, 0, none⟩) 2 2] w fun e w' => e = .returned (.int .i64 0) ∧ Below w.heap.size w w' := or_two 0 0 B w h0 h1

set_option maxRecDepth 100000 in
set_option maxHeartbeats 400000 in
theorem cuecheck_plain (s : ByteArray) (hs : s.size ≤ 4096) (w : World) :
    Calls Try.prog 16 #[.agg #[.int .i64 0, .int .i64 1, .int .i64 1, .int .i64 1, .int .i64 0, .int .i64 0, .string ByteArray.empty, .string s, .slice none 0 0]] w fun e w' => e = .returned (.int .i64 0) ∧ Below w.heap.size w w' := by
  go_enter Try.func16, Try.ntmps16
  go_wp2_with fail
  have Q0 : CueAt (w.alloc (.cells #[.int .i64 0, .int .i64 1, .int .i64 1, .int .i64 1, .int .i64 0, .int .i64 0, .string ByteArray.empty, .string s, .slice none 0 0] 33)) w.heap.size s := World.alloc_heap_new w _
  have B0 : Below w.heap.size w (w.alloc (.cells #[.int .i64 0, .int .i64 1, .int .i64 1, .int .i64 1, .int .i64 0, .int .i64 0, .string ByteArray.empty, .string s, .slice none 0 0] 33)) := (Below.refl _ w).alloc (Nat.le_refl _) _
  generalize w.alloc (.cells #[.int .i64 0, .int .i64 1, .int .i64 1, .int .i64 1, .int .i64 0, .int .i64 0, .string ByteArray.empty, .string s, .slice none 0 0] 33) = V at *
  have B0 := hideC B0
  have ⟨⟨c0, c1, c2, c3⟩, ⟨c4, c5⟩, ⟨c6, c7, c8⟩⟩ := Q0.cells
  have Q0 := hideC Q0
  go_region_held3 (fun w' => w'.cell? ⟨w.heap.size, 0, none⟩ = some (.int .i64 0) ∧ w'.cell? ⟨w.heap.size, 1, none⟩ = some (.int .i64 1) ∧ w'.cell? ⟨w.heap.size, 2, none⟩ = some (.int .i64 1) ∧ w'.cell? ⟨w.heap.size, 3, none⟩ = some (.int .i64 1)) (first | go_keep | assumption) (first
    | (go_at_call 22; (with_reducible refine (time_0 _).mono ?_); rintro e w1 ⟨rfl, b1⟩; have Q1 := hideC (Q0.out.keep (Below.drew_of b1)); have ⟨⟨d0, d1, d2, d3⟩, _⟩ := Q1.out.cells)
    | (go_at_call 22; (with_reducible refine (time_1 _).mono ?_); rintro e w2 ⟨rfl, b2⟩; have Q2 := hideC (Q1.out.keep b2); have ⟨⟨e0, e1, e2, e3⟩, _⟩ := Q2.out.cells)
    | (go_at_call 21; (with_reducible refine (or_zero _ _ (cell_two_newA _ _ _ _) (cell_two_newB _ _ _ _)).mono ?_); rintro e w3 ⟨rfl, b3⟩; have Q3 := hideC ((Q2.out.keep (bel1 _ _)).keep b3); have ⟨⟨f0, f1, f2, f3⟩, _⟩ := Q3.out.cells))
  have B3 := hideC (((B0.out.trans ((Below.drew_of b1).mono (by have := B0.out.size; omega))).trans (b2.mono (Nat.le_trans B0.out.size (Below.drew_of b1).size))).trans ((bel1 _ _).trans (b3.mono (by simp))|>.mono (Nat.le_trans (Nat.le_trans B0.out.size (Below.drew_of b1).size) b2.size)))
  clear b1 b2 b3 Q0 Q1 Q2 B0 c0 c1 c2 c3 c4 c5 c6 c7 c8 d0 d1 d2 d3 e0 e1 e2 e3 f0 f1 f2 f3
  obtain ⟨⟨c0, c1, c2, c3⟩, ⟨c4, c5⟩, ⟨c6, c7, c8⟩⟩ := Q3.out.cells
  go_wp2_with fail
  refine (cmp_01 _).mono ?_
  rintro e w4 ⟨rfl, b4⟩
  have Q4 := hideC (Q3.out.keep b4)
  have B4 := hideC (B3.out.trans (b4.mono B3.out.size))
  clear b4 Q3 B3 c0 c1 c2 c3 c4 c5 c6 c7 c8
  obtain ⟨⟨c0, c1, c2, c3⟩, ⟨c4, c5⟩, ⟨c6, c7, c8⟩⟩ := Q4.out.cells
  go_wp2_with fail
  go_region_held3 (fun w' => w'.cell? ⟨w.heap.size, 6, none⟩ = some (.string ByteArray.empty) ∧ w'.cell? ⟨w.heap.size, 7, none⟩ = some (.string s) ∧ w'.cell? ⟨w.heap.size, 8, none⟩ = some (.slice none 0 0)) (first | go_keep | assumption) (first
    | (go_at_call 24; (with_reducible refine (checkName_none _).mono ?_); rintro e w5 ⟨rfl, b5⟩; have Q5 := hideC (Q4.out.keep (Below.drew_of b5)); have ⟨_, _, ⟨d6, d7, d8⟩⟩ := Q5.out.cells)
    | (go_at_call 25; (with_reducible refine (stcheck_plain s hs _).mono ?_); rintro e w6 ⟨rfl, b6⟩; have Q6 := hideC (Q5.out.keep b6); have ⟨_, _, ⟨e6, e7, e8⟩⟩ := Q6.out.cells)
    | (go_at_call 21; (with_reducible refine (or_zero _ _ (cell_two_newA _ _ _ _) (cell_two_newB _ _ _ _)).mono ?_); rintro e w7 ⟨rfl, b7⟩; have Q7 := hideC ((Q6.out.keep (bel1 _ _)).keep b7); have ⟨_, _, ⟨f6, f7, f8⟩⟩ := Q7.out.cells))
  have B7 := hideC (((B4.out.trans ((Below.drew_of b5).mono B4.out.size)).trans (b6.mono (Nat.le_trans B4.out.size (Below.drew_of b5).size))).trans ((bel1 _ _).trans (b7.mono (by simp))|>.mono (Nat.le_trans (Nat.le_trans B4.out.size (Below.drew_of b5).size) b6.size)))
  clear b5 b6 b7 Q4 Q5 Q6 B4 c0 c1 c2 c3 c4 c5 c6 c7 c8 d6 d7 d8 e6 e7 e8 f6 f7 f8
  go_wp2
  go_ret
  exact ⟨rfl, B7.out⟩

end Go.Proofs.Ytpbedjabbehhgaa
