/- Contracts of speed.Rules.right, pace.wants, Wants at the rules of the statements' head. -/
import Derived.Test.YtifkoffjmdpgkaaDoorSp3
import Derived.Test.YtifkoffjmdpgkaaDoorRowsN
import Derived.Deep.RegionHeld3
import Derived.Deep.Cut
import Derived.Deep.CutRange
import Derived.Deep.DeepCutAuto
import Derived.Deep.CutBlock
namespace Go.Proofs.YtifkoffjmdpgkaaDoor
open Go.RowKit Go.Shelf

/-- The rules ten signs a second, a fifth, no gap, in a block of their own. -/
def SixR (w : World) (B : Nat) (t : TypeId) : Prop := w.heap[B]? = some (.cells #[.int .i64 10, .int .i64 1, .int .i64 1, .int .i64 5, .int .i64 0, .int .i64 1] t)
theorem SixR.cells {w : World} {B : Nat} {t : TypeId} (h : SixR w B t) :
    w.cell? ⟨B, 0, none⟩ = some (.int .i64 10) ∧ w.cell? ⟨B, 1, none⟩ = some (.int .i64 1) ∧ w.cell? ⟨B, 2, none⟩ = some (.int .i64 1) ∧ w.cell? ⟨B, 3, none⟩ = some (.int .i64 5) ∧ w.cell? ⟨B, 4, none⟩ = some (.int .i64 0) ∧ w.cell? ⟨B, 5, none⟩ = some (.int .i64 1) := by
  simp [World.cell?, show w.heap[B]? = _ from h]
theorem SixR.keep {w w' : World} {B : Nat} {t : TypeId} (h : SixR w B t) (b : Below w.heap.size w w') : SixR w' B t := (b.block B (Array.getElem?_eq_some_iff.1 h).1).trans h
theorem SixR.set {W : World} {B r : Nat} {t : TypeId} {a b : Value} (h : SixR W B t) (hr : B ≠ r) : SixR ((W.setCell ⟨r, 0, none⟩ a).setCell ⟨r, 1, none⟩ b) B t :=
  ((Below.heap_setCell _ _ _ _ hr).trans (Below.heap_setCell _ _ _ _ hr)).trans h
/-- A text without spans in a block of its own. -/
def TxtP (w : World) (B : Nat) (s : ByteArray) : Prop := w.heap[B]? = some (.cells #[.string s, .slice none 0 0] 26)
theorem TxtP.cells {w : World} {B : Nat} {s : ByteArray} (h : TxtP w B s) : w.cell? ⟨B, 0, none⟩ = some (.string s) ∧ w.cell? ⟨B, 1, none⟩ = some (.slice none 0 0) := by
  simp [World.cell?, show w.heap[B]? = _ from h]
theorem TxtP.keep {w w' : World} {B : Nat} {s : ByteArray} (h : TxtP w B s) (b : Below w.heap.size w w') : TxtP w' B s := (b.block B (Array.getElem?_eq_some_iff.1 h).1).trans h
theorem cell_two_set {W : World} {k o r : Nat} {a b v : Value} (h : k ≠ r) (hc : W.cell? ⟨k, o, none⟩ = some v) : ((W.setCell ⟨r, 0, none⟩ a).setCell ⟨r, 1, none⟩ b).cell? ⟨k, o, none⟩ = some v :=
  (World.cell?_of_block ((Below.heap_setCell _ _ _ _ h).trans (Below.heap_setCell _ _ _ _ h))).trans hc
theorem cell_old_alloc {W : World} {k o : Nat} {ob : Obj} (h : k < W.heap.size) : (W.alloc ob).cell? ⟨k, o, none⟩ = W.cell? ⟨k, o, none⟩ := World.cell?_of_block (Below.heap_alloc _ _ _ h)
theorem Two.cells {V : World} {R : Nat} {x y : Value} (h : Two V R x y) : V.cell? ⟨R, 0, none⟩ = some x ∧ V.cell? ⟨R, 1, none⟩ = some y ∧ V.frozen? ⟨R, 0, none⟩ = false ∧ V.frozen? ⟨R, 1, none⟩ = false := h.2
theorem TxtP.set {W : World} {B r : Nat} {s : ByteArray} {a b : Value} (h : TxtP W B s) (hr : B ≠ r) : TxtP ((W.setCell ⟨r, 0, none⟩ a).setCell ⟨r, 1, none⟩ b) B s :=
  ((Below.heap_setCell _ _ _ _ hr).trans (Below.heap_setCell _ _ _ _ hr)).trans h
/-- What lies at the head of pace.wants. -/
def PcW (w : World) (s : ByteArray) (W : World) : Prop := Below w.heap.size w W ∧ SixR W w.heap.size 44 ∧ TxtP W (w.heap.size + 1) s ∧ Two W (w.heap.size + 1 + 1) (.int .i64 0) (.int .i64 0)
theorem PcW.keep {w W W' : World} {s : ByteArray} (h : PcW w s W) (b : Below W.heap.size W W') : PcW w s W' := ⟨h.1.trans (b.mono h.1.size), h.2.1.keep b, h.2.2.1.keep b, h.2.2.2.keep b⟩
theorem PcW.set {w W : World} {s : ByteArray} {r : Nat} {a b : Value} (h : PcW w s W) (hr : w.heap.size + 1 + 1 < r) : PcW w s ((W.setCell ⟨r, 0, none⟩ a).setCell ⟨r, 1, none⟩ b) :=
  ⟨(h.1.setCell (by simp; omega) _).setCell (by simp; omega) _, h.2.1.set (by omega), h.2.2.1.set (by omega), h.2.2.2.other (by omega)⟩
theorem PcW.facts {w W : World} {s : ByteArray} (h : PcW w s W) : (W.cell? ⟨w.heap.size, 0, none⟩ = some (.int .i64 10) ∧ W.cell? ⟨w.heap.size, 1, none⟩ = some (.int .i64 1) ∧ W.cell? ⟨w.heap.size, 2, none⟩ = some (.int .i64 1) ∧ W.cell? ⟨w.heap.size, 3, none⟩ = some (.int .i64 5)) ∧ (W.cell? ⟨w.heap.size + 1, 0, none⟩ = some (.string s) ∧ W.cell? ⟨w.heap.size + 1, 1, none⟩ = some (.slice none 0 0)) :=
  ⟨⟨h.2.1.cells.1, h.2.1.cells.2.1, h.2.1.cells.2.2.1, h.2.1.cells.2.2.2.1⟩, h.2.2.1.cells⟩
theorem PcW.below {w W : World} {s : ByteArray} (h : PcW w s W) : Below w.heap.size w W := h.1
theorem PcW.res {w W : World} {s : ByteArray} (h : PcW w s W) : Two W (w.heap.size + 1 + 1) (.int .i64 0) (.int .i64 0) := h.2.2.2
theorem scount_4 (s : ByteArray) (hs : s.size ≤ 4096) (hr : readN (signs s) = 4) (N : Nat) (w : World) (hT : Tabs N w) :
    Calls Tryd.prog 6 #[.agg #[.string s, .slice none 0 0]] w fun e w' => e = .returned (.int .i64 4) ∧ Below w.heap.size w w' := by
  have := scount_any s (by omega) (.slice none 0 0) N w hT
  rw [hr] at this
  exact this
theorem right_10 (w : World) : Calls Tryd.prog 19 #[.agg #[.int .i64 10, .int .i64 1]] w fun e w' => e = .returned (.bool true) ∧ Below w.heap.size w w' :=
  (right_any ⟨10, 1⟩ ⟨⟨by simp, by simp⟩, ⟨by simp, by simp⟩⟩ w)
theorem time_15 (w : World) : Calls Tryd.prog 20 #[.agg #[.int .i64 1, .int .i64 5]] w fun e w' => e = .returned (.int .i64 0) ∧ Below w.heap.size w w' :=
  (time_any ⟨1, 5⟩ ⟨⟨by simp, by simp⟩, ⟨by simp, by simp⟩⟩ w)
theorem time_25 (w : World) : Calls Tryd.prog 20 #[.agg #[.int .i64 2, .int .i64 5]] w fun e w' => e = .returned (.int .i64 0) ∧ Below w.heap.size w w' :=
  (time_any ⟨2, 5⟩ ⟨⟨by simp, by simp⟩, ⟨by simp, by simp⟩⟩ w)
theorem div_4_10 (w : World) : Calls Tryd.prog 21 #[.agg #[.int .i64 4, .int .i64 1], .agg #[.int .i64 10, .int .i64 1]] w fun e w' => e = .returned (.tuple #[.agg #[.int .i64 2, .int .i64 5], .int .i64 0]) ∧ Below w.heap.size w w' := by
  have h : divA ⟨4, 1⟩ ⟨10, 1⟩ = (⟨2, 5⟩, 0) := by
    unfold divA
    rw [if_pos (by decide), if_neg (by decide)]
    have h : valQ ⟨4, 1⟩ / valQ ⟨10, 1⟩ = valQ ⟨2, 5⟩ := by
      unfold valQ
      rw [Rat.div_def, Rat.inv_divInt, Rat.divInt_mul_divInt]
      decide
    rw [h]
    exact low_right ⟨2, 5⟩ (by decide)
  have := quo_any ⟨4, 1⟩ ⟨10, 1⟩ ⟨⟨by simp, by simp⟩, ⟨by simp, by simp⟩⟩ ⟨⟨by simp, by simp⟩, ⟨by simp, by simp⟩⟩ w
  rw [h] at this
  exact this

theorem row_two_new (w : World) (a b c d : Int) (t : TypeId) : RowAt [⟨a, b⟩, ⟨c, d⟩] ⟨w.heap.size, 0, none⟩ (w.alloc (.cells #[.int .i64 a, .int .i64 b, .int .i64 c, .int .i64 d] t)) := by
  have h : (w.alloc (.cells #[.int .i64 a, .int .i64 b, .int .i64 c, .int .i64 d] t)).heap[w.heap.size]? = some (.cells #[.int .i64 a, .int .i64 b, .int .i64 c, .int .i64 d] t) := World.alloc_heap_new w _
  have hz : w.heap.size < (w.alloc (.cells #[.int .i64 a, .int .i64 b, .int .i64 c, .int .i64 d] t)).heap.size := by simp
  generalize w.alloc (.cells #[.int .i64 a, .int .i64 b, .int .i64 c, .int .i64 d] t) = W at *
  have c0 : W.cell? ⟨w.heap.size, 0, none⟩ = some (.int .i64 a) := by unfold World.cell?; rw [h]; rfl
  have c1 : W.cell? ⟨w.heap.size, 1, none⟩ = some (.int .i64 b) := by unfold World.cell?; rw [h]; rfl
  have c2 : W.cell? ⟨w.heap.size, 2, none⟩ = some (.int .i64 c) := by unfold World.cell?; rw [h]; rfl
  have c3 : W.cell? ⟨w.heap.size, 3, none⟩ = some (.int .i64 d) := by unfold World.cell?; rw [h]; rfl
  refine ⟨hz, fun i p hp => ?_⟩
  match i, hp with
  | 0, hp => simp at hp; subst hp; exact ⟨c0, c1⟩
  | 1, hp => simp at hp; subst hp; exact ⟨c2, c3⟩
theorem most_two (B : Nat) (w : World) (hR : RowAt [⟨1, 5⟩, ⟨2, 5⟩] ⟨B, 0, none⟩ w) :
    Calls Tryd.prog 23 #[.slice (some ⟨B, 0, none⟩) 2 2] w fun e w' => e = .returned (.tuple #[.agg #[.int .i64 2, .int .i64 5], .bool true]) ∧ Below w.heap.size w w' :=
  most_wrap w _ 2 5 true fun w0 b0 => outer_walk [⟨1, 5⟩, ⟨2, 5⟩] [⟨2, 5⟩] (by intro p hp; simp at hp; rcases hp with rfl | rfl <;> exact ⟨⟨by simp, by simp⟩, ⟨by simp, by simp⟩⟩) ⟨1, 5⟩ rfl rfl 1 ⟨B, 0, none⟩ 2 (by decide) (by decide) w0 (hR.old b0)

set_option maxRecDepth 100000 in
set_option maxHeartbeats 400000 in
theorem rulesRight (w : World) :
    Calls Tryd.prog 12 #[.agg #[.int .i64 10, .int .i64 1, .int .i64 1, .int .i64 5, .int .i64 0, .int .i64 1]] w fun e w' => e = .returned (.bool true) ∧ Below w.heap.size w w' := by
  go_enter Tryd.func12, Tryd.ntmps12
  go_wp2_with fail
  refine (right_10 _).mono ?_
  rintro e w1 ⟨rfl, b1⟩
  have Q1 : SixR w1 w.heap.size 35 := (show SixR _ w.heap.size 35 from World.alloc_heap_new w _).keep b1
  have B1 := hideC ((bel1 w _).trans (b1.mono (by simp)))
  clear b1
  have ⟨c0, c1, c2, c3, c4, c5⟩ := Q1.cells
  have Q1 := hideC Q1
  go_wp2_with fail
  refine (time_15 _).mono ?_
  rintro e w2 ⟨rfl, b2⟩
  have Q2 := Q1.out.keep b2
  have B2 := hideC (B1.out.trans (b2.mono B1.out.size))
  clear b2 B1 c0 c1 c2 c3 c4 c5
  have ⟨c0, c1, c2, c3, c4, c5⟩ := Q2.cells
  have Q2 := hideC Q2
  go_wp2_with fail
  refine (time_0 _).mono ?_
  rintro e w3 ⟨rfl, b3⟩
  have B3 := hideC (B2.out.trans (b3.mono B2.out.size))
  clear b3 B2 c0 c1 c2 c3 c4 c5
  go_wp2
  go_ret
  exact ⟨rfl, B3.out⟩

set_option maxRecDepth 100000 in
set_option maxHeartbeats 400000 in
theorem paceWants (s : ByteArray) (hs : s.size ≤ 4096) (hr : readN (signs s) = 4) (N : Nat) (w : World) (hT : Tabs N w) :
    Calls Tryd.prog 13 #[.agg #[.int .i64 10, .int .i64 1, .int .i64 1, .int .i64 5, .int .i64 0, .int .i64 1], .agg #[.string s, .slice none 0 0]] w fun e w' => e = .returned (.tuple #[.agg #[.int .i64 2, .int .i64 5], .int .i64 0]) ∧ Below w.heap.size w w' := by
  go_enter Tryd.func13, Tryd.ntmps13
  go_wp2_with fail
  have BB : Below w.heap.size w (((w.alloc (.cells #[.int .i64 10, .int .i64 1, .int .i64 1, .int .i64 5, .int .i64 0, .int .i64 1] 44)).alloc (.cells #[.string s, .slice none 0 0] 26)).alloc (.cells #[.int .i64 0, .int .i64 0] 29)) := ((bel1 w _).trans ((bel1 _ _).mono (by simp))).trans ((bel1 _ _).mono (by simp; omega))
  have P0 : SixR (((w.alloc (.cells #[.int .i64 10, .int .i64 1, .int .i64 1, .int .i64 5, .int .i64 0, .int .i64 1] 44)).alloc (.cells #[.string s, .slice none 0 0] 26)).alloc (.cells #[.int .i64 0, .int .i64 0] 29)) w.heap.size 44 := (((show SixR _ w.heap.size 44 from World.alloc_heap_new w _).keep (bel1 _ _))).keep (bel1 _ _)
  have X0 : TxtP (((w.alloc (.cells #[.int .i64 10, .int .i64 1, .int .i64 1, .int .i64 5, .int .i64 0, .int .i64 1] 44)).alloc (.cells #[.string s, .slice none 0 0] 26)).alloc (.cells #[.int .i64 0, .int .i64 0] 29)) (w.heap.size + 1) s := by
    have : TxtP ((w.alloc (.cells #[.int .i64 10, .int .i64 1, .int .i64 1, .int .i64 5, .int .i64 0, .int .i64 1] 44)).alloc (.cells #[.string s, .slice none 0 0] 26)) (w.heap.size + 1) s := by
      have := World.alloc_heap_new (w.alloc (.cells #[.int .i64 10, .int .i64 1, .int .i64 1, .int .i64 5, .int .i64 0, .int .i64 1] 44)) (.cells #[.string s, .slice none 0 0] 26)
      rwa [World.size_alloc] at this
    exact this.keep (bel1 _ _)
  have R0 : Two (((w.alloc (.cells #[.int .i64 10, .int .i64 1, .int .i64 1, .int .i64 5, .int .i64 0, .int .i64 1] 44)).alloc (.cells #[.string s, .slice none 0 0] 26)).alloc (.cells #[.int .i64 0, .int .i64 0] 29)) (w.heap.size + 1 + 1) (.int .i64 0) (.int .i64 0) := by
    have := Two.new ((w.alloc (.cells #[.int .i64 10, .int .i64 1, .int .i64 1, .int .i64 5, .int .i64 0, .int .i64 1] 44)).alloc (.cells #[.string s, .slice none 0 0] 26)) (.int .i64 0) (.int .i64 0) 29
    simpa only [World.size_alloc] using this
  have T0 := hT.below BB
  generalize (((w.alloc (.cells #[.int .i64 10, .int .i64 1, .int .i64 1, .int .i64 5, .int .i64 0, .int .i64 1] 44)).alloc (.cells #[.string s, .slice none 0 0] 26)).alloc (.cells #[.int .i64 0, .int .i64 0] 29)) = V at *
  have ⟨p0, p1, p2, p3, p4, p5⟩ := P0.cells
  have ⟨x0, x1⟩ := X0.cells
  have HH := hideC (And.intro (show PcW w s V from ⟨BB, P0, X0, R0⟩) T0)
  clear BB P0 X0 R0 T0 hT
  have z0 : w.heap.size + 1 + 1 < V.heap.size := HH.out.1.res.1
  go_cut [6, 7] (fun p e wx => ∃ r, p = .pointer (some ⟨r, 0, none⟩) ∧ e = .int .i64 0 ∧ PcW w s wx ∧ Two wx r (.int .i64 2) (.int .i64 5) ∧ w.heap.size + 1 + 1 < r)
  case first =>
    go_region_held3 (fun w' => (w'.cell? ⟨w.heap.size + 1, 0, none⟩ = some (.string s) ∧ w'.cell? ⟨w.heap.size + 1, 1, none⟩ = some (.slice none 0 0)) ∧ w'.cell? ⟨w.heap.size, 0, none⟩ = some (.int .i64 10) ∧ w'.cell? ⟨w.heap.size, 1, none⟩ = some (.int .i64 1)) (first | go_keep | assumption | exact ⟨⟨cell_two_set (by omega) (by first | assumption | (rw [cell_old_alloc (by simp; omega)]; assumption)), cell_two_set (by omega) (by first | assumption | (rw [cell_old_alloc (by simp; omega)]; assumption))⟩, cell_two_set (by omega) (by first | assumption | (rw [cell_old_alloc (by simp; omega)]; assumption)), cell_two_set (by omega) (by first | assumption | (rw [cell_old_alloc (by simp; omega)]; assumption))⟩) (first
      | (go_at_call 21; (with_reducible refine (div_4_10 _).mono ?_); rintro e w2 ⟨rfl, b2⟩; (first | (have F2 := hideC (F1.out.keep b2); have ⟨h0, h1, h2, h3⟩ := F2.out.cells; have K2 := hideC (K1.out.keep b2)) | (have F2 := hideC ((Two.new w1 (.int .i64 0) (.int .i64 0) 29).keep b2); have ⟨h0, h1, h2, h3⟩ := F2.out.cells; have b2 := bup (bel1 w1 _) b2; have K2 := hideC (K1.out.keep b2)) | (have K2 := hideC (K1.out.keep b2))); have ⟨⟨r0, r1, r2, r3⟩, ⟨x0, x1⟩⟩ := K2.out.facts; have zz2 : w.heap.size + 1 + 1 < w2.heap.size := K2.out.res.1)
      | (go_at_call 6; (with_reducible refine Calls.mono (scount_4 s hs hr N _ (by first | exact HH.out.2.below (Below.refl _ V).drew | exact HH.out.2.below (bup (Below.refl _ V).drew (bel1 V.drew _)) | exact HH.out.2.below (bel1 V _).drew)) ?_); rintro e w1 ⟨rfl, b1⟩; (first
          | (have b1 := Below.drew_of b1; have K1 := hideC (HH.out.1.keep b1))
          | (have F1 : Hid (Two w1 V.heap.size (.int .i64 0) (.int .i64 0)) := hideC ((Two.new V.drew (.int .i64 0) (.int .i64 0) 29).keep b1); have ⟨g0, g1, g2, g3⟩ := F1.out.cells; have b1 := bup (bup (Below.refl _ V).drew (bel1 V.drew _)) b1; have K1 := hideC (HH.out.1.keep b1))
          | (have F1 : Hid (Two w1 V.heap.size (.int .i64 0) (.int .i64 0)) := hideC ((Two.new V (.int .i64 0) (.int .i64 0) 29).drew.keep b1); have ⟨g0, g1, g2, g3⟩ := F1.out.cells; have b1 := bup (bel1 V _).drew b1; have K1 := hideC (HH.out.1.keep b1))); have ⟨⟨q0, q1, q2, q3⟩, ⟨y0, y1⟩⟩ := K1.out.facts; have zz1 : w.heap.size + 1 + 1 < w1.heap.size := K1.out.res.1))
    all_goals first | go_wp2_with fail | skip
    all_goals go_meet
    · exact ⟨_, rfl, rfl, K2.out.keep (bel1 _ _), Two.new w2 _ _ _, zz2⟩
    · exact ⟨_, rfl, rfl, K2.out.set (by omega), F2.out.set, zz1⟩
    · exact ⟨_, rfl, rfl, K2.out.set (by omega), F2.out.set, z0⟩
  case rest =>
    obtain ⟨r, rfl, rfl, K, F, hrr⟩ := hcut
    generalize wc = X at *
    have ⟨⟨q0, q1, q2, q3⟩, ⟨y0, y1⟩⟩ := K.facts
    have ⟨f0, f1, f2, f3⟩ := F.cells
    have KF := hideC (And.intro K F)
    clear K F HH p0 p1 p2 p3 p4 p5 x0 x1
    go_wp2_with fail
    refine (time_25 _).mono ?_
    rintro e w3 ⟨rfl, b3⟩
    have KF3 := hideC (And.intro (KF.out.1.keep b3) (KF.out.2.keep b3))
    clear b3 KF q0 q1 q2 q3 y0 y1 f0 f1 f2 f3
    go_wp2_with fail
    refine (or_zero _ _ (cell_two_newA _ _ _ _) (cell_two_newB _ _ _ _)).mono ?_
    rintro e w4 ⟨rfl, b4⟩
    have KF4 := hideC (And.intro (KF3.out.1.keep (bup (bel1 _ _) b4)) (KF3.out.2.keep (bup (bel1 _ _) b4)))
    clear b4 KF3
    have ⟨⟨q0, q1, q2, q3⟩, ⟨y0, y1⟩⟩ := KF4.out.1.facts
    have ⟨f0, f1, f2, f3⟩ := KF4.out.2.cells
    go_wp2_with fail
    refine (most_two _ _ (row_two_new _ _ _ _ _ _)).mono ?_
    rintro e w5 ⟨rfl, b5⟩
    have KF5 := hideC (KF4.out.1.keep (bup (bel1 _ _) b5))
    clear b5 KF4 q0 q1 q2 q3 y0 y1 f0 f1 f2 f3
    have ⟨e0, e1, e2, e3⟩ := KF5.out.res.cells
    have zz5 : w.heap.size + 1 + 1 < w5.heap.size := KF5.out.res.1
    go_wp2_with fail
    have ⟨t0, t1, _⟩ := ((KF5.out.res.set (x2 := .int .i64 2) (y2 := .int .i64 5)).alloc (.cells #[.int .i64 2, .int .i64 5] 29)).cells
    exact bodyPost_ret (v := .tuple #[.agg #[.int .i64 2, .int .i64 5], .int .i64 0]) (by simp [results, Tryd.results13, go_sem, t0, t1]) rfl ⟨rfl, bup ((KF5.out.below.setCell (by simp; omega) _).setCell (by simp; omega) _) (bel1 _ _)⟩

set_option maxRecDepth 100000 in
set_option maxHeartbeats 400000 in
theorem wants_plain (s : ByteArray) (hs : s.size ≤ 4096) (hr : readN (signs s) = 4) (N : Nat) (w : World) (hT : Tabs N w) :
    Calls Tryd.prog 7 #[.agg #[.string s, .slice none 0 0], .agg #[.int .i64 10, .int .i64 1, .int .i64 1, .int .i64 5, .int .i64 0, .int .i64 1]] w fun e w' => e = .returned (.tuple #[.agg #[.int .i64 2, .int .i64 5], .int .i64 0]) ∧ Below w.heap.size w w' := by
  go_enter Tryd.func7, Tryd.ntmps7
  go_wp2_with fail
  have BB : Below w.heap.size w (((w.alloc (.cells #[.string s, .slice none 0 0] 26)).alloc (.cells #[.int .i64 10, .int .i64 1, .int .i64 1, .int .i64 5, .int .i64 0, .int .i64 1] 35)).alloc (.cells #[.int .i64 0, .int .i64 0] 29)) := ((bel1 w _).trans ((bel1 _ _).mono (by simp))).trans ((bel1 _ _).mono (by simp; omega))
  have X0 : TxtP (((w.alloc (.cells #[.string s, .slice none 0 0] 26)).alloc (.cells #[.int .i64 10, .int .i64 1, .int .i64 1, .int .i64 5, .int .i64 0, .int .i64 1] 35)).alloc (.cells #[.int .i64 0, .int .i64 0] 29)) w.heap.size s := (((show TxtP _ w.heap.size s from World.alloc_heap_new w _).keep (bel1 _ _))).keep (bel1 _ _)
  have P0 : SixR (((w.alloc (.cells #[.string s, .slice none 0 0] 26)).alloc (.cells #[.int .i64 10, .int .i64 1, .int .i64 1, .int .i64 5, .int .i64 0, .int .i64 1] 35)).alloc (.cells #[.int .i64 0, .int .i64 0] 29)) (w.heap.size + 1) 35 := by
    have : SixR ((w.alloc (.cells #[.string s, .slice none 0 0] 26)).alloc (.cells #[.int .i64 10, .int .i64 1, .int .i64 1, .int .i64 5, .int .i64 0, .int .i64 1] 35)) (w.heap.size + 1) 35 := by
      have := World.alloc_heap_new (w.alloc (.cells #[.string s, .slice none 0 0] 26)) (.cells #[.int .i64 10, .int .i64 1, .int .i64 1, .int .i64 5, .int .i64 0, .int .i64 1] 35)
      rwa [World.size_alloc] at this
    exact this.keep (bel1 _ _)
  have R0 : Two (((w.alloc (.cells #[.string s, .slice none 0 0] 26)).alloc (.cells #[.int .i64 10, .int .i64 1, .int .i64 1, .int .i64 5, .int .i64 0, .int .i64 1] 35)).alloc (.cells #[.int .i64 0, .int .i64 0] 29)) (w.heap.size + 1 + 1) (.int .i64 0) (.int .i64 0) := by
    have := Two.new ((w.alloc (.cells #[.string s, .slice none 0 0] 26)).alloc (.cells #[.int .i64 10, .int .i64 1, .int .i64 1, .int .i64 5, .int .i64 0, .int .i64 1] 35)) (.int .i64 0) (.int .i64 0) 29
    simpa only [World.size_alloc] using this
  generalize (((w.alloc (.cells #[.string s, .slice none 0 0] 26)).alloc (.cells #[.int .i64 10, .int .i64 1, .int .i64 1, .int .i64 5, .int .i64 0, .int .i64 1] 35)).alloc (.cells #[.int .i64 0, .int .i64 0] 29)) = V at *
  have HH := hideC (And.intro BB (And.intro X0 (And.intro P0 R0)))
  clear BB X0 P0 R0
  refine (checkText_plain s hs _).mono ?_
  rintro e w1 ⟨rfl, b1⟩
  have H1 := hideC (And.intro (bup HH.out.1 b1) (And.intro (HH.out.2.1.keep b1) (And.intro (HH.out.2.2.1.keep b1) (HH.out.2.2.2.keep b1))))
  clear HH b1
  have ⟨x0, x1⟩ := H1.out.2.1.cells
  have ⟨p0, p1, p2, p3, p4, p5⟩ := H1.out.2.2.1.cells
  have ⟨r0, r1, r2, r3⟩ := H1.out.2.2.2.cells
  go_wp2_with fail
  refine (rulesRight _).mono ?_
  rintro e w2 ⟨rfl, b2⟩
  have H2 := hideC (And.intro (bup H1.out.1 b2) (And.intro (H1.out.2.1.keep b2) (And.intro (H1.out.2.2.1.keep b2) (H1.out.2.2.2.keep b2))))
  clear H1 b2 x0 x1 p0 p1 p2 p3 p4 p5 r0 r1 r2 r3
  have ⟨x0, x1⟩ := H2.out.2.1.cells
  have ⟨p0, p1, p2, p3, p4, p5⟩ := H2.out.2.2.1.cells
  have ⟨r0, r1, r2, r3⟩ := H2.out.2.2.2.cells
  go_wp2_with fail
  refine (paceWants s hs hr N _ (hT.below H2.out.1)).mono ?_
  rintro e w3 ⟨rfl, b3⟩
  have H3 := hideC (And.intro (bup H2.out.1 b3) (H2.out.2.2.2.keep b3))
  clear H2 b3 x0 x1 p0 p1 p2 p3 p4 p5 r0 r1 r2 r3
  have ⟨r0, r1, r2, r3⟩ := H3.out.2.cells
  go_wp2_with fail
  have ⟨t0, t1, _⟩ := (H3.out.2.set (x2 := .int .i64 2) (y2 := .int .i64 5)).cells
  exact bodyPost_ret (v := .tuple #[.agg #[.int .i64 2, .int .i64 5], .int .i64 0]) (by simp [results, Tryd.results7, go_sem, t0, t1]) rfl ⟨rfl, (H3.out.1.setCell (by simp; omega) _).setCell (by simp; omega) _⟩

set_option maxHeartbeats 400000 in
theorem whole11 (n : Int) (w : World) : Calls Tryd.prog 8 #[.int .i64 n] w fun e w' => e = .returned (.agg #[.int .i64 n, .int .i64 1]) ∧ Below w.heap.size w w' := by
  go_enter Tryd.func8, Tryd.ntmps8
  go_wp2
  exact bodyPost_ret (v := .agg #[.int .i64 n, .int .i64 1]) (by simp [results, Tryd.results8, go_sem]) rfl ⟨rfl, bel1 _ _⟩
end Go.Proofs.YtifkoffjmdpgkaaDoor
