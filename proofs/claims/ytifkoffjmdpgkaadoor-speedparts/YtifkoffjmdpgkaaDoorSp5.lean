/- The head of the statements on speed. -/
import Derived.Test.YtifkoffjmdpgkaaDoorSp4
namespace Go.Proofs.YtifkoffjmdpgkaaDoor
open Go.RowKit Go.Shelf

/-- The text of the head. -/
def kS : ByteArray := ⟨#[97, 32, 98, 204, 129, 228, 184, 173, 255]⟩
theorem kS_read : readN (signs kS) = 4 := by kernel_rfl
theorem TxtP.lt {w : World} {B : Nat} {s : ByteArray} (h : TxtP w B s) : B < w.heap.size := (Array.getElem?_eq_some_iff.1 h).1

/-- What lies in known(). -/
structure KnW (w : World) (s : ByteArray) (N : Nat) (W : World) : Prop where
  below : Below w.heap.size w W
  txt : TxtP W w.heap.size s
  tabs : Tabs N W
theorem KnW.keep {w W W' : World} {s : ByteArray} {N : Nat} (h : KnW w s N W) (b : Below W.heap.size W W') : KnW w s N W' := ⟨bup h.below b, h.txt.keep b, h.tabs.below b⟩
theorem KnW.set {w W : World} {s : ByteArray} {N r : Nat} {a b : Value} (h : KnW w s N W) (hr : w.heap.size < r) (hN : N ≤ w.heap.size) : KnW w s N ((W.setCell ⟨r, 0, none⟩ a).setCell ⟨r, 1, none⟩ b) :=
  ⟨(h.below.setCell (by simp; omega) _).setCell (by simp; omega) _, h.txt.set (by omega), h.tabs.but (((But.refl (fun k => k = r) W).setCell rfl _).setCell rfl _) (fun k hk => by omega)⟩

set_option maxRecDepth 100000 in
set_option maxHeartbeats 1000000 in
theorem known11 (N : Nat) (w : World) (hT : Tabs N w) :
    Calls Tryd.prog 5 #[] w fun e w' => e = .returned (.bool true) ∧ Below w.heap.size w w' := by
  have hks : kS.size ≤ 4096 := by decide
  have hkr := kS_read
  have hNw : N ≤ w.heap.size := hT.room
  go_enter Tryd.func5, Tryd.ntmps5
  go_wp2_with fail
  rw [show (⟨#[97, 32, 98, 204, 129, 228, 184, 173, 255]⟩ : ByteArray) = kS from rfl]
  have K0 : KnW w kS N (w.alloc (.cells #[.string kS, .slice none 0 0] 26)) := ⟨bel1 w _, World.alloc_heap_new w _, hT.below (bel1 w _)⟩
  generalize kS = s at *
  generalize w.alloc (.cells #[.string s, .slice none 0 0] 26) = V at *
  have z0 : w.heap.size < V.heap.size := K0.txt.lt
  have ⟨y0a, y0b⟩ := K0.txt.cells
  have K0 := hideC K0
  go_cut [2, 3] (fun p e wx => ∃ r, p = .pointer (some ⟨r, 0, none⟩) ∧ e = .int .i64 0 ∧ KnW w s N wx ∧ Two wx r (.int .i64 2) (.int .i64 5))
  case first =>
    go_region_held3 (fun w' => w'.cell? ⟨w.heap.size, 0, none⟩ = some (.string s) ∧ w'.cell? ⟨w.heap.size, 1, none⟩ = some (.slice none 0 0)) (first | go_keep | assumption | exact ⟨cell_two_set (by omega) (by first | assumption | (rw [cell_old_alloc (by simp; omega)]; assumption)), cell_two_set (by omega) (by first | assumption | (rw [cell_old_alloc (by simp; omega)]; assumption))⟩) (first
      | (go_at_call 7; (with_reducible refine Calls.mono (wants_plain s hks hkr N _ (by first | exact (KnW.keep K2.out (Below.refl _ _)).tabs | exact (KnW.keep K2.out (bel1 _ _)).tabs)) ?_); rintro e w3 ⟨rfl, b3⟩; (first | (have F3 := hideC (F2.out.keep b3); have ⟨h3a, h3b, h3c, h3d⟩ := F3.out.cells; have K3 := hideC (KnW.keep K2.out b3)) | (have F3 : Hid (Two w3 w2.heap.size (.int .i64 0) (.int .i64 0)) := hideC ((Two.new w2 (.int .i64 0) (.int .i64 0) 29).keep b3); have ⟨h3a, h3b, h3c, h3d⟩ := F3.out.cells; have b3 := bup (bel1 w2 _) b3; have K3 := hideC (KnW.keep K2.out b3)) | (have K3 := hideC (KnW.keep K2.out b3))); have ⟨y3a, y3b⟩ := K3.out.txt.cells; have zz3 : w.heap.size < w3.heap.size := K3.out.txt.lt)
      | (go_at_call 8; (with_reducible refine Calls.mono (whole11 0 _) ?_); rintro e w2 ⟨rfl, b2⟩; (first | (have F2 := hideC (F1.out.keep b2); have ⟨h2a, h2b, h2c, h2d⟩ := F2.out.cells; have K2 := hideC (KnW.keep K1.out b2)) | (have F2 : Hid (Two w2 w1.heap.size (.int .i64 0) (.int .i64 0)) := hideC ((Two.new w1 (.int .i64 0) (.int .i64 0) 29).keep b2); have ⟨h2a, h2b, h2c, h2d⟩ := F2.out.cells; have b2 := bup (bel1 w1 _) b2; have K2 := hideC (KnW.keep K1.out b2)) | (have K2 := hideC (KnW.keep K1.out b2))); have ⟨y2a, y2b⟩ := K2.out.txt.cells; have zz2 : w.heap.size < w2.heap.size := K2.out.txt.lt)
      | (go_at_call 8; (with_reducible refine Calls.mono (whole11 10 _) ?_); rintro e w1 ⟨rfl, b1⟩; (first | (have b1 := Below.drew_of b1; have K1 := hideC (KnW.keep K0.out b1)) | (have F1 : Hid (Two w1 V.heap.size (.int .i64 0) (.int .i64 0)) := hideC ((Two.new V.drew (.int .i64 0) (.int .i64 0) 29).keep b1); have ⟨g0, g1, g2, g3⟩ := F1.out.cells; have b1 := bup (bup (Below.refl _ V).drew (bel1 V.drew _)) b1; have K1 := hideC (KnW.keep K0.out b1)) | (have F1 : Hid (Two w1 V.heap.size (.int .i64 0) (.int .i64 0)) := hideC ((Two.new V (.int .i64 0) (.int .i64 0) 29).drew.keep b1); have ⟨g0, g1, g2, g3⟩ := F1.out.cells; have b1 := bup (bel1 V _).drew b1; have K1 := hideC (KnW.keep K0.out b1))); have ⟨y1a, y1b⟩ := K1.out.txt.cells; have zz1 : w.heap.size < w1.heap.size := K1.out.txt.lt))
    all_goals first | go_wp2_with fail | skip
    all_goals go_meet
    · exact ⟨_, rfl, rfl, K3.out.keep (bel1 _ _), Two.new w3 _ _ _⟩
    all_goals exact ⟨_, rfl, rfl, K3.out.set (by omega) hNw, F3.out.set⟩
  case rest =>
    obtain ⟨r, rfl, rfl, K, F⟩ := hcut
    generalize wc = X at *
    have ⟨y0, y1⟩ := K.txt.cells
    have ⟨f0, f1, f2, f3⟩ := F.cells
    have KF := hideC (And.intro K F)
    clear K F K0 y0a y0b
    go_wp2_with fail
    refine (scount_4 s hks hkr N _ KF.out.1.tabs).mono ?_
    rintro e w1 ⟨rfl, b1⟩
    have H1 := hideC (KF.out.1.keep b1)
    have ⟨g0, g1, g2, g3⟩ := (KF.out.2.keep b1).cells
    clear b1 KF y0 y1 f0 f1 f2 f3
    go_wp2
    go_ret
    exact ⟨rfl, H1.out.below⟩

set_option maxRecDepth 100000 in
set_option maxHeartbeats 400000 in
theorem names11_walk (N : Nat) (w : World) (hT : Tabs N w) :
    Calls Tryd.prog 3 #[] w fun e w' => e = .returned (.bool true) ∧ Below w.heap.size w w' := by
  go_enter Tryd.func3, Tryd.ntmps3
  go_wp2_with (go_at_call 5; refine (known11 N _ hT).mono ?_; rintro e w1 ⟨rfl, b1⟩)
  go_ret
  exact ⟨rfl, b1⟩

end Go.Proofs.YtifkoffjmdpgkaaDoor
