/- cue.Check at every cue, what its parts' checks tell given. -/
import Derived.Test.YtpbedjabbehhgaaSp3
import Derived.Deep.RegionHeld3
namespace Go.Proofs.Ytpbedjabbehhgaa
open Go.RowKit Go.Shelf

/-- A cue in a block of its own. -/
def CueC (w : World) (B : Nat) (a b c d la sd : Int) (nm s : ByteArray) (v : Value) : Prop := w.heap[B]? = some (.cells #[.int .i64 a, .int .i64 b, .int .i64 c, .int .i64 d, .int .i64 la, .int .i64 sd, .string nm, .string s, v] 33)
theorem CueC.cells {w : World} {B : Nat} {a b c d la sd : Int} {nm s : ByteArray} {v : Value} (h : CueC w B a b c d la sd nm s v) :
    (w.cell? ⟨B, 0, none⟩ = some (.int .i64 a) ∧ w.cell? ⟨B, 1, none⟩ = some (.int .i64 b) ∧ w.cell? ⟨B, 2, none⟩ = some (.int .i64 c) ∧ w.cell? ⟨B, 3, none⟩ = some (.int .i64 d)) ∧
    (w.cell? ⟨B, 4, none⟩ = some (.int .i64 la) ∧ w.cell? ⟨B, 5, none⟩ = some (.int .i64 sd)) ∧ (w.cell? ⟨B, 6, none⟩ = some (.string nm) ∧ w.cell? ⟨B, 7, none⟩ = some (.string s) ∧ w.cell? ⟨B, 8, none⟩ = some v) := by
  simp [World.cell?, show w.heap[B]? = _ from h]
theorem CueC.keep {w w' : World} {B : Nat} {a b c d la sd : Int} {nm s : ByteArray} {v : Value} (h : CueC w B a b c d la sd nm s v) (bb : Below w.heap.size w w') : CueC w' B a b c d la sd nm s v := (bb.block B (Array.getElem?_eq_some_iff.1 h).1).trans h

/-- What cue.Check tells. -/
def chkC (e12 cc la sd e34 : Int) : Int := if ¬ e12 = 0 then e12 else if 0 ≤ cc then 32 else if la < 0 ∨ 8 ≤ la ∨ (¬ sd = 0 ∧ ¬ sd = 1) then 34 else e34

set_option maxRecDepth 100000 in
set_option maxHeartbeats 1000000 in
theorem cuecheck_walk (a b c d la sd : Int) (nm s : ByteArray) (v : Value) (e1 e2 e12 cc en et e34 : Int) (h12 : (if e1 = 0 then e2 else e1) = e12) (h34 : (if en = 0 then et else en) = e34) (w : World)
    (H1 : ∀ W, Calls Try.prog 22 #[.agg #[.int .i64 a, .int .i64 b]] W fun e w' => e = .returned (.int .i64 e1) ∧ Below W.heap.size W w')
    (H2 : ∀ W, Calls Try.prog 22 #[.agg #[.int .i64 c, .int .i64 d]] W fun e w' => e = .returned (.int .i64 e2) ∧ Below W.heap.size W w')
    (H3 : ∀ W, Calls Try.prog 23 #[.agg #[.int .i64 a, .int .i64 b], .agg #[.int .i64 c, .int .i64 d]] W fun e w' => e = .returned (.int .i64 cc) ∧ Below W.heap.size W w')
    (H4 : ∀ W, Calls Try.prog 24 #[.string nm] W fun e w' => e = .returned (.int .i64 en) ∧ Below W.heap.size W w')
    (H5 : ∀ W, Below w.heap.size w W → Calls Try.prog 25 #[.agg #[.string s, v]] W fun e w' => e = .returned (.int .i64 et) ∧ Below W.heap.size W w') :
    Calls Try.prog 16 #[.agg #[.int .i64 a, .int .i64 b, .int .i64 c, .int .i64 d, .int .i64 la, .int .i64 sd, .string nm, .string s, v]] w fun e w' => e = .returned (.int .i64 (chkC e12 cc la sd e34)) ∧ Below w.heap.size w w' := by
  obtain ⟨R, hR⟩ : ∃ R, chkC e12 cc la sd e34 = R := ⟨_, rfl⟩
  rw [hR]
  have HR := hideC hR
  have HO : ∀ B W, World.cell? W ⟨B, 0, none⟩ = some (.int .i64 e1) → World.cell? W ⟨B, 1, none⟩ = some (.int .i64 e2) → Calls Try.prog 21 #[.slice (some ⟨B, 0, none⟩) 2 2] W fun e w' => e = .returned (.int .i64 e12) ∧ Below W.heap.size W w' := fun B W g0 g1 => by
    have := or_two e1 e2 B W g0 g1
    rw [h12] at this
    exact this
  have HP : ∀ B W, World.cell? W ⟨B, 0, none⟩ = some (.int .i64 en) → World.cell? W ⟨B, 1, none⟩ = some (.int .i64 et) → Calls Try.prog 21 #[.slice (some ⟨B, 0, none⟩) 2 2] W fun e w' => e = .returned (.int .i64 e34) ∧ Below W.heap.size W w' := fun B W g0 g1 => by
    have := or_two en et B W g0 g1
    rw [h34] at this
    exact this
  clear hR h12 h34
  replace HO := hideC HO
  replace HP := hideC HP
  replace H1 := hideC H1
  replace H2 := hideC H2
  replace H3 := hideC H3
  replace H4 := hideC H4
  replace H5 := hideC H5
  go_enter Try.func16, Try.ntmps16
  go_wp2_with fail
  have Q0 : CueC (w.alloc (.cells #[.int .i64 a, .int .i64 b, .int .i64 c, .int .i64 d, .int .i64 la, .int .i64 sd, .string nm, .string s, v] 33)) w.heap.size a b c d la sd nm s v := World.alloc_heap_new w _
  have B0 : Below w.heap.size w (w.alloc (.cells #[.int .i64 a, .int .i64 b, .int .i64 c, .int .i64 d, .int .i64 la, .int .i64 sd, .string nm, .string s, v] 33)) := (Below.refl _ w).alloc (Nat.le_refl _) _
  generalize w.alloc (.cells #[.int .i64 a, .int .i64 b, .int .i64 c, .int .i64 d, .int .i64 la, .int .i64 sd, .string nm, .string s, v] 33) = V at *
  have B0 := hideC B0
  have ⟨⟨c0, c1, c2, c3⟩, ⟨c4, c5⟩, ⟨c6, c7, c8⟩⟩ := Q0.cells
  have Q0 := hideC Q0
  go_region_held3 (fun w' => w'.cell? ⟨w.heap.size, 0, none⟩ = some (.int .i64 a) ∧ w'.cell? ⟨w.heap.size, 1, none⟩ = some (.int .i64 b) ∧ w'.cell? ⟨w.heap.size, 2, none⟩ = some (.int .i64 c) ∧ w'.cell? ⟨w.heap.size, 3, none⟩ = some (.int .i64 d)) (first | go_keep | assumption) (first
    | (go_at_call 22; (with_reducible refine (H1.out V.drew).mono ?_); rintro e w1 ⟨rfl, b1⟩; have Q1 := hideC (Q0.out.keep (Below.drew_of b1)); have ⟨⟨d0, d1, d2, d3⟩, _⟩ := Q1.out.cells)
    | (go_at_call 22; (with_reducible refine (H2.out _).mono ?_); rintro e w2 ⟨rfl, b2⟩; have Q2 := hideC (Q1.out.keep b2); have ⟨⟨e0, e1', e2', e3⟩, _⟩ := Q2.out.cells)
    | (go_at_call 21; (with_reducible refine (HO.out _ _ (cell_two_newA _ _ _ _) (cell_two_newB _ _ _ _)).mono ?_); rintro e w3 ⟨rfl, b3⟩; have Q3 := hideC ((Q2.out.keep (bel1 _ _)).keep b3); have ⟨⟨f0, f1, f2, f3⟩, _⟩ := Q3.out.cells))
  have B3 := hideC (((B0.out.trans ((Below.drew_of b1).mono (by have := B0.out.size; omega))).trans (b2.mono (Nat.le_trans B0.out.size (Below.drew_of b1).size))).trans ((bel1 _ _).trans (b3.mono (by simp))|>.mono (Nat.le_trans (Nat.le_trans B0.out.size (Below.drew_of b1).size) b2.size)))
  clear b1 b2 b3 Q0 Q1 Q2 B0 c0 c1 c2 c3 c4 c5 c6 c7 c8 d0 d1 d2 d3 e0 e1' e2' e3 f0 f1 f2 f3 H1 H2 HO
  by_cases g1 : e12 = 0
  · subst g1
    obtain ⟨⟨c0, c1, c2, c3⟩, ⟨c4, c5⟩, ⟨c6, c7, c8⟩⟩ := Q3.out.cells
    go_wp2_with fail
    refine (H3.out _).mono ?_
    rintro e w4 ⟨rfl, b4⟩
    have Q4 := hideC (Q3.out.keep b4)
    have B4 := hideC (B3.out.trans (b4.mono B3.out.size))
    clear b4 Q3 B3 c0 c1 c2 c3 c4 c5 c6 c7 c8 H3
    obtain ⟨⟨c0, c1, c2, c3⟩, ⟨c4, c5⟩, ⟨c6, c7, c8⟩⟩ := Q4.out.cells
    by_cases g2 : 0 ≤ cc
    · have hr : R = 32 := by have := HR.out; unfold chkC at this; rw [if_neg (by simp), if_pos g2] at this; exact this.symm
      go_wp2_with fail
      go_ret
      exact ⟨(by rw [hr]; first | done | rfl), B4.out⟩
    have hr := HR.out
    unfold chkC at hr
    rw [if_neg (by simp), if_neg g2] at hr
    by_cases g3 : la < 0
    · rw [if_pos (.inl g3)] at hr
      have HQ := hideC hr.symm
      clear hr HR
      go_wp2_with fail
      go_ret
      exact ⟨(by rw [HQ.out]; first | done | rfl), B4.out⟩
    by_cases g4 : 8 ≤ la
    · rw [if_pos (.inr (.inl g4))] at hr
      have HQ := hideC hr.symm
      clear hr HR
      go_wp2_with fail
      go_ret
      exact ⟨(by rw [HQ.out]; first | done | rfl), B4.out⟩
    by_cases g5 : ¬ sd = 0 ∧ ¬ sd = 1
    · rw [if_pos (.inr (.inr g5))] at hr
      have HQ := hideC hr.symm
      have g6 : (sd != 0) = true := by simpa using g5.1
      have g7 : (sd != 1) = true := by simpa using g5.2
      obtain ⟨g8, g9⟩ := g5
      clear hr HR
      go_wp2_with fail
      go_ret
      exact ⟨(by rw [HQ.out]; first | done | rfl), B4.out⟩
    rw [if_neg (by rintro (h | h | h) <;> contradiction)] at hr
    have HQ := hideC hr.symm
    clear hr HR
    rcases (show sd = 0 ∨ sd = 1 by by_cases h : sd = 0 <;> by_cases k : sd = 1 <;> simp_all) with rfl | rfl
    all_goals
      clear g5
      go_wp2_with fail
      go_region_held3 (fun w' => w'.cell? ⟨w.heap.size, 6, none⟩ = some (.string nm) ∧ w'.cell? ⟨w.heap.size, 7, none⟩ = some (.string s) ∧ w'.cell? ⟨w.heap.size, 8, none⟩ = some v) (first | go_keep | assumption) (first
        | (go_at_call 24; (with_reducible refine (H4.out _).mono ?_); rintro e w5 ⟨rfl, b5⟩; have Q5 := hideC (Q4.out.keep (Below.drew_of b5)); have ⟨_, _, ⟨d6, d7, d8⟩⟩ := Q5.out.cells; have B5 := hideC (B4.out.trans ((Below.drew_of b5).mono B4.out.size)))
        | (go_at_call 25; (with_reducible refine (H5.out _ B5.out).mono ?_); rintro e w6 ⟨rfl, b6⟩; have Q6 := hideC (Q5.out.keep b6); have ⟨_, _, ⟨e6, e7, e8⟩⟩ := Q6.out.cells)
        | (go_at_call 21; (with_reducible refine (HP.out _ _ (cell_two_newA _ _ _ _) (cell_two_newB _ _ _ _)).mono ?_); rintro e w7 ⟨rfl, b7⟩; have Q7 := hideC ((Q6.out.keep (bel1 _ _)).keep b7); have ⟨_, _, ⟨f6, f7, f8⟩⟩ := Q7.out.cells))
      have B7 := hideC (((B4.out.trans ((Below.drew_of b5).mono B4.out.size)).trans (b6.mono (Nat.le_trans B4.out.size (Below.drew_of b5).size))).trans ((bel1 _ _).trans (b7.mono (by simp))|>.mono (Nat.le_trans (Nat.le_trans B4.out.size (Below.drew_of b5).size) b6.size)))
      clear b5 b6 b7 Q4 Q5 Q6 B4 c0 c1 c2 c3 c4 c5 c6 c7 c8 d6 d7 d8 e6 e7 e8 f6 f7 f8
      go_wp2
      go_ret
      exact ⟨(by rw [HQ.out]; first | done | rfl), B7.out⟩
  · have hr : R = e12 := by have := HR.out; unfold chkC at this; rw [if_pos g1] at this; exact this.symm
    have g6 : (e12 != 0) = true := by simpa using g1
    have HQ := hideC hr
    clear hr HR
    go_wp2_with fail
    go_ret
    exact ⟨(by rw [HQ.out]; first | done | rfl), B3.out⟩

end Go.Proofs.Ytpbedjabbehhgaa
