/- Walks of surtitleref3.Snap where it is refused. -/
import Derived.Test.YtmofjkfghidlnaaDoorRefB2
import Derived.Deep.RegionHeld3
namespace Go.Proofs.YtmofjkfghidlnaaDoor
open Go.RowKit Go.Shelf
attribute [local go_sem] Oper.semAt_some

theorem Three.put1 {B S i : Nat} {an ad bn bd cn cd : Int} {v : Value} {V : World} (h : Three B an ad bn bd cn cd V) (n0 : S ≠ B) (n1 : S ≠ B + 1) (n2 : S ≠ B + 1 + 1) : Three B an ad bn bd cn cd (V.setCell ⟨S, i, none⟩ v) := ⟨h.1.put1 n0, h.2.1.put1 n1, h.2.2.put1 n2⟩
theorem three_c {B : Nat} {an ad bn bd cn cd : Int} {V : World} (h : Three B an ad bn bd cn cd V) : V.cell? ⟨B, 0, none⟩ = some (.int .i64 an) ∧ V.cell? ⟨B, 1, none⟩ = some (.int .i64 ad) ∧ V.cell? ⟨B + 1, 0, none⟩ = some (.int .i64 bn) ∧ V.cell? ⟨B + 1, 1, none⟩ = some (.int .i64 bd) := ⟨h.1.2.1, h.1.2.2.1, h.2.1.2.1, h.2.1.2.2.1⟩
theorem c5 {V : World} {A B : Nat} {a0 a1 : Value} {n : Bool} {h l : Int} (x : Two V A a0 a1) (t : Tri V B n h l) : V.cell? ⟨A, 0, none⟩ = some a0 ∧ V.cell? ⟨A, 1, none⟩ = some a1 ∧ V.cell? ⟨B, 0, none⟩ = some (.bool n) ∧ V.cell? ⟨B, 1, none⟩ = some (.int .u64 h) ∧ V.cell? ⟨B, 2, none⟩ = some (.int .u64 l) := ⟨x.2.1, x.2.2.1, t.2.1, t.2.2.1, t.2.2.2.1⟩

set_option maxRecDepth 100000 in
set_option maxHeartbeats 1000000 in
theorem rsnap_not (an ad bn bd how : Int)
    (HB : ∀ w, Calls Tryd.prog 69 #[.agg #[.int .i64 an, .int .i64 ad], .agg #[.int .i64 bn, .int .i64 bd]] w fun e w' => e = .returned (.bool false) ∧ Below w.heap.size w w') (w : World) :
    Calls Tryd.prog 44 #[.agg #[.int .i64 an, .int .i64 ad], .agg #[.int .i64 bn, .int .i64 bd], .int .i64 how] w fun e w' => e = .returned (.tuple #[.agg #[.int .i64 0, .int .i64 0], .int .i64 12]) ∧ Below w.heap.size w w' := by
  have HB := hideR HB
  go_enter Tryd.func44, Tryd.ntmps44
  go_wp2_with fail
  go_at_call 69
  refine Calls.mono (HB.out _) ?_
  rintro e V ⟨rfl, b1⟩
  have S0 := (Three.new w an ad bn bd 0 0 26).keep b1
  have B0 := bup (bel3 w _ _ _) b1
  clear b1
  have z0 : w.heap.size + 1 + 1 < V.heap.size := S0.2.2.1
  obtain ⟨⟨_, a0, a1, _, _⟩, ⟨_, p0, p1, _, _⟩, ⟨_, c0, c1, cf0, cf1⟩⟩ := id S0
  go_wp2_with fail
  exact bodyPost_ret (v := .tuple #[.agg #[.int .i64 0, .int .i64 0], .int .i64 12]) (by simp [results, Tryd.results44, go_sem, c0, c1]) rfl ⟨rfl, (B0.setCell (by simp; omega) _).setCell (by simp; omega) _⟩

set_option maxRecDepth 100000 in
set_option maxHeartbeats 1000000 in
theorem rsnap_zero (an ad bn bd how : Int) (h0 : bn ≤ 0)
    (HB : ∀ w, Calls Tryd.prog 69 #[.agg #[.int .i64 an, .int .i64 ad], .agg #[.int .i64 bn, .int .i64 bd]] w fun e w' => e = .returned (.bool true) ∧ Below w.heap.size w w') (w : World) :
    Calls Tryd.prog 44 #[.agg #[.int .i64 an, .int .i64 ad], .agg #[.int .i64 bn, .int .i64 bd], .int .i64 how] w fun e w' => e = .returned (.tuple #[.agg #[.int .i64 0, .int .i64 0], .int .i64 11]) ∧ Below w.heap.size w w' := by
  have HB := hideR HB
  go_enter Tryd.func44, Tryd.ntmps44
  go_wp2_with fail
  go_at_call 69
  refine Calls.mono (HB.out _) ?_
  rintro e V ⟨rfl, b1⟩
  have S0 := (Three.new w an ad bn bd 0 0 26).keep b1
  have B0 := bup (bel3 w _ _ _) b1
  clear b1
  have z0 : w.heap.size + 1 + 1 < V.heap.size := S0.2.2.1
  obtain ⟨⟨_, a0, a1, _, _⟩, ⟨_, p0, p1, _, _⟩, ⟨_, c0, c1, cf0, cf1⟩⟩ := id S0
  go_wp2_with fail
  exact bodyPost_ret (v := .tuple #[.agg #[.int .i64 0, .int .i64 0], .int .i64 11]) (by simp [results, Tryd.results44, go_sem, c0, c1]) rfl ⟨rfl, (B0.setCell (by simp; omega) _).setCell (by simp; omega) _⟩

set_option maxRecDepth 100000 in
set_option maxHeartbeats 1000000 in
theorem rsnap_arg (an ad bn bd how : Int) (h0 : ¬ bn ≤ 0) (hh : how < 1 ∨ (¬ how < 1 ∧ 3 < how))
    (HB : ∀ w, Calls Tryd.prog 69 #[.agg #[.int .i64 an, .int .i64 ad], .agg #[.int .i64 bn, .int .i64 bd]] w fun e w' => e = .returned (.bool true) ∧ Below w.heap.size w w') (w : World) :
    Calls Tryd.prog 44 #[.agg #[.int .i64 an, .int .i64 ad], .agg #[.int .i64 bn, .int .i64 bd], .int .i64 how] w fun e w' => e = .returned (.tuple #[.agg #[.int .i64 0, .int .i64 0], .int .i64 1]) ∧ Below w.heap.size w w' := by
  have HB := hideR HB
  rcases hh with hh | ⟨h1, hh⟩
  · go_enter Tryd.func44, Tryd.ntmps44
    go_wp2_with fail
    go_at_call 69
    refine Calls.mono (HB.out _) ?_
    rintro e V ⟨rfl, b1⟩
    have S0 := (Three.new w an ad bn bd 0 0 26).keep b1
    have B0 := bup (bel3 w _ _ _) b1
    clear b1
    have z0 : w.heap.size + 1 + 1 < V.heap.size := S0.2.2.1
    obtain ⟨⟨_, a0, a1, _, _⟩, ⟨_, p0, p1, _, _⟩, ⟨_, c0, c1, cf0, cf1⟩⟩ := id S0
    go_wp2_with fail
    exact bodyPost_ret (v := .tuple #[.agg #[.int .i64 0, .int .i64 0], .int .i64 1]) (by simp [results, Tryd.results44, go_sem, c0, c1]) rfl ⟨rfl, (B0.setCell (by simp; omega) _).setCell (by simp; omega) _⟩
  · go_enter Tryd.func44, Tryd.ntmps44
    go_wp2_with fail
    go_at_call 69
    refine Calls.mono (HB.out _) ?_
    rintro e V ⟨rfl, b1⟩
    have S0 := (Three.new w an ad bn bd 0 0 26).keep b1
    have B0 := bup (bel3 w _ _ _) b1
    clear b1
    have z0 : w.heap.size + 1 + 1 < V.heap.size := S0.2.2.1
    obtain ⟨⟨_, a0, a1, _, _⟩, ⟨_, p0, p1, _, _⟩, ⟨_, c0, c1, cf0, cf1⟩⟩ := id S0
    go_wp2_with fail
    exact bodyPost_ret (v := .tuple #[.agg #[.int .i64 0, .int .i64 0], .int .i64 1]) (by simp [results, Tryd.results44, go_sem, c0, c1]) rfl ⟨rfl, (B0.setCell (by simp; omega) _).setCell (by simp; omega) _⟩
end Go.Proofs.YtmofjkfghidlnaaDoor
