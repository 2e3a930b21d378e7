/- Contracts of surtitleref3: Plus, Less. -/
import Derived.Test.YthhhglfcacoejabDoorRefA2
namespace Go.Proofs.YthhhglfcacoejabDoor
open Go.RowKit Go.Shelf
attribute [local go_sem] Oper.semAt_some

/-- The three blocks of Plus. -/
def Tri3 (B : Nat) (na nb : Bool) (ah al bh bl : Int) (V : World) : Prop := Tri V B na ah al ∧ Tri V (B + 1) nb bh bl ∧ Tri V (B + 1 + 1) false 0 0
theorem Tri3.keep {B : Nat} {na nb : Bool} {ah al bh bl : Int} {V V2 : World} (h : Tri3 B na nb ah al bh bl V) (b : Below V.heap.size V V2) : Tri3 B na nb ah al bh bl V2 := ⟨h.1.keep b, h.2.1.keep b, h.2.2.keep b⟩
theorem tri3_new (na nb : Bool) (ah al bh bl : Int) (w : World) : Tri3 w.heap.size na nb ah al bh bl (((w.alloc (.cells #[.bool na, .int .u64 ah, .int .u64 al] 65)).alloc (.cells #[.bool nb, .int .u64 bh, .int .u64 bl] 65)).alloc (.cells #[.bool false, .int .u64 0, .int .u64 0] 65)) := by
  have t1 := ((Tri.new w na ah al 65).alloc (.cells #[.bool nb, .int .u64 bh, .int .u64 bl] 65)).alloc (.cells #[.bool false, .int .u64 0, .int .u64 0] 65)
  have t2 := (Tri.new (w.alloc (.cells #[.bool na, .int .u64 ah, .int .u64 al] 65)) nb bh bl 65).alloc (.cells #[.bool false, .int .u64 0, .int .u64 0] 65)
  have t3 := Tri.new ((w.alloc (.cells #[.bool na, .int .u64 ah, .int .u64 al] 65)).alloc (.cells #[.bool nb, .int .u64 bh, .int .u64 bl] 65)) false 0 0 65
  exact ⟨t1, t2.at (by simp), t3.at (by simp)⟩

theorem above_dec (x y : Int) (hx : 0 ≤ x ∧ x < 340282366920938463463374607431768211456) (hy : 0 ≤ y ∧ y < 340282366920938463463374607431768211456) : decide (hiZ y < hiZ x ∨ (hiZ x = hiZ y ∧ loZ y < loZ x)) = decide (y < x) :=
  decide_eq_decide.2 (by unfold hiZ loZ; omega)
theorem above_i (na nb : Bool) (x y : Int) (hx : 0 ≤ x ∧ x < 340282366920938463463374607431768211456) (hy : 0 ≤ y ∧ y < 340282366920938463463374607431768211456) (w : World) :
    Calls Tryd.prog 30 #[.agg #[.bool na, .int .u64 (hiZ x), .int .u64 (loZ x)], .agg #[.bool nb, .int .u64 (hiZ y), .int .u64 (loZ y)]] w fun e w' => e = .returned (.bool (decide (y < x))) ∧ Below w.heap.size w w' := by
  rw [← above_dec x y hx hy]
  exact rabove_any _ _ _ _ _ _ _
theorem sz_nonneg (a : Int) : 0 ≤ sz a := by unfold sz; omega
set_option maxRecDepth 100000 in
set_option maxHeartbeats 1000000 in
theorem rless_walk (na nb x y : Bool) (ah al bh bl : Int)
    (HA : ∀ w, Calls Tryd.prog 30 #[.agg #[.bool na, .int .u64 ah, .int .u64 al], .agg #[.bool nb, .int .u64 bh, .int .u64 bl]] w fun e w' => e = .returned (.bool x) ∧ Below w.heap.size w w')
    (HB : ∀ w, Calls Tryd.prog 30 #[.agg #[.bool nb, .int .u64 bh, .int .u64 bl], .agg #[.bool na, .int .u64 ah, .int .u64 al]] w fun e w' => e = .returned (.bool y) ∧ Below w.heap.size w w') (w : World) :
    Calls Tryd.prog 20 #[.agg #[.bool na, .int .u64 ah, .int .u64 al], .agg #[.bool nb, .int .u64 bh, .int .u64 bl]] w fun e w' => e = .returned (.bool (if na = nb then (if na = true then x else y) else na)) ∧ Below w.heap.size w w' := by
  have HA := hideR HA
  have HB := hideR HB
  cases na <;> cases nb
  all_goals (
    go_enter Tryd.func20, Tryd.ntmps20
    go_wp2_with fail)
  · go_at_call 30
    refine Calls.mono (HB.out _) ?_
    rintro e w1 ⟨rfl, b1⟩
    go_wp2_with fail
    go_ret
    exact ⟨rfl, bup (bel2 w _ _) b1⟩
  · go_ret
    exact ⟨rfl, bel2 w _ _⟩
  · go_ret
    exact ⟨rfl, bel2 w _ _⟩
  · go_at_call 30
    refine Calls.mono (HA.out _) ?_
    rintro e w1 ⟨rfl, b1⟩
    go_wp2_with fail
    go_ret
    exact ⟨rfl, bup (bel2 w _ _) b1⟩
theorem rless_any (a b : Int) (ha : sz a < 340282366920938463463374607431768211456) (hb : sz b < 340282366920938463463374607431768211456) (w : World) :
    Calls Tryd.prog 20 #[nv a, nv b] w fun e w' => e = .returned (.bool (decide (a < b))) ∧ Below w.heap.size w w' := by
  have na := sz_nonneg a
  have nb := sz_nonneg b
  have := rless_walk (decide (a < 0)) (decide (b < 0)) _ _ (hiZ (sz a)) (loZ (sz a)) (hiZ (sz b)) (loZ (sz b)) (above_i _ _ (sz a) (sz b) ⟨na, ha⟩ ⟨nb, hb⟩) (above_i _ _ (sz b) (sz a) ⟨nb, hb⟩ ⟨na, ha⟩) w
  have e : (if decide (a < 0) = decide (b < 0) then (if decide (a < 0) = true then decide (sz b < sz a) else decide (sz a < sz b)) else decide (a < 0)) = decide (a < b) := by
    unfold sz
    by_cases h1 : a < 0 <;> by_cases h2 : b < 0 <;> simp only [h1, h2, decide_true, decide_false, if_true, if_false, Bool.true_eq_false, Bool.false_eq_true] <;> first | (rw [decide_eq_decide]; omega) | (symm; rw [decide_eq_true_iff]; omega) | (symm; rw [decide_eq_false_iff_not]; omega)
  rw [e] at this
  exact this
end Go.Proofs.YthhhglfcacoejabDoor
