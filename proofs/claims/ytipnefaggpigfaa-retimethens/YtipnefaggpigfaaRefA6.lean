/- Contracts of surtitleref3: Plus, Less. -/
import Derived.Test.YtipnefaggpigfaaRefA2
namespace Go.Proofs.Ytipnefaggpigfaa
open Go.RowKit Go.Shelf
attribute [local go_sem] Oper.semAt_some

set_option maxRecDepth 100000 in
set_option maxHeartbeats 1000000 in
theorem rplus_same_walk (n : Bool) (ah al bh bl s rh rl z : Int) (hl : IntKind.u64.wrap (al + bl) = rl)
    (hh : (rl < al ∧ IntKind.u64.wrap (ah + bh) = s ∧ IntKind.u64.wrap (s + 1) = rh) ∨ (¬ rl < al ∧ IntKind.u64.wrap (ah + bh) = rh))
    (HR : ∀ w, Calls Try.prog 81 #[.agg #[.bool n, .int .u64 rh, .int .u64 rl]] w fun e w' => e = .returned (nv z) ∧ Below w.heap.size w w') (w : World) :
    Calls Try.prog 64 #[.agg #[.bool n, .int .u64 ah, .int .u64 al], .agg #[.bool n, .int .u64 bh, .int .u64 bl]] w fun e w' => e = .returned (nv z) ∧ Below w.heap.size w w' := by
  unfold nv at *
  generalize decide (z < 0) = zn at *
  generalize hiZ (sz z) = zh at *
  generalize loZ (sz z) = zl at *
  have HR := hideR HR
  rcases hh with ⟨h1, h2, h3⟩ | ⟨h1, h2⟩
  all_goals (
    go_enter Try.func64, Try.ntmps64
    go_wp2_with fail
    go_at_call 81
    refine Calls.mono (HR.out _) ?_
    rintro e w2 ⟨rfl, b2⟩
    obtain ⟨hc, hf⟩ := bcell b2
    have z1 := b2.size
    simp at z1
    go_wp2_with fail
    exact bodyPost_ret (v := .agg #[.bool zn, .int .u64 zh, .int .u64 zl]) (by simp [results, Try.results64, go_sem, hc]) rfl ⟨rfl, (((bup (bel3 w _ _ _) b2).setCell (by simp; omega) _).setCell (by simp; omega) _).setCell (by simp; omega) _⟩)

/-- The three blocks of Plus. -/
def Tri3 (B : Nat) (na nb : Bool) (ah al bh bl : Int) (V : World) : Prop := Tri V B na ah al ∧ Tri V (B + 1) nb bh bl ∧ Tri V (B + 1 + 1) false 0 0
theorem Tri3.keep {B : Nat} {na nb : Bool} {ah al bh bl : Int} {V V2 : World} (h : Tri3 B na nb ah al bh bl V) (b : Below V.heap.size V V2) : Tri3 B na nb ah al bh bl V2 := ⟨h.1.keep b, h.2.1.keep b, h.2.2.keep b⟩
theorem tri3_new (na nb : Bool) (ah al bh bl : Int) (w : World) : Tri3 w.heap.size na nb ah al bh bl (((w.alloc (.cells #[.bool na, .int .u64 ah, .int .u64 al] 93)).alloc (.cells #[.bool nb, .int .u64 bh, .int .u64 bl] 93)).alloc (.cells #[.bool false, .int .u64 0, .int .u64 0] 93)) := by
  have t1 := ((Tri.new w na ah al 93).alloc (.cells #[.bool nb, .int .u64 bh, .int .u64 bl] 93)).alloc (.cells #[.bool false, .int .u64 0, .int .u64 0] 93)
  have t2 := (Tri.new (w.alloc (.cells #[.bool na, .int .u64 ah, .int .u64 al] 93)) nb bh bl 93).alloc (.cells #[.bool false, .int .u64 0, .int .u64 0] 93)
  have t3 := Tri.new ((w.alloc (.cells #[.bool na, .int .u64 ah, .int .u64 al] 93)).alloc (.cells #[.bool nb, .int .u64 bh, .int .u64 bl] 93)) false 0 0 93
  exact ⟨t1, t2.at (by simp), t3.at (by simp)⟩

set_option maxRecDepth 100000 in
set_option maxHeartbeats 1000000 in
theorem rplus_less_walk (na nb : Bool) (hne : (na == nb) = false) (ah al bh bl s rh rl z : Int) (hl : IntKind.u64.wrap (al - bl) = rl)
    (hh : (al < bl ∧ IntKind.u64.wrap (ah - bh) = s ∧ IntKind.u64.wrap (s - 1) = rh) ∨ (¬ al < bl ∧ IntKind.u64.wrap (ah - bh) = rh))
    (HA : ∀ w, Calls Try.prog 86 #[.agg #[.bool nb, .int .u64 bh, .int .u64 bl], .agg #[.bool na, .int .u64 ah, .int .u64 al]] w fun e w' => e = .returned (.bool false) ∧ Below w.heap.size w w')
    (HR : ∀ w, Calls Try.prog 81 #[.agg #[.bool na, .int .u64 rh, .int .u64 rl]] w fun e w' => e = .returned (nv z) ∧ Below w.heap.size w w') (w : World) :
    Calls Try.prog 64 #[.agg #[.bool na, .int .u64 ah, .int .u64 al], .agg #[.bool nb, .int .u64 bh, .int .u64 bl]] w fun e w' => e = .returned (nv z) ∧ Below w.heap.size w w' := by
  unfold nv at *
  generalize decide (z < 0) = zn at *
  generalize hiZ (sz z) = zh at *
  generalize loZ (sz z) = zl at *
  have HA := hideR HA
  have HR := hideR HR
  rcases hh with ⟨h1, h2, h3⟩ | ⟨h1, h2⟩
  all_goals (
    go_enter Try.func64, Try.ntmps64
    go_wp2_with fail
    go_at_call 86
    refine Calls.mono (HA.out _) ?_
    rintro e w1 ⟨rfl, b1⟩
    have S1 := (tri3_new na nb ah al bh bl w).keep b1
    have B1 := bup (bel3 w _ _ _) b1
    clear b1
    obtain ⟨⟨_, a0, a1, a2, _, _, _⟩, ⟨_, c0, c1, c2, _, _, _⟩, _⟩ := id S1
    go_wp2_with fail
    go_at_call 81
    refine Calls.mono (HR.out _) ?_
    rintro e w2 ⟨rfl, b2⟩
    have S2 := S1.keep b2
    have B2 := bup B1 b2
    clear b2 S1 B1 a0 a1 a2 c0 c1 c2
    obtain ⟨_, _, ⟨zz, r0, r1, r2, f0, f1, f2⟩⟩ := id S2
    go_wp2_with fail
    exact bodyPost_ret (v := .agg #[.bool zn, .int .u64 zh, .int .u64 zl]) (by simp [results, Try.results64, go_sem, r0, r1, r2]) rfl ⟨rfl, ((B2.setCell (by simp; omega) _).setCell (by simp; omega) _).setCell (by simp; omega) _⟩)

set_option maxRecDepth 100000 in
set_option maxHeartbeats 1000000 in
theorem rplus_turn_walk (na nb : Bool) (hne : (na == nb) = false) (ah al bh bl z : Int)
    (HA : ∀ w, Calls Try.prog 86 #[.agg #[.bool nb, .int .u64 bh, .int .u64 bl], .agg #[.bool na, .int .u64 ah, .int .u64 al]] w fun e w' => e = .returned (.bool true) ∧ Below w.heap.size w w')
    (HR : ∀ w, Calls Try.prog 64 #[.agg #[.bool nb, .int .u64 bh, .int .u64 bl], .agg #[.bool na, .int .u64 ah, .int .u64 al]] w fun e w' => e = .returned (nv z) ∧ Below w.heap.size w w') (w : World) :
    Calls Try.prog 64 #[.agg #[.bool na, .int .u64 ah, .int .u64 al], .agg #[.bool nb, .int .u64 bh, .int .u64 bl]] w fun e w' => e = .returned (nv z) ∧ Below w.heap.size w w' := by
  unfold nv at *
  generalize decide (z < 0) = zn at *
  generalize hiZ (sz z) = zh at *
  generalize loZ (sz z) = zl at *
  have HA := hideR HA
  have HR := hideR HR
  go_enter Try.func64, Try.ntmps64
  go_wp2_with fail
  go_at_call 86
  refine Calls.mono (HA.out _) ?_
  rintro e w1 ⟨rfl, b1⟩
  have S1 := (tri3_new na nb ah al bh bl w).keep b1
  have B1 := bup (bel3 w _ _ _) b1
  clear b1
  obtain ⟨⟨_, a0, a1, a2, _, _, _⟩, ⟨_, c0, c1, c2, _, _, _⟩, _⟩ := id S1
  go_wp2_with fail
  go_at_call 64
  refine Calls.mono (HR.out _) ?_
  rintro e w2 ⟨rfl, b2⟩
  have S2 := S1.keep b2
  have B2 := bup B1 b2
  clear b2 S1 B1 a0 a1 a2 c0 c1 c2
  obtain ⟨_, _, ⟨zz, r0, r1, r2, f0, f1, f2⟩⟩ := id S2
  go_wp2_with fail
  exact bodyPost_ret (v := .agg #[.bool zn, .int .u64 zh, .int .u64 zl]) (by simp [results, Try.results64, go_sem, r0, r1, r2]) rfl ⟨rfl, ((B2.setCell (by simp; omega) _).setCell (by simp; omega) _).setCell (by simp; omega) _⟩

theorem above_dec (x y : Int) (hx : 0 ≤ x ∧ x < 340282366920938463463374607431768211456) (hy : 0 ≤ y ∧ y < 340282366920938463463374607431768211456) : decide (hiZ y < hiZ x ∨ (hiZ x = hiZ y ∧ loZ y < loZ x)) = decide (y < x) :=
  decide_eq_decide.2 (by unfold hiZ loZ; omega)
theorem above_i (na nb : Bool) (x y : Int) (hx : 0 ≤ x ∧ x < 340282366920938463463374607431768211456) (hy : 0 ≤ y ∧ y < 340282366920938463463374607431768211456) (w : World) :
    Calls Try.prog 86 #[.agg #[.bool na, .int .u64 (hiZ x), .int .u64 (loZ x)], .agg #[.bool nb, .int .u64 (hiZ y), .int .u64 (loZ y)]] w fun e w' => e = .returned (.bool (decide (y < x))) ∧ Below w.heap.size w w' := by
  rw [← above_dec x y hx hy]
  exact rabove_any _ _ _ _ _ _ _
theorem sz_nonneg (a : Int) : 0 ≤ sz a := by unfold sz; omega
theorem rplus_less (a b : Int) (hs : (decide (a < 0) == decide (b < 0)) = false) (ha : sz a < 340282366920938463463374607431768211456) (hb : sz b ≤ sz a) (w : World) :
    Calls Try.prog 64 #[nv a, nv b] w fun e w' => e = .returned (nv (a + b)) ∧ Below w.heap.size w w' := by
  have na := sz_nonneg a
  have nb := sz_nonneg b
  have e : sgnQ (decide (a < 0)) (sz a - sz b) = a + b := by
    have hs2 : ¬ (a < 0 ↔ b < 0) := by simpa using hs
    unfold sgnQ sz at *
    split <;> simp_all <;> omega
  have hA := above_i (decide (b < 0)) (decide (a < 0)) (sz b) (sz a) ⟨nb, by omega⟩ ⟨na, ha⟩
  rw [decide_eq_false (show ¬ sz a < sz b by omega)] at hA
  have hR := right_sgn (decide (a < 0)) (sz a - sz b) (by omega) (by omega)
  rw [e] at hR
  unfold nv
  refine rplus_less_walk _ _ hs (hiZ (sz a)) (loZ (sz a)) (hiZ (sz b)) (loZ (sz b)) (IntKind.u64.wrap (hiZ (sz a) - hiZ (sz b))) (hiZ (sz a - sz b)) (loZ (sz a - sz b)) (a + b) ?_ ?_ hA hR w
  · rw [IntKind.wrap_u64]; unfold loZ; omega
  · by_cases hl : loZ (sz a) < loZ (sz b)
    · refine .inl ⟨hl, rfl, ?_⟩
      rw [IntKind.wrap_u64, IntKind.wrap_u64]; unfold hiZ loZ at *; omega
    · refine .inr ⟨hl, ?_⟩
      rw [IntKind.wrap_u64]; unfold hiZ loZ at *; omega
theorem rplus_any (a b : Int) (h : sz a + sz b < 340282366920938463463374607431768211456) (w : World) :
    Calls Try.prog 64 #[nv a, nv b] w fun e w' => e = .returned (nv (a + b)) ∧ Below w.heap.size w w' := by
  have na := sz_nonneg a
  have nb := sz_nonneg b
  by_cases hs : decide (a < 0) = decide (b < 0)
  · have e : sgnQ (decide (a < 0)) (sz a + sz b) = a + b := by
      have hs2 : a < 0 ↔ b < 0 := by simpa using hs
      unfold sgnQ sz
      split <;> simp_all <;> omega
    have hR := right_sgn (decide (a < 0)) (sz a + sz b) (by omega) (by omega)
    rw [e] at hR
    unfold nv
    rw [← hs]
    refine rplus_same_walk _ (hiZ (sz a)) (loZ (sz a)) (hiZ (sz b)) (loZ (sz b)) (IntKind.u64.wrap (hiZ (sz a) + hiZ (sz b))) (hiZ (sz a + sz b)) (loZ (sz a + sz b)) (a + b) ?_ ?_ hR w
    · rw [IntKind.wrap_u64]; unfold loZ; omega
    · by_cases hl : loZ (sz a + sz b) < loZ (sz a)
      · refine .inl ⟨hl, rfl, ?_⟩
        rw [IntKind.wrap_u64, IntKind.wrap_u64]; unfold hiZ loZ at *; omega
      · refine .inr ⟨hl, ?_⟩
        rw [IntKind.wrap_u64]; unfold hiZ loZ at *; omega
  · have hs1 : (decide (a < 0) == decide (b < 0)) = false := by simpa using hs
    by_cases hb : sz b ≤ sz a
    · exact rplus_less a b hs1 (by omega) hb w
    · have hA := above_i (decide (b < 0)) (decide (a < 0)) (sz b) (sz a) ⟨nb, by omega⟩ ⟨na, by omega⟩
      rw [decide_eq_true (show sz a < sz b by omega)] at hA
      have hP := rplus_less b a (by rw [Bool.beq_comm]; exact hs1) (by omega) (by omega)
      rw [Int.add_comm b a] at hP
      exact rplus_turn_walk _ _ hs1 (hiZ (sz a)) (loZ (sz a)) (hiZ (sz b)) (loZ (sz b)) (a + b) hA hP w

set_option maxRecDepth 100000 in
set_option maxHeartbeats 1000000 in
theorem rless_walk (na nb x y : Bool) (ah al bh bl : Int)
    (HA : ∀ w, Calls Try.prog 86 #[.agg #[.bool na, .int .u64 ah, .int .u64 al], .agg #[.bool nb, .int .u64 bh, .int .u64 bl]] w fun e w' => e = .returned (.bool x) ∧ Below w.heap.size w w')
    (HB : ∀ w, Calls Try.prog 86 #[.agg #[.bool nb, .int .u64 bh, .int .u64 bl], .agg #[.bool na, .int .u64 ah, .int .u64 al]] w fun e w' => e = .returned (.bool y) ∧ Below w.heap.size w w') (w : World) :
    Calls Try.prog 80 #[.agg #[.bool na, .int .u64 ah, .int .u64 al], .agg #[.bool nb, .int .u64 bh, .int .u64 bl]] w fun e w' => e = .returned (.bool (if na = nb then (if na = true then x else y) else na)) ∧ Below w.heap.size w w' := by
  have HA := hideR HA
  have HB := hideR HB
  cases na <;> cases nb
  all_goals (
    go_enter Try.func80, Try.ntmps80
    go_wp2_with fail)
  · go_at_call 86
    refine Calls.mono (HB.out _) ?_
    rintro e w1 ⟨rfl, b1⟩
    go_wp2_with fail
    go_ret
    exact ⟨rfl, bup (bel2 w _ _) b1⟩
  · go_ret
    exact ⟨rfl, bel2 w _ _⟩
  · go_ret
    exact ⟨rfl, bel2 w _ _⟩
  · go_at_call 86
    refine Calls.mono (HA.out _) ?_
    rintro e w1 ⟨rfl, b1⟩
    go_wp2_with fail
    go_ret
    exact ⟨rfl, bup (bel2 w _ _) b1⟩
theorem rless_any (a b : Int) (ha : sz a < 340282366920938463463374607431768211456) (hb : sz b < 340282366920938463463374607431768211456) (w : World) :
    Calls Try.prog 80 #[nv a, nv b] w fun e w' => e = .returned (.bool (decide (a < b))) ∧ Below w.heap.size w w' := by
  have na := sz_nonneg a
  have nb := sz_nonneg b
  have := rless_walk (decide (a < 0)) (decide (b < 0)) _ _ (hiZ (sz a)) (loZ (sz a)) (hiZ (sz b)) (loZ (sz b)) (above_i _ _ (sz a) (sz b) ⟨na, ha⟩ ⟨nb, hb⟩) (above_i _ _ (sz b) (sz a) ⟨nb, hb⟩ ⟨na, ha⟩) w
  have e : (if decide (a < 0) = decide (b < 0) then (if decide (a < 0) = true then decide (sz b < sz a) else decide (sz a < sz b)) else decide (a < 0)) = decide (a < b) := by
    unfold sz
    by_cases h1 : a < 0 <;> by_cases h2 : b < 0 <;> simp only [h1, h2, decide_true, decide_false, if_true, if_false, Bool.true_eq_false, Bool.false_eq_true] <;> first | (rw [decide_eq_decide]; omega) | (symm; rw [decide_eq_true_iff]; omega) | (symm; rw [decide_eq_false_iff_not]; omega)
  rw [e] at this
  exact this
end Go.Proofs.Ytipnefaggpigfaa
