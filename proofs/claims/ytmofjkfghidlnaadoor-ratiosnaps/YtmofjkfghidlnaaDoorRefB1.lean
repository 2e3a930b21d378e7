/- The contract of surtitleref3.Floor. -/
import Derived.Test.YtmofjkfghidlnaaDoorRefA8
namespace Go.Proofs.YtmofjkfghidlnaaDoor
open Go.RowKit Go.Shelf
attribute [local go_sem] Oper.semAt_some

set_option maxRecDepth 100000 in
set_option maxHeartbeats 1000000 in
theorem rfloor_pos (nb : Bool) (ah al bh bl qh ql rh rl : Int)
    (HD : ∀ w, Calls Tryd.prog 92 #[.agg #[.bool false, .int .u64 ah, .int .u64 al], .agg #[.bool nb, .int .u64 bh, .int .u64 bl]] w fun e w' => e = .returned (.tuple #[.agg #[.bool false, .int .u64 qh, .int .u64 ql], .agg #[.bool false, .int .u64 rh, .int .u64 rl]]) ∧ Below w.heap.size w w') (w : World) :
    Calls Tryd.prog 98 #[.agg #[.bool false, .int .u64 ah, .int .u64 al], .agg #[.bool nb, .int .u64 bh, .int .u64 bl]] w fun e w' => e = .returned (.agg #[.bool false, .int .u64 qh, .int .u64 ql]) ∧ Below w.heap.size w w' := by
  have HD := hideR HD
  go_enter Tryd.func98, Tryd.ntmps98
  go_wp2_with fail
  go_at_call 92
  refine Calls.mono (HD.out _) ?_
  rintro e w1 ⟨rfl, b1⟩
  have S1 := (tri3_new false nb ah al bh bl w).keep b1
  have B1 := bup (bel3 w _ _ _) b1
  clear b1
  have zz : w.heap.size + 1 + 1 < w1.heap.size := S1.2.2.1
  have T1 := ((S1.1.alloc (.cells #[.bool false, .int .u64 qh, .int .u64 ql] 76)).alloc (.cells #[.bool false, .int .u64 rh, .int .u64 rl] 76))
  have R1 := ((S1.2.2.alloc (.cells #[.bool false, .int .u64 qh, .int .u64 ql] 76)).alloc (.cells #[.bool false, .int .u64 rh, .int .u64 rl] 76))
  have B2 := bup (bup B1 (bel1 w1 (.cells #[.bool false, .int .u64 qh, .int .u64 ql] 76))) (bel1 (w1.alloc (.cells #[.bool false, .int .u64 qh, .int .u64 ql] 76)) (.cells #[.bool false, .int .u64 rh, .int .u64 rl] 76))
  obtain ⟨_, a0, a1, a2, _, _, _⟩ := id T1
  obtain ⟨_, r0, r1, r2, f0, f1, f2⟩ := id R1
  go_wp2_with fail
  exact bodyPost_ret (v := .agg #[.bool false, .int .u64 qh, .int .u64 ql]) (by simp [results, Tryd.results98, go_sem, r0, r1, r2]) rfl ⟨rfl, ((B2.setCell (by simp; omega) _).setCell (by simp; omega) _).setCell (by simp; omega) _⟩

set_option maxRecDepth 100000 in
set_option maxHeartbeats 1000000 in
theorem rfloor_zero (nb vn : Bool) (ah al bh bl qh ql rh rl vh vl : Int) (h0 : rh = 0 ∧ rl = 0)
    (HD : ∀ w, Calls Tryd.prog 92 #[.agg #[.bool false, .int .u64 ah, .int .u64 al], .agg #[.bool nb, .int .u64 bh, .int .u64 bl]] w fun e w' => e = .returned (.tuple #[.agg #[.bool false, .int .u64 qh, .int .u64 ql], .agg #[.bool false, .int .u64 rh, .int .u64 rl]]) ∧ Below w.heap.size w w')
    (HR : ∀ w, Calls Tryd.prog 63 #[.agg #[.bool true, .int .u64 qh, .int .u64 ql]] w fun e w' => e = .returned (.agg #[.bool vn, .int .u64 vh, .int .u64 vl]) ∧ Below w.heap.size w w') (w : World) :
    Calls Tryd.prog 98 #[.agg #[.bool true, .int .u64 ah, .int .u64 al], .agg #[.bool nb, .int .u64 bh, .int .u64 bl]] w fun e w' => e = .returned (.agg #[.bool vn, .int .u64 vh, .int .u64 vl]) ∧ Below w.heap.size w w' := by
  obtain ⟨rfl, rfl⟩ := h0
  have HD := hideR HD
  have HR := hideR HR
  go_enter Tryd.func98, Tryd.ntmps98
  go_wp2_with fail
  go_at_call 92
  refine Calls.mono (HD.out _) ?_
  rintro e w1 ⟨rfl, b1⟩
  have S1 := (tri3_new true nb ah al bh bl w).keep b1
  have B1 := bup (bel3 w _ _ _) b1
  clear b1
  have zz : w.heap.size + 1 + 1 < w1.heap.size := S1.2.2.1
  have T1 := ((S1.1.alloc (.cells #[.bool false, .int .u64 qh, .int .u64 ql] 76)).alloc (.cells #[.bool false, .int .u64 0, .int .u64 0] 76))
  have R2 := ((S1.2.2.alloc (.cells #[.bool true, .int .u64 qh, .int .u64 ql] 76)).alloc (.cells #[.bool false, .int .u64 0, .int .u64 0] 76))
  have Q2 := (Tri.new w1 true qh ql 76).alloc (.cells #[.bool false, .int .u64 0, .int .u64 0] 76)
  have B2 := bup (bup B1 (bel1 w1 (.cells #[.bool true, .int .u64 qh, .int .u64 ql] 76))) (bel1 (w1.alloc (.cells #[.bool true, .int .u64 qh, .int .u64 ql] 76)) (.cells #[.bool false, .int .u64 0, .int .u64 0] 76))
  obtain ⟨_, a0, a1, a2, _, _, _⟩ := id T1
  obtain ⟨_, q0, q1, q2, _, _, _⟩ := id Q2
  go_wp2_with fail
  go_at_call 63
  refine Calls.mono (HR.out _) ?_
  rintro e w3 ⟨rfl, b3⟩
  have R3 := R2.keep b3
  have B3 := bup B2 b3
  clear S1 B1 T1 R2 Q2 B2 b3 a0 a1 a2 q0 q1 q2
  obtain ⟨_, r0, r1, r2, f0, f1, f2⟩ := id R3
  go_wp2_with fail
  exact bodyPost_ret (v := .agg #[.bool vn, .int .u64 vh, .int .u64 vl]) (by simp [results, Tryd.results98, go_sem, r0, r1, r2]) rfl ⟨rfl, ((B3.setCell (by simp; omega) _).setCell (by simp; omega) _).setCell (by simp; omega) _⟩

set_option maxRecDepth 100000 in
set_option maxHeartbeats 1000000 in
theorem rfloor_more (nb vn pn : Bool) (ah al bh bl qh ql rh rl ph pl vh vl : Int) (h0 : ¬ rh = 0 ∨ (rh = 0 ∧ ¬ rl = 0))
    (HD : ∀ w, Calls Tryd.prog 92 #[.agg #[.bool false, .int .u64 ah, .int .u64 al], .agg #[.bool nb, .int .u64 bh, .int .u64 bl]] w fun e w' => e = .returned (.tuple #[.agg #[.bool false, .int .u64 qh, .int .u64 ql], .agg #[.bool false, .int .u64 rh, .int .u64 rl]]) ∧ Below w.heap.size w w')
    (HP : ∀ w, Calls Tryd.prog 70 #[.agg #[.bool false, .int .u64 qh, .int .u64 ql], .agg #[.bool false, .int .u64 0, .int .u64 1]] w fun e w' => e = .returned (.agg #[.bool pn, .int .u64 ph, .int .u64 pl]) ∧ Below w.heap.size w w')
    (HR : ∀ w, Calls Tryd.prog 63 #[.agg #[.bool true, .int .u64 ph, .int .u64 pl]] w fun e w' => e = .returned (.agg #[.bool vn, .int .u64 vh, .int .u64 vl]) ∧ Below w.heap.size w w') (w : World) :
    Calls Tryd.prog 98 #[.agg #[.bool true, .int .u64 ah, .int .u64 al], .agg #[.bool nb, .int .u64 bh, .int .u64 bl]] w fun e w' => e = .returned (.agg #[.bool vn, .int .u64 vh, .int .u64 vl]) ∧ Below w.heap.size w w' := by
  have HD := hideR HD
  have HP := hideR HP
  have HR := hideR HR
  rcases h0 with h1 | ⟨rfl, h1⟩
  · go_enter Tryd.func98, Tryd.ntmps98
    go_wp2_with fail
    go_at_call 92
    refine Calls.mono (HD.out _) ?_
    rintro e w1 ⟨rfl, b1⟩
    have S1 := (tri3_new true nb ah al bh bl w).keep b1
    have B1 := bup (bel3 w _ _ _) b1
    clear b1
    have zz : w.heap.size + 1 + 1 < w1.heap.size := S1.2.2.1
    have T1 := ((S1.1.alloc (.cells #[.bool false, .int .u64 qh, .int .u64 ql] 76)).alloc (.cells #[.bool false, .int .u64 rh, .int .u64 rl] 76))
    have R1 := ((S1.2.2.alloc (.cells #[.bool false, .int .u64 qh, .int .u64 ql] 76)).alloc (.cells #[.bool false, .int .u64 rh, .int .u64 rl] 76))
    have Q1 := (Tri.new w1 false qh ql 76).alloc (.cells #[.bool false, .int .u64 rh, .int .u64 rl] 76)
    have B2 := bup (bup B1 (bel1 w1 (.cells #[.bool false, .int .u64 qh, .int .u64 ql] 76))) (bel1 (w1.alloc (.cells #[.bool false, .int .u64 qh, .int .u64 ql] 76)) (.cells #[.bool false, .int .u64 rh, .int .u64 rl] 76))
    clear S1 B1
    obtain ⟨_, a0, a1, a2, _, _, _⟩ := id T1
    obtain ⟨_, q0, q1, q2, _, _, _⟩ := id Q1
    go_wp2_with fail
    go_at_call 70
    refine Calls.mono (HP.out _) ?_
    rintro e w3 ⟨rfl, b3⟩
    have z3 : w1.heap.size < w3.heap.size := (Q1.keep b3).1
    have Q3 := Q1.keep b3
    have R3 := R1.keep b3
    have B3 := bup B2 b3
    clear T1 R1 Q1 B2 b3 a0 a1 a2 q0 q1 q2
    have Q4 := (((Q3.set0 (n2 := pn)).set1 (h2 := ph)).set2 (l2 := pl)).set0 (n2 := true)
    have R4 := (((R3.other (S := w1.heap.size) (i := 0) (x := .bool pn) (by omega)).other (S := w1.heap.size) (i := 1) (x := .int .u64 ph) (by omega)).other (S := w1.heap.size) (i := 2) (x := .int .u64 pl) (by omega)).other (S := w1.heap.size) (i := 0) (x := .bool true) (by omega)
    have B4 := (((B3.setCell (p := ⟨w1.heap.size, 0, none⟩) (by simp; omega) (.bool pn)).setCell (p := ⟨w1.heap.size, 1, none⟩) (by simp; omega) (.int .u64 ph)).setCell (p := ⟨w1.heap.size, 2, none⟩) (by simp; omega) (.int .u64 pl)).setCell (p := ⟨w1.heap.size, 0, none⟩) (by simp; omega) (.bool true)
    obtain ⟨_, q0, q1, q2, q3, q4, q5⟩ := id Q3
    obtain ⟨_, s0, s1, s2, s3, s4, s5⟩ := id Q4
    clear Q3 R3 B3
    go_wp2_with fail
    go_at_call 63
    refine Calls.mono (HR.out _) ?_
    rintro e w5 ⟨rfl, b5⟩
    have R5 := R4.keep b5
    have B5 := bup B4 b5
    clear Q4 R4 B4 b5 q0 q1 q2 q3 q4 q5 s0 s1 s2 s3 s4 s5
    obtain ⟨_, r0, r1, r2, f0, f1, f2⟩ := id R5
    go_wp2_with fail
    exact bodyPost_ret (v := .agg #[.bool vn, .int .u64 vh, .int .u64 vl]) (by simp [results, Tryd.results98, go_sem, r0, r1, r2]) rfl ⟨rfl, ((B5.setCell (by simp; omega) _).setCell (by simp; omega) _).setCell (by simp; omega) _⟩
  · go_enter Tryd.func98, Tryd.ntmps98
    go_wp2_with fail
    go_at_call 92
    refine Calls.mono (HD.out _) ?_
    rintro e w1 ⟨rfl, b1⟩
    have S1 := (tri3_new true nb ah al bh bl w).keep b1
    have B1 := bup (bel3 w _ _ _) b1
    clear b1
    have zz : w.heap.size + 1 + 1 < w1.heap.size := S1.2.2.1
    have T1 := ((S1.1.alloc (.cells #[.bool false, .int .u64 qh, .int .u64 ql] 76)).alloc (.cells #[.bool false, .int .u64 0, .int .u64 rl] 76))
    have R1 := ((S1.2.2.alloc (.cells #[.bool false, .int .u64 qh, .int .u64 ql] 76)).alloc (.cells #[.bool false, .int .u64 0, .int .u64 rl] 76))
    have Q1 := (Tri.new w1 false qh ql 76).alloc (.cells #[.bool false, .int .u64 0, .int .u64 rl] 76)
    have B2 := bup (bup B1 (bel1 w1 (.cells #[.bool false, .int .u64 qh, .int .u64 ql] 76))) (bel1 (w1.alloc (.cells #[.bool false, .int .u64 qh, .int .u64 ql] 76)) (.cells #[.bool false, .int .u64 0, .int .u64 rl] 76))
    clear S1 B1
    obtain ⟨_, a0, a1, a2, _, _, _⟩ := id T1
    obtain ⟨_, q0, q1, q2, _, _, _⟩ := id Q1
    go_wp2_with fail
    go_at_call 70
    refine Calls.mono (HP.out _) ?_
    rintro e w3 ⟨rfl, b3⟩
    have z3 : w1.heap.size < w3.heap.size := (Q1.keep b3).1
    have Q3 := Q1.keep b3
    have R3 := R1.keep b3
    have B3 := bup B2 b3
    clear T1 R1 Q1 B2 b3 a0 a1 a2 q0 q1 q2
    have Q4 := (((Q3.set0 (n2 := pn)).set1 (h2 := ph)).set2 (l2 := pl)).set0 (n2 := true)
    have R4 := (((R3.other (S := w1.heap.size) (i := 0) (x := .bool pn) (by omega)).other (S := w1.heap.size) (i := 1) (x := .int .u64 ph) (by omega)).other (S := w1.heap.size) (i := 2) (x := .int .u64 pl) (by omega)).other (S := w1.heap.size) (i := 0) (x := .bool true) (by omega)
    have B4 := (((B3.setCell (p := ⟨w1.heap.size, 0, none⟩) (by simp; omega) (.bool pn)).setCell (p := ⟨w1.heap.size, 1, none⟩) (by simp; omega) (.int .u64 ph)).setCell (p := ⟨w1.heap.size, 2, none⟩) (by simp; omega) (.int .u64 pl)).setCell (p := ⟨w1.heap.size, 0, none⟩) (by simp; omega) (.bool true)
    obtain ⟨_, q0, q1, q2, q3, q4, q5⟩ := id Q3
    obtain ⟨_, s0, s1, s2, s3, s4, s5⟩ := id Q4
    clear Q3 R3 B3
    go_wp2_with fail
    go_at_call 63
    refine Calls.mono (HR.out _) ?_
    rintro e w5 ⟨rfl, b5⟩
    have R5 := R4.keep b5
    have B5 := bup B4 b5
    clear Q4 R4 B4 b5 q0 q1 q2 q3 q4 q5 s0 s1 s2 s3 s4 s5
    obtain ⟨_, r0, r1, r2, f0, f1, f2⟩ := id R5
    go_wp2_with fail
    exact bodyPost_ret (v := .agg #[.bool vn, .int .u64 vh, .int .u64 vl]) (by simp [results, Tryd.results98, go_sem, r0, r1, r2]) rfl ⟨rfl, ((B5.setCell (by simp; omega) _).setCell (by simp; omega) _).setCell (by simp; omega) _⟩

theorem rfloor_any (a b : Int) (ha : sz a ≤ 170141183460469231731687303715884105728) (hb : 0 < b) (hb2 : b ≤ 170141183460469231731687303715884105728) (w : World) :
    Calls Tryd.prog 98 #[nv a, nv b] w fun e w' => e = .returned (nv (a / b)) ∧ Below w.heap.size w w' := by
  obtain ⟨A, eA⟩ := Int.eq_ofNat_of_zero_le (sz_nonneg a)
  obtain ⟨D, eD⟩ := Int.eq_ofNat_of_zero_le (show 0 ≤ b by omega)
  have es : sz b = D := by unfold sz; omega
  have HD := divided_any false (decide (b < 0)) A D (by omega) (by omega) (by omega)
  rw [← eA, ← es] at HD
  have hdm := Nat.div_add_mod A D
  have hml := Nat.mod_lt A (show D > 0 by omega)
  have hql : A / D ≤ A := Nat.div_le_self _ _
  obtain ⟨Q, hQ⟩ : ∃ Q, A / D = Q := ⟨_, rfl⟩
  obtain ⟨M, hM⟩ : ∃ M, A % D = M := ⟨_, rfl⟩
  rw [hQ, hM] at HD hdm
  rw [hQ] at hql
  rw [hM] at hml
  unfold uv at HD
  have eb : b = (D : Int) := eD
  have hmul : (D : Int) * (Q : Int) + M = A := by exact_mod_cast hdm
  by_cases h : a < 0
  · have e1 : nv a = .agg #[.bool true, .int .u64 (hiZ (sz a)), .int .u64 (loZ (sz a))] := by unfold nv; rw [decide_eq_true h]
    rw [e1]
    have haA : a = -(A : Int) := by unfold sz at eA; omega
    by_cases h0 : M = 0
    · have ev : a / b = -(Q : Int) := by
        rw [haA, eb, ← hmul, h0]
        rw [show -((D : Int) * Q + ((0 : Nat) : Int)) = (-(Q : Int)) * D by rw [Int.neg_mul, Int.mul_comm]; omega]
        exact Int.mul_ediv_cancel _ (by omega)
      have HR := right_sgn true (Q : Int) (by omega) (by omega)
      rw [show sgn true (Q : Int) = a / b by rw [ev]; rfl] at HR
      rw [h0] at HD
      unfold nv at HR ⊢
      exact rfloor_zero _ _ _ _ _ _ _ _ _ _ _ _ ⟨rfl, rfl⟩ HD HR w
    · have ev : a / b = -((Q : Int) + 1) := by
        rw [haA, eb, ← hmul]
        rw [show -((D : Int) * Q + M) = ((D : Int) - M) + (-((Q : Int) + 1)) * D by rw [Int.neg_mul, Int.add_mul, Int.mul_comm (Q : Int)]; omega]
        rw [Int.add_mul_ediv_right _ _ (by omega), Int.ediv_eq_zero_of_lt (by omega) (by omega)]
        omega
      have HP := rplus_any (Q : Int) 1 (by unfold sz; omega)
      have HR := right_sgn true ((Q : Int) + 1) (by omega) (by omega)
      rw [show sgn true ((Q : Int) + 1) = a / b by rw [ev]; rfl] at HR
      have e2 : nv (Q : Int) = .agg #[.bool false, .int .u64 (hiZ Q), .int .u64 (loZ Q)] := by unfold nv; rw [decide_eq_false (by omega), show sz (Q : Int) = Q by unfold sz; omega]
      have e3 : nv 1 = .agg #[.bool false, .int .u64 0, .int .u64 1] := rfl
      have e4 : nv ((Q : Int) + 1) = .agg #[.bool false, .int .u64 (hiZ ((Q : Int) + 1)), .int .u64 (loZ ((Q : Int) + 1))] := by unfold nv; rw [decide_eq_false (by omega), show sz ((Q : Int) + 1) = (Q : Int) + 1 by unfold sz; omega]
      rw [e2, e3, e4] at HP
      unfold nv at HR ⊢
      exact rfloor_more _ _ _ _ _ _ _ _ _ _ _ _ _ _ _ (by unfold hiZ loZ; omega) HD HP HR w
  · have e1 : nv a = .agg #[.bool false, .int .u64 (hiZ (sz a)), .int .u64 (loZ (sz a))] := by unfold nv; rw [decide_eq_false h]
    have haA : a = (A : Int) := by unfold sz at eA; omega
    have ev : a / b = (Q : Int) := by rw [haA, eb, ← Int.natCast_ediv, hQ]
    rw [e1, ev]
    have e2 : nv (Q : Int) = .agg #[.bool false, .int .u64 (hiZ Q), .int .u64 (loZ Q)] := by unfold nv; rw [decide_eq_false (by omega), show sz (Q : Int) = Q by unfold sz; omega]
    rw [e2]
    unfold nv
    exact rfloor_pos _ _ _ _ _ _ _ _ _ HD w
end Go.Proofs.YtmofjkfghidlnaaDoor
