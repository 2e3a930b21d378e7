/- Contracts of package ratio: Sub, Neg, Cmp. -/
import Derived.Test.YtipnefaggpigfaaRatW8
namespace Go.Proofs.Ytipnefaggpigfaa
open Go.RowKit Go.Shelf
attribute [local go_sem] Oper.semAt_some

set_option maxRecDepth 100000 in
set_option maxHeartbeats 300000 in
theorem sub_walk (an ad bn bd nb : Int) (r : Rt × Int) (hn : IntKind.i64.wrap (-bn) = nb)
    (HA : ∀ w, Calls Try.prog 56 #[.agg #[.int .i64 an, .int .i64 ad], .agg #[.int .i64 nb, .int .i64 bd]] w fun e w' => e = .returned (.tuple #[rtv r.1, .int .i64 r.2]) ∧ Below w.heap.size w w') (w : World) :
    Calls Try.prog 55 #[.agg #[.int .i64 an, .int .i64 ad], .agg #[.int .i64 bn, .int .i64 bd]] w fun e w' => e = .returned (.tuple #[rtv r.1, .int .i64 r.2]) ∧ Below w.heap.size w w' := by
  simp only [rtv] at *
  have HA := hideR HA
  go_enter Try.func55, Try.ntmps55
  go_wp2_with fail
  go_at_call 56
  refine (HA.out _).mono ?_
  rintro e w1 ⟨rfl, b1⟩
  obtain ⟨hc, hf⟩ := bcell b1
  have z1 := b1.size
  simp at z1
  go_wp2_with fail
  exact bodyPost_ret (v := .tuple #[.agg #[.int .i64 r.1.N, .int .i64 r.1.D], .int .i64 r.2]) (by simp [results, Try.results55, go_sem, hc]) rfl ⟨rfl, ((bup (bel3 w _ _ _) b1).setCell (by simp; omega) _).setCell (by simp; omega) _⟩

set_option maxRecDepth 100000 in
set_option maxHeartbeats 300000 in
theorem cmp_same (an ad : Int) (w : World) :
    Calls Try.prog 35 #[.agg #[.int .i64 an, .int .i64 ad], .agg #[.int .i64 an, .int .i64 ad]] w fun e w' => e = .returned (.int .i64 0) ∧ Below w.heap.size w w' := by
  go_enter Try.func35, Try.ntmps35
  go_wp2_with fail
  go_ret
  exact ⟨rfl, bel2 _ _ _⟩

set_option maxRecDepth 100000 in
set_option maxHeartbeats 300000 in
theorem cmp_walk (an ad bn bd p q c : Int) (hne : ¬ an = bn)
    (HP1 : ∀ w, Calls Try.prog 66 #[.int .i64 an, .int .i64 bd] w fun e w' => e = .returned (wv p) ∧ Below w.heap.size w w')
    (HP2 : ∀ w, Calls Try.prog 66 #[.int .i64 bn, .int .i64 ad] w fun e w' => e = .returned (wv q) ∧ Below w.heap.size w w')
    (HQ : ∀ w, Calls Try.prog 67 #[wv p, wv q] w fun e w' => e = .returned (.int .i64 c) ∧ Below w.heap.size w w') (w : World) :
    Calls Try.prog 35 #[.agg #[.int .i64 an, .int .i64 ad], .agg #[.int .i64 bn, .int .i64 bd]] w fun e w' => e = .returned (.int .i64 c) ∧ Below w.heap.size w w' := by
  have HP1 := hideR HP1
  have HP2 := hideR HP2
  have HQ := hideR HQ
  go_enter Try.func35, Try.ntmps35
  have SC : ((w.alloc (.cells #[.int .i64 an, .int .i64 ad] 42)).alloc (.cells #[.int .i64 bn, .int .i64 bd] 42)).cell? ⟨w.heap.size, 0, none⟩ = some (.int .i64 an) ∧ ((w.alloc (.cells #[.int .i64 an, .int .i64 ad] 42)).alloc (.cells #[.int .i64 bn, .int .i64 bd] 42)).cell? ⟨w.heap.size, 1, none⟩ = some (.int .i64 ad) ∧ ((w.alloc (.cells #[.int .i64 an, .int .i64 ad] 42)).alloc (.cells #[.int .i64 bn, .int .i64 bd] 42)).cell? ⟨w.heap.size + 1, 0, none⟩ = some (.int .i64 bn) ∧ ((w.alloc (.cells #[.int .i64 an, .int .i64 ad] 42)).alloc (.cells #[.int .i64 bn, .int .i64 bd] 42)).cell? ⟨w.heap.size + 1, 1, none⟩ = some (.int .i64 bd) := ⟨by go_simp, by go_simp, by go_simp, by go_simp⟩
  have zA : w.heap.size < ((w.alloc (.cells #[.int .i64 an, .int .i64 ad] 42)).alloc (.cells #[.int .i64 bn, .int .i64 bd] 42)).heap.size := by simp; omega
  have zB : w.heap.size + 1 < ((w.alloc (.cells #[.int .i64 an, .int .i64 ad] 42)).alloc (.cells #[.int .i64 bn, .int .i64 bd] 42)).heap.size := by simp
  have BV := bel2 w (.cells #[.int .i64 an, .int .i64 ad] 42) (.cells #[.int .i64 bn, .int .i64 bd] 42)
  go_wp2_with fail
  all_goals (
    generalize (w.alloc (.cells #[.int .i64 an, .int .i64 ad] 42)).alloc (.cells #[.int .i64 bn, .int .i64 bd] 42) = V at *
    obtain ⟨c0, c1, c2, c3⟩ := id SC
    go_region_held3 (fun w' => w'.cell? ⟨w.heap.size, 0, none⟩ = some (.int .i64 an) ∧ w'.cell? ⟨w.heap.size, 1, none⟩ = some (.int .i64 ad) ∧ w'.cell? ⟨w.heap.size + 1, 0, none⟩ = some (.int .i64 bn) ∧ w'.cell? ⟨w.heap.size + 1, 1, none⟩ = some (.int .i64 bd)) (first | assumption | go_keep)
      (first | (go_at_call_of 66 an; refine (HP1.out _).mono ?_; rintro e w3 ⟨rfl, b3⟩; have S3 := keep4 b3 zA zB SC) | (go_at_call_of 66 bn; refine (HP2.out _).mono ?_; rintro e w4 ⟨rfl, b4⟩; have B4 := bup b3 b4; have S4 := keep4 B4 zA zB SC) | (go_at_call 67; refine (HQ.out _).mono ?_; rintro e w5 ⟨rfl, b5⟩; have B5 := bup B4 b5; have S5 := keep4 B5 zA zB SC))
    all_goals (try go_wp2_with fail)
    all_goals go_ret
    all_goals exact ⟨rfl, bup BV.drew B5⟩)

set_option maxRecDepth 100000 in
set_option maxHeartbeats 300000 in
theorem cmp_walk2 (an ad bd p q c : Int) (hne : ¬ ad = bd)
    (HP1 : ∀ w, Calls Try.prog 66 #[.int .i64 an, .int .i64 bd] w fun e w' => e = .returned (wv p) ∧ Below w.heap.size w w')
    (HP2 : ∀ w, Calls Try.prog 66 #[.int .i64 an, .int .i64 ad] w fun e w' => e = .returned (wv q) ∧ Below w.heap.size w w')
    (HQ : ∀ w, Calls Try.prog 67 #[wv p, wv q] w fun e w' => e = .returned (.int .i64 c) ∧ Below w.heap.size w w') (w : World) :
    Calls Try.prog 35 #[.agg #[.int .i64 an, .int .i64 ad], .agg #[.int .i64 an, .int .i64 bd]] w fun e w' => e = .returned (.int .i64 c) ∧ Below w.heap.size w w' := by
  have HP1 := hideR HP1
  have HP2 := hideR HP2
  have HQ := hideR HQ
  go_enter Try.func35, Try.ntmps35
  have SC : ((w.alloc (.cells #[.int .i64 an, .int .i64 ad] 42)).alloc (.cells #[.int .i64 an, .int .i64 bd] 42)).cell? ⟨w.heap.size, 0, none⟩ = some (.int .i64 an) ∧ ((w.alloc (.cells #[.int .i64 an, .int .i64 ad] 42)).alloc (.cells #[.int .i64 an, .int .i64 bd] 42)).cell? ⟨w.heap.size, 1, none⟩ = some (.int .i64 ad) ∧ ((w.alloc (.cells #[.int .i64 an, .int .i64 ad] 42)).alloc (.cells #[.int .i64 an, .int .i64 bd] 42)).cell? ⟨w.heap.size + 1, 0, none⟩ = some (.int .i64 an) ∧ ((w.alloc (.cells #[.int .i64 an, .int .i64 ad] 42)).alloc (.cells #[.int .i64 an, .int .i64 bd] 42)).cell? ⟨w.heap.size + 1, 1, none⟩ = some (.int .i64 bd) := ⟨by go_simp, by go_simp, by go_simp, by go_simp⟩
  have zA : w.heap.size < ((w.alloc (.cells #[.int .i64 an, .int .i64 ad] 42)).alloc (.cells #[.int .i64 an, .int .i64 bd] 42)).heap.size := by simp; omega
  have zB : w.heap.size + 1 < ((w.alloc (.cells #[.int .i64 an, .int .i64 ad] 42)).alloc (.cells #[.int .i64 an, .int .i64 bd] 42)).heap.size := by simp
  have BV := bel2 w (.cells #[.int .i64 an, .int .i64 ad] 42) (.cells #[.int .i64 an, .int .i64 bd] 42)
  go_wp2_with fail
  all_goals (
    generalize (w.alloc (.cells #[.int .i64 an, .int .i64 ad] 42)).alloc (.cells #[.int .i64 an, .int .i64 bd] 42) = V at *
    obtain ⟨c0, c1, c2, c3⟩ := id SC
    go_region_held3 (fun w' => w'.cell? ⟨w.heap.size, 0, none⟩ = some (.int .i64 an) ∧ w'.cell? ⟨w.heap.size, 1, none⟩ = some (.int .i64 ad) ∧ w'.cell? ⟨w.heap.size + 1, 0, none⟩ = some (.int .i64 an) ∧ w'.cell? ⟨w.heap.size + 1, 1, none⟩ = some (.int .i64 bd)) (first | assumption | go_keep)
      (first | (go_at_call_of 66 bd; refine (HP1.out _).mono ?_; rintro e w3 ⟨rfl, b3⟩; have S3 := keep4 b3 zA zB SC) | (go_at_call_of 66 ad; refine (HP2.out _).mono ?_; rintro e w4 ⟨rfl, b4⟩; have B4 := bup b3 b4; have S4 := keep4 B4 zA zB SC) | (go_at_call 67; refine (HQ.out _).mono ?_; rintro e w5 ⟨rfl, b5⟩; have B5 := bup B4 b5; have S5 := keep4 B5 zA zB SC))
    all_goals (try go_wp2_with fail)
    all_goals go_ret
    all_goals exact ⟨rfl, bup BV.drew B5⟩)

theorem neg64_wrap (k : Int) : I64 (IntKind.i64.wrap (-k)) := by rw [IntKind.wrap_i64]; unfold I64; omega
theorem neg64_right (b : Rt) (h : I64 b.N) : rightB ⟨IntKind.i64.wrap (-b.N), b.D⟩ = rightB b ∧ (rightB b = true → IntKind.i64.wrap (-b.N) = -b.N) := by
  unfold I64 at h
  rw [IntKind.wrap_i64]
  by_cases hm : b.N = -9223372036854775808
  · have h1 : rightB b = false := by unfold rightB; rw [decide_eq_false]; omega
    rw [hm, h1]
    refine ⟨by unfold rightB; rw [decide_eq_false]; simp, nofun⟩
  · have e : (-b.N + 9223372036854775808) % 18446744073709551616 - 9223372036854775808 = -b.N := by omega
    rw [e]
    exact ⟨neg_right b, fun _ => rfl⟩
theorem subA_eq (a b : Rt) (h : I64 b.N) : subA a b = addA a ⟨IntKind.i64.wrap (-b.N), b.D⟩ := by
  obtain ⟨h1, h2⟩ := neg64_right b h
  unfold subA addA
  rw [h1]
  by_cases hr : (rightB a && rightB b) = true
  · rw [if_pos hr, if_pos hr, h2 (by simp at hr; exact hr.2), val_sub]
  · rw [if_neg hr, if_neg hr]
theorem sub_any (a b : Rt) (ha : RtIn a) (hb : RtIn b) (w : World) :
    Calls Try.prog 55 #[rtv a, rtv b] w fun e w' => e = .returned (.tuple #[rtv (subA a b).1, .int .i64 (subA a b).2]) ∧ Below w.heap.size w w' := by
  rw [subA_eq a b hb.1]
  exact sub_walk a.N a.D b.N b.D _ _ rfl (add_any a ⟨IntKind.i64.wrap (-b.N), b.D⟩ ha ⟨neg64_wrap _, hb.2⟩) w
theorem cmp_cmpZ (a b : Rt) : cmpZ (a.N * b.D) (b.N * a.D) = cmpI a b := rfl
theorem mul64_in {x y : Int} (hx : I64 x) (hy : I64 y) : In128 (x * y) := by
  unfold I64 at hx hy
  have := mul_bounds (x := x) (y := y) (X := 9223372036854775808) (Y := 9223372036854775808) ⟨by omega, by omega⟩ ⟨by omega, by omega⟩
  unfold In128
  omega
theorem cmp_any (a b : Rt) (ha : RtIn a) (hb : RtIn b) (w : World) :
    Calls Try.prog 35 #[rtv a, rtv b] w fun e w' => e = .returned (.int .i64 (cmpI a b)) ∧ Below w.heap.size w w' := by
  by_cases h : a.N = b.N ∧ a.D = b.D
  · obtain rfl : a = b := by cases a; cases b; simp only at h; rw [h.1, h.2]
    rw [cmp_self]
    exact cmp_same a.N a.D w
  · by_cases hn : a.N = b.N
    · have := cmp_walk2 a.N a.D b.D _ _ _ (fun e => h ⟨hn, e⟩) (product_any _ _ ha.1 hb.2) (product_any _ _ ha.1 ha.2) (compare_any _ _ (mul64_in ha.1 hb.2) (mul64_in ha.1 ha.2)) w
      rw [← cmp_cmpZ]
      unfold rtv
      rw [← hn]
      exact this
    exact cmp_walk a.N a.D b.N b.D _ _ _ hn (product_any _ _ ha.1 hb.2) (product_any _ _ hb.1 ha.2) (compare_any _ _ (mul64_in ha.1 hb.2) (mul64_in hb.1 ha.2)) w
end Go.Proofs.Ytipnefaggpigfaa
