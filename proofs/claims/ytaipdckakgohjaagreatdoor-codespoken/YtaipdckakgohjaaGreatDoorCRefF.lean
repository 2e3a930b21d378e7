/- surtitleref5: full, left, out, wide, last, lowest. -/
import Derived.Test.YtaipdckakgohjaaGreatDoorCRefA
import Derived.Test.YtaipdckakgohjaaGreatDoorGA
namespace Go.Proofs.YtaipdckakgohjaaGreatDoor
open Go.RowKit Go.Shelf
attribute [local go_sem] Oper.semAt_some

set_option maxRecDepth 100000 in
theorem rfull_any (n d : Int) (dr : Bool) (hn : 1 ≤ n ∧ n ≤ 240000) (hd : 1 ≤ d ∧ d ≤ 1001) (w : World) :
    Calls Tryz.prog 38 #[.agg #[.int .i64 n, .int .i64 d, .bool dr]] w fun e w' => e = .returned (.int .i64 (fullI n d)) ∧ Below w.heap.size w w' := by
  obtain ⟨q, hq⟩ : ∃ q, (n + d - 1) / d = q := ⟨_, rfl⟩
  have q0 : 0 ≤ q := by rw [← hq]; exact Int.ediv_nonneg (by omega) (by omega)
  have q1 : q ≤ n + d - 1 := by rw [← hq]; exact Int.ediv_le_self _ (by omega)
  unfold fullI
  rw [hq]
  go_enter Tryz.func38, Tryz.ntmps38
  go_wp2_with fail
  go_ret
  exact ⟨ret_int hq, bel1 w _⟩
set_option maxRecDepth 100000 in
theorem rlast_any (n d : Int) (dr : Bool) (hn : 1 ≤ n ∧ n ≤ 240000) (hd : 1 ≤ d ∧ d ≤ 1001) (w : World) :
    Calls Tryz.prog 37 #[.agg #[.int .i64 n, .int .i64 d, .bool dr]] w fun e w' => e = .returned (.int .i64 (360000 * n / d)) ∧ Below w.heap.size w w' := by
  obtain ⟨q, hq⟩ : ∃ q, 360000 * n / d = q := ⟨_, rfl⟩
  have q0 : 0 ≤ q := by rw [← hq]; exact Int.ediv_nonneg (by omega) (by omega)
  have q1 : q ≤ 360000 * n := by rw [← hq]; exact Int.ediv_le_self _ (by omega)
  rw [hq]
  go_enter Tryz.func37, Tryz.ntmps37
  go_wp2_with fail
  go_ret
  exact ⟨ret_int hq, bel1 w _⟩
set_option maxRecDepth 100000 in
theorem rwide_any (f : Int) (w : World) :
    Calls Tryz.prog 42 #[.int .i64 f] w fun e w' => e = .returned (.int .i64 (if 100 < f then 3 else 2)) ∧ w' = w := by
  by_cases h : 100 < f
  · rw [if_pos h]
    go_enter Tryz.func42, Tryz.ntmps42
    go_wp2_with fail
    go_ret
    exact ⟨rfl, rfl⟩
  · rw [if_neg h]
    have h2 : f ≤ 100 := by omega
    go_enter Tryz.func42, Tryz.ntmps42
    go_wp2_with fail
    go_ret
    exact ⟨rfl, rfl⟩
set_option maxRecDepth 100000 in
theorem rleft_walk (n d f q : Int) (dr : Bool) (hf : 0 ≤ f ∧ f ≤ 240) (hq : f / 15 = q) (w : World)
    (HF : ∀ w, Calls Tryz.prog 38 #[.agg #[.int .i64 n, .int .i64 d, .bool dr]] w fun e w' => e = .returned (.int .i64 f) ∧ Below w.heap.size w w') :
    Calls Tryz.prog 39 #[.agg #[.int .i64 n, .int .i64 d, .bool dr]] w fun e w' => e = .returned (.int .i64 (if dr = true then q else 0)) ∧ Below w.heap.size w w' := by
  have HF := hideR HF
  cases dr
  · rw [if_neg (by simp)]
    go_enter Tryz.func39, Tryz.ntmps39
    go_wp2_with fail
    go_ret
    exact ⟨rfl, bel1 w _⟩
  · rw [if_pos rfl]
    go_enter Tryz.func39, Tryz.ntmps39
    go_wp2_with fail
    go_at_call 38
    refine (HF.out _).mono ?_
    rintro e w1 ⟨rfl, b1⟩
    go_wp2_with fail
    go_ret
    exact ⟨ret_int hq, bup (bel1 w _) b1⟩
set_option maxRecDepth 100000 in
theorem rout_walk (n d l m : Int) (dr : Bool) (hm : 0 ≤ m ∧ m ≤ 1000000) (w : World)
    (HL : ∀ w, Calls Tryz.prog 39 #[.agg #[.int .i64 n, .int .i64 d, .bool dr]] w fun e w' => e = .returned (.int .i64 l) ∧ Below w.heap.size w w') :
    Calls Tryz.prog 40 #[.agg #[.int .i64 n, .int .i64 d, .bool dr], .int .i64 m] w fun e w' => e = .returned (.int .i64 (if m % 10 = 0 then 0 else l)) ∧ Below w.heap.size w w' := by
  have HL := hideR HL
  by_cases h : m % 10 = 0
  · rw [if_pos h]
    go_enter Tryz.func40, Tryz.ntmps40
    go_wp2_with fail
    go_ret
    exact ⟨rfl, bel1 w _⟩
  · rw [if_neg h]
    have h2 : (m % 10 == 0) = false := by simpa using h
    go_enter Tryz.func40, Tryz.ntmps40
    go_wp2_with fail
    go_at_call 39
    refine (HL.out _).mono ?_
    rintro e w1 ⟨rfl, b1⟩
    go_wp2_with fail
    go_ret
    exact ⟨rfl, bup (bel1 w _) b1⟩
set_option maxRecDepth 100000 in
theorem rlowest5_walk (P Q g a b : Int) (hP : 0 ≤ P ∧ P ≤ 9223372036854775807) (hQ : 0 ≤ Q ∧ Q ≤ 9223372036854775807) (hg : 0 < g) (ha : P / g = a) (hb : Q / g = b) (ha0 : 0 ≤ a ∧ a ≤ P) (hb0 : 0 ≤ b ∧ b ≤ Q) (w : World)
    (HC : ∀ w, Calls Tryz.prog 53 #[.int .i64 P, .int .i64 Q] w fun e w' => e = .returned (.int .i64 g) ∧ ∃ m, w' = w.drewN m) :
    Calls Tryz.prog 33 #[.int .i64 P, .int .i64 Q] w fun e w' => e = .returned (.agg #[.int .i64 a, .int .i64 b]) ∧ Below w.heap.size w w' := by
  have HC := hideR HC
  have za : ∀ w, (Op.intDiv .quo .i64 P g).run Tryz.prog w = .ok (.int .i64 a) w := fun w => by
    unfold Op.intDiv
    rw [if_neg (by omega), Int.tdiv_eq_ediv_of_nonneg (by omega), ha]
    exact congrArg (fun z => Result.ok (Value.int .i64 z) w) (by rw [IntKind.wrap_i64]; omega)
  have zb : ∀ w, (Op.intDiv .quo .i64 Q g).run Tryz.prog w = .ok (.int .i64 b) w := fun w => by
    unfold Op.intDiv
    rw [if_neg (by omega), Int.tdiv_eq_ediv_of_nonneg (by omega), hb]
    exact congrArg (fun z => Result.ok (Value.int .i64 z) w) (by rw [IntKind.wrap_i64]; omega)
  go_enter Tryz.func33, Tryz.ntmps33
  go_wp2_with fail
  go_at_call 53
  refine (HC.out _).mono ?_
  rintro e w1 ⟨rfl, m, rfl⟩
  have T1 := (Two.new w (.int .i64 0) (.int .i64 0) 24).keep (below_drewN (Below.refl _ (w.alloc (.cells #[.int .i64 0, .int .i64 0] 24))) m)
  have B1 := below_drewN (bel1 w (.cells #[.int .i64 0, .int .i64 0] 24)) m
  generalize (w.alloc (.cells #[.int .i64 0, .int .i64 0] 24)).drewN m = V at *
  obtain ⟨_, t0, t1, t2, t3⟩ := id T1
  go_wp2_with fail
  go_region
  all_goals (
    try go_wp2_with fail
    exact bodyPost_ret (v := .agg #[.int .i64 a, .int .i64 b]) (by simp [results, Tryz.results33, go_sem, t0, t1]) rfl ⟨rfl, (B1.drew.setCell (by simp) _).setCell (by simp) _⟩)
theorem rlowest5_any (P Q : Nat) (hP : P ≤ 9223372036854775807) (hQ : Q ≤ 9223372036854775807) (hQ0 : 0 < Q) (w : World) :
    Calls Tryz.prog 33 #[.int .i64 P, .int .i64 Q] w fun e w' => e = .returned (.agg #[.int .i64 ((P : Int) / (P.gcd Q : Nat)), .int .i64 ((Q : Int) / (P.gcd Q : Nat))]) ∧ Below w.heap.size w w' :=
  have g0 : 0 < P.gcd Q := Nat.gcd_pos_of_pos_right _ hQ0
  rlowest5_walk P Q (P.gcd Q : Nat) _ _ (by omega) (by omega) (by omega) rfl rfl ⟨Int.ediv_nonneg (by omega) (by omega), Int.ediv_le_self _ (by omega)⟩ ⟨Int.ediv_nonneg (by omega) (by omega), Int.ediv_le_self _ (by omega)⟩ w (common5_any P Q hP hQ)
theorem left_eq {n d : Int} {dr : Bool} (h : checkI n d dr = 0) : (if dr = true then fullI n d / 15 else 0) = if dr = true then leftI n d else 0 := by
  unfold checkI at h
  by_cases c : 1 ≤ n ∧ n ≤ 240000 ∧ 1 ≤ d ∧ d ≤ 1001 ∧ d ≤ n ∧ n ≤ d * 240 ∧ rightB ⟨n, d⟩ = true ∧ (dr = true → leftI n d ≠ 0)
  · cases dr
    · rfl
    · have := c.2.2.2.2.2.2.2 rfl
      unfold leftI at this ⊢
      by_cases c1 : n = 30000 ∧ d = 1001
      · obtain ⟨rfl, rfl⟩ := c1
        rfl
      · rw [if_neg c1] at this ⊢
        by_cases c2 : n = 60000 ∧ d = 1001
        · obtain ⟨rfl, rfl⟩ := c2
          rfl
        · rw [if_neg c2] at this
          exact absurd rfl this
  · rw [if_neg c] at h
    cases h
end Go.Proofs.YtaipdckakgohjaaGreatDoor
