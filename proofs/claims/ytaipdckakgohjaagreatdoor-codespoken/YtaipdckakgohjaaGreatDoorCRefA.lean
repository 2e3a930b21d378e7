/- surtitleref5: common, Check. -/
import Derived.Test.YtaipdckakgohjaaGreatDoorCdD
namespace Go.Proofs.YtaipdckakgohjaaGreatDoor
open Go.RowKit Go.Shelf
attribute [local go_sem] Oper.semAt_some

theorem common5_any (a b : Nat) (ha : a ≤ 9223372036854775807) (hb : b ≤ 9223372036854775807) (w : World) :
    Calls Tryz.prog 53 #[.int .i64 a, .int .i64 b] w fun e w' => e = .returned (.int .i64 (a.gcd b : Nat)) ∧ ∃ m, w' = w.drewN m := by
  go_enter Tryz.func53, Tryz.ntmps53
  go_wp2
  go_loopw [0, 1] (fun va vb wr => ∃ x y : Nat, va = .int .i64 x ∧ vb = .int .i64 y ∧ x ≤ 9223372036854775807 ∧ y ≤ 9223372036854775807 ∧ x.gcd y = a.gcd b ∧ ∃ m, wr = w.drewN m) (fun _ vb _ => (intOf vb).toNat)
  case atStart => exact ⟨a, b, rfl, rfl, ha, hb, rfl, 0, rfl⟩
  case round =>
    obtain ⟨x, y, rfl, rfl, hx, hy, hg, m, hm⟩ := hrel
    have HG : Hid (x.gcd y = a.gcd b) := hg
    clear hg
    by_cases h0 : y = 0
    · subst h0
      go_wp2
      go_ret
      refine ⟨ret_int ?_, m, rfl⟩
      have := HG.out
      simp at this
      rw [this]
    · have hn : ((y : Int) != 0) = true := by simp; omega
      have hy0 : (0 : Int) < (y : Int) := by omega
      have hx0 : (0 : Int) ≤ (x : Int) := by omega
      obtain ⟨r, hr⟩ : ∃ r, x % y = r := ⟨_, rfl⟩
      have hr1 : r < y := by rw [← hr]; exact Nat.mod_lt x (by omega)
      have hgr := gcd_round x y
      rw [hr] at hgr
      have HG2 : Hid (y.gcd r = a.gcd b) := hgr.trans HG.out
      have HRr : Hid ((x : Int) % (y : Int) = (r : Int)) := hideR (by rw [← hr]; simp)
      clear hgr hr HG
      go_wp2
      go_region
      all_goals (try go_wp2)
      all_goals (
        go_roundw
        case rel => exact ⟨y, r, rfl, by rw [HRr.out], hy, by omega, HG2.out, m + 1, rfl⟩
        case measure =>
          rw [HRr.out]
          simp [intOf]
          omega)
set_option maxRecDepth 100000 in
theorem rcheck_out (n d : Int) (dr : Bool) (h : n < 1 ∨ 240000 < n ∨ d < 1 ∨ 1001 < d) (w : World) :
    Calls Tryz.prog 20 #[.agg #[.int .i64 n, .int .i64 d, .bool dr]] w fun e w' => e = .returned (.int .i64 14) ∧ Below w.heap.size w w' := by
  rcases h with h | h | h | h
  all_goals (
    go_enter Tryz.func20, Tryz.ntmps20
    go_wp2_with fail)
  all_goals (go_ret; exact ⟨rfl, bel1 w _⟩)
set_option maxRecDepth 100000 in
set_option maxHeartbeats 1000000 in
theorem rcheck_walk (n d : Int) (dr : Bool) (g : Int) (h1 : 1 ≤ n) (h2 : n ≤ 240000) (h3 : 1 ≤ d) (h4 : d ≤ 1001) (w : World)
    (HC : ∀ w, Calls Tryz.prog 53 #[.int .i64 n, .int .i64 d] w fun e w' => e = .returned (.int .i64 g) ∧ ∃ m, w' = w.drewN m) :
    Calls Tryz.prog 20 #[.agg #[.int .i64 n, .int .i64 d, .bool dr]] w fun e w' => e = .returned (.int .i64 (if g = 1 ∧ d ≤ n ∧ n ≤ 240 * d ∧ (dr = true → d = 1001 ∧ (n = 30000 ∨ n = 60000)) then 0 else 14)) ∧ Below w.heap.size w w' := by
  have HC := hideR HC
  by_cases c1 : g = 1
  · subst c1
    by_cases c2 : n < d
    · rw [if_neg (by omega)]
      go_enter Tryz.func20, Tryz.ntmps20
      go_wp2_with fail
      go_at_call 53
      refine (HC.out _).mono ?_
      rintro e w1 ⟨rfl, m, rfl⟩
      have A1 := (RateAt.new w n d dr).keep (below_drewN (Below.refl _ (w.alloc (.cells #[.int .i64 n, .int .i64 d, .bool dr] 31))) m)
      have B1 := below_drewN (bel1 w (.cells #[.int .i64 n, .int .i64 d, .bool dr] 31)) m
      generalize (w.alloc (.cells #[.int .i64 n, .int .i64 d, .bool dr] 31)).drewN m = V at *
      obtain ⟨_, a0, a1, a2⟩ := id A1
      go_wp2_with fail
      go_ret
      exact ⟨rfl, B1⟩
    · by_cases c3 : 240 * d < n
      · rw [if_neg (by omega)]
        have c4 : d ≤ n := by omega
        go_enter Tryz.func20, Tryz.ntmps20
        go_wp2_with fail
        go_at_call 53
        refine (HC.out _).mono ?_
        rintro e w1 ⟨rfl, m, rfl⟩
        have A1 := (RateAt.new w n d dr).keep (below_drewN (Below.refl _ (w.alloc (.cells #[.int .i64 n, .int .i64 d, .bool dr] 31))) m)
        have B1 := below_drewN (bel1 w (.cells #[.int .i64 n, .int .i64 d, .bool dr] 31)) m
        generalize (w.alloc (.cells #[.int .i64 n, .int .i64 d, .bool dr] 31)).drewN m = V at *
        obtain ⟨_, a0, a1, a2⟩ := id A1
        go_wp2_with fail
        go_ret
        exact ⟨rfl, B1⟩
      · have c4 : d ≤ n := by omega
        have c5 : n ≤ 240 * d := by omega
        cases dr
        · rw [if_pos ⟨rfl, c4, c5, by simp⟩]
          go_enter Tryz.func20, Tryz.ntmps20
          go_wp2_with fail
          go_at_call 53
          refine (HC.out _).mono ?_
          rintro e w1 ⟨rfl, m, rfl⟩
          have A1 := (RateAt.new w n d false).keep (below_drewN (Below.refl _ (w.alloc (.cells #[.int .i64 n, .int .i64 d, .bool false] 31))) m)
          have B1 := below_drewN (bel1 w (.cells #[.int .i64 n, .int .i64 d, .bool false] 31)) m
          generalize (w.alloc (.cells #[.int .i64 n, .int .i64 d, .bool false] 31)).drewN m = V at *
          obtain ⟨_, a0, a1, a2⟩ := id A1
          go_wp2_with fail
          go_ret
          exact ⟨rfl, B1⟩
        · by_cases c6 : d = 1001
          · subst c6
            by_cases c7 : n = 30000
            · subst c7
              rw [if_pos ⟨rfl, c4, c5, fun _ => ⟨rfl, .inl rfl⟩⟩]
              go_enter Tryz.func20, Tryz.ntmps20
              go_wp2_with fail
              go_at_call 53
              refine (HC.out _).mono ?_
              rintro e w1 ⟨rfl, m, rfl⟩
              have A1 := (RateAt.new w 30000 1001 true).keep (below_drewN (Below.refl _ (w.alloc (.cells #[.int .i64 30000, .int .i64 1001, .bool true] 31))) m)
              have B1 := below_drewN (bel1 w (.cells #[.int .i64 30000, .int .i64 1001, .bool true] 31)) m
              generalize (w.alloc (.cells #[.int .i64 30000, .int .i64 1001, .bool true] 31)).drewN m = V at *
              obtain ⟨_, a0, a1, a2⟩ := id A1
              go_wp2_with fail
              go_ret
              exact ⟨rfl, B1⟩
            · by_cases c8 : n = 60000
              · subst c8
                rw [if_pos ⟨rfl, c4, c5, fun _ => ⟨rfl, .inr rfl⟩⟩]
                go_enter Tryz.func20, Tryz.ntmps20
                go_wp2_with fail
                go_at_call 53
                refine (HC.out _).mono ?_
                rintro e w1 ⟨rfl, m, rfl⟩
                have A1 := (RateAt.new w 60000 1001 true).keep (below_drewN (Below.refl _ (w.alloc (.cells #[.int .i64 60000, .int .i64 1001, .bool true] 31))) m)
                have B1 := below_drewN (bel1 w (.cells #[.int .i64 60000, .int .i64 1001, .bool true] 31)) m
                generalize (w.alloc (.cells #[.int .i64 60000, .int .i64 1001, .bool true] 31)).drewN m = V at *
                obtain ⟨_, a0, a1, a2⟩ := id A1
                go_wp2_with fail
                go_ret
                exact ⟨rfl, B1⟩
              · rw [if_neg (fun h => by have := (h.2.2.2 rfl).2; omega)]
                have x1 : (n == 30000) = false := by simpa using c7
                have x2 : (n == 60000) = false := by simpa using c8
                go_enter Tryz.func20, Tryz.ntmps20
                go_wp2_with fail
                go_at_call 53
                refine (HC.out _).mono ?_
                rintro e w1 ⟨rfl, m, rfl⟩
                have A1 := (RateAt.new w n 1001 true).keep (below_drewN (Below.refl _ (w.alloc (.cells #[.int .i64 n, .int .i64 1001, .bool true] 31))) m)
                have B1 := below_drewN (bel1 w (.cells #[.int .i64 n, .int .i64 1001, .bool true] 31)) m
                generalize (w.alloc (.cells #[.int .i64 n, .int .i64 1001, .bool true] 31)).drewN m = V at *
                obtain ⟨_, a0, a1, a2⟩ := id A1
                go_wp2_with fail
                go_ret
                exact ⟨rfl, B1⟩
          · rw [if_neg (fun h => c6 (h.2.2.2 rfl).1)]
            go_enter Tryz.func20, Tryz.ntmps20
            go_wp2_with fail
            go_at_call 53
            refine (HC.out _).mono ?_
            rintro e w1 ⟨rfl, m, rfl⟩
            have A1 := (RateAt.new w n d true).keep (below_drewN (Below.refl _ (w.alloc (.cells #[.int .i64 n, .int .i64 d, .bool true] 31))) m)
            have B1 := below_drewN (bel1 w (.cells #[.int .i64 n, .int .i64 d, .bool true] 31)) m
            generalize (w.alloc (.cells #[.int .i64 n, .int .i64 d, .bool true] 31)).drewN m = V at *
            obtain ⟨_, a0, a1, a2⟩ := id A1
            go_wp2_with fail
            go_ret
            exact ⟨rfl, B1⟩
  · rw [if_neg (fun h => c1 h.1)]
    have x1 : (g == 1) = false := by simpa using c1
    have x2 : (g != 1) = true := by simpa using c1
    go_enter Tryz.func20, Tryz.ntmps20
    go_wp2_with fail
    go_at_call 53
    refine (HC.out _).mono ?_
    rintro e w1 ⟨rfl, m, rfl⟩
    have A1 := (RateAt.new w n d dr).keep (below_drewN (Below.refl _ (w.alloc (.cells #[.int .i64 n, .int .i64 d, .bool dr] 31))) m)
    have B1 := below_drewN (bel1 w (.cells #[.int .i64 n, .int .i64 d, .bool dr] 31)) m
    generalize (w.alloc (.cells #[.int .i64 n, .int .i64 d, .bool dr] 31)).drewN m = V at *
    obtain ⟨_, a0, a1, a2⟩ := id A1
    go_wp2_with fail
    go_ret
    exact ⟨rfl, B1⟩
theorem rcheck_any (n d : Int) (dr : Bool) (w : World) :
    Calls Tryz.prog 20 #[.agg #[.int .i64 n, .int .i64 d, .bool dr]] w fun e w' => e = .returned (.int .i64 (checkI n d dr)) ∧ Below w.heap.size w w' := by
  unfold checkI
  by_cases h : n < 1 ∨ 240000 < n ∨ d < 1 ∨ 1001 < d
  · rw [if_neg (by omega)]
    exact rcheck_out n d dr h w
  · have HC : ∀ w, Calls Tryz.prog 53 #[.int .i64 n, .int .i64 d] w fun e w' => e = .returned (.int .i64 (n.natAbs.gcd d.natAbs : Nat)) ∧ ∃ m, w' = w.drewN m := fun w => by
      have := common5_any n.natAbs d.natAbs (by omega) (by omega) w
      rwa [show ((n.natAbs : Nat) : Int) = n by omega, show ((d.natAbs : Nat) : Int) = d by omega] at this
    have := rcheck_walk n d dr _ (by omega) (by omega) (by omega) (by omega) w HC
    have hl : (leftI n d ≠ 0) ↔ (d = 1001 ∧ (n = 30000 ∨ n = 60000)) := by
      unfold leftI
      split
      · rename_i h; simp [h]
      · split
        · rename_i h; simp [h]
        · constructor
          · intro h; exact absurd rfl h
          · omega
    have hr : rightB ⟨n, d⟩ = true ↔ ((n.natAbs.gcd d.natAbs : Nat) : Int) = 1 := by
      unfold rightB
      rw [decide_eq_true_iff]
      constructor
      · intro h
        have h5 : n.natAbs.gcd d.natAbs = 1 := h.2.2.2.2
        rw [h5]
        rfl
      · intro h
        have h5 : n.natAbs.gcd d.natAbs = 1 := by omega
        exact ⟨by simp only; omega, by simp only; omega, by simp only; omega, by simp only; omega, h5⟩
    by_cases c : ((n.natAbs.gcd d.natAbs : Nat) : Int) = 1 ∧ d ≤ n ∧ n ≤ 240 * d ∧ (dr = true → d = 1001 ∧ (n = 30000 ∨ n = 60000))
    · rw [if_pos c] at this
      rw [if_pos ⟨by omega, by omega, by omega, by omega, by omega, by omega, hr.2 c.1, fun h => hl.2 (c.2.2.2 h)⟩]
      exact this
    · rw [if_neg c] at this
      rw [if_neg fun x => c ⟨hr.1 x.2.2.2.2.2.2.1, by omega, by omega, fun h => hl.1 (x.2.2.2.2.2.2.2 h)⟩]
      exact this
end Go.Proofs.YtaipdckakgohjaaGreatDoor
