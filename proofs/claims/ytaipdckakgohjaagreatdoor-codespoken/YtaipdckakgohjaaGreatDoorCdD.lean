/- Package code: rates, frames and times. -/
import Derived.Test.YtaipdckakgohjaaGreatDoorCdA
import Derived.Test.YtaipdckakgohjaaGreatDoorRatW13
import Derived.Test.YtaipdckakgohjaaGreatDoorRefB4
import Derived.Deep.RegionHeld3
namespace Go.Proofs.YtaipdckakgohjaaGreatDoor
open Go.RowKit Go.Shelf
attribute [local go_sem] Oper.semAt_some

/-- A rate in memory. -/
def RateAt (V : World) (B : Nat) (n d : Int) (dr : Bool) : Prop := B < V.heap.size ∧ V.cell? ⟨B, 0, none⟩ = some (.int .i64 n) ∧ V.cell? ⟨B, 1, none⟩ = some (.int .i64 d) ∧ V.cell? ⟨B, 2, none⟩ = some (.bool dr)
theorem RateAt.new (w : World) (n d : Int) (dr : Bool) : RateAt (w.alloc (.cells #[.int .i64 n, .int .i64 d, .bool dr] 31)) w.heap.size n d dr := ⟨by simp, by go_simp, by go_simp, by go_simp⟩
theorem RateAt.keep {V U : World} {B : Nat} {n d : Int} {dr : Bool} (h : RateAt V B n d dr) (k : Below V.heap.size V U) : RateAt U B n d dr :=
  ⟨Nat.lt_of_lt_of_le h.1 k.size, (k.cell (p := ⟨B, 0, none⟩) h.1).trans h.2.1, (k.cell (p := ⟨B, 1, none⟩) h.1).trans h.2.2.1, (k.cell (p := ⟨B, 2, none⟩) h.1).trans h.2.2.2⟩
theorem RateAt.alloc {V : World} {B : Nat} {n d : Int} {dr : Bool} (h : RateAt V B n d dr) (o : Obj) : RateAt (V.alloc o) B n d dr := h.keep (bel1 V o)
theorem RateAt.drew {V : World} {B : Nat} {n d : Int} {dr : Bool} (h : RateAt V B n d dr) : RateAt V.drew B n d dr := h
def checkI (n d : Int) (dr : Bool) : Int := if 1 ≤ n ∧ n ≤ 240000 ∧ 1 ≤ d ∧ d ≤ 1001 ∧ d ≤ n ∧ n ≤ d * 240 ∧ rightB ⟨n, d⟩ = true ∧ (dr = true → leftI n d ≠ 0) then 0 else 14
set_option maxRecDepth 100000 in
theorem check_out (n d : Int) (dr : Bool) (h : n < 1 ∨ 240000 < n ∨ d < 1 ∨ 1001 < d) (w : World) :
    Calls Tryz.prog 35 #[.agg #[.int .i64 n, .int .i64 d, .bool dr]] w fun e w' => e = .returned (.int .i64 14) ∧ Below w.heap.size w w' := by
  rcases h with h | h | h | h
  all_goals (
    go_enter Tryz.func35, Tryz.ntmps35
    go_wp2_with fail)
  all_goals (go_ret; exact ⟨rfl, bel1 w _⟩)
set_option maxRecDepth 100000 in
theorem check_slow (n d : Int) (dr : Bool) (h1 : 1 ≤ n) (h2 : n ≤ 240000) (h3 : 1 ≤ d) (h4 : d ≤ 1001) (h : n < d ∨ d * 240 < n) (w : World) :
    Calls Tryz.prog 35 #[.agg #[.int .i64 n, .int .i64 d, .bool dr]] w fun e w' => e = .returned (.int .i64 14) ∧ Below w.heap.size w w' := by
  rcases h with h | h
  all_goals (
    go_enter Tryz.func35, Tryz.ntmps35
    go_wp2_with fail)
  all_goals (go_ret; exact ⟨rfl, bel1 w _⟩)
set_option maxRecDepth 100000 in
set_option maxHeartbeats 1000000 in
theorem check_walk (n d L : Int) (dr R : Bool) (h1 : 1 ≤ n) (h2 : n ≤ 240000) (h3 : 1 ≤ d) (h4 : d ≤ 1001) (h5 : d ≤ n) (h6 : n ≤ d * 240) (w : World)
    (HS : ∀ w, Calls Tryz.prog 72 #[.agg #[.int .i64 n, .int .i64 d, .bool dr]] w fun e w' => e = .returned (.agg #[.int .i64 n, .int .i64 d]) ∧ Below w.heap.size w w')
    (HR : ∀ w, Calls Tryz.prog 66 #[.agg #[.int .i64 n, .int .i64 d]] w fun e w' => e = .returned (.bool R) ∧ Below w.heap.size w w')
    (HL : ∀ w, Calls Tryz.prog 73 #[.agg #[.int .i64 n, .int .i64 d, .bool dr]] w fun e w' => e = .returned (.int .i64 L) ∧ Below w.heap.size w w') :
    Calls Tryz.prog 35 #[.agg #[.int .i64 n, .int .i64 d, .bool dr]] w fun e w' => e = .returned (.int .i64 (if R = true ∧ (dr = true → L ≠ 0) then 0 else 14)) ∧ Below w.heap.size w w' := by
  have HS := hideR HS
  have HR := hideR HR
  have HL := hideR HL
  by_cases c1 : R = true ∧ (dr = true → L ≠ 0)
  · rw [if_pos c1]
    obtain ⟨rfl, c2⟩ := c1
    cases dr
    · go_enter Tryz.func35, Tryz.ntmps35
      go_wp2_with fail
      go_at_call 72
      refine (HS.out _).mono ?_
      rintro e w1 ⟨rfl, b1⟩
      have A1 := (RateAt.new w n d _).keep b1
      have B1 := bup (bel1 w _) b1
      clear b1
      obtain ⟨_, a0, a1, a2⟩ := id A1
      go_wp2_with fail
      go_at_call 66
      refine (HR.out _).mono ?_
      rintro e w2 ⟨rfl, b2⟩
      have A2 := A1.keep b2
      have B2 := bup B1 b2
      clear A1 B1 b2 a0 a1 a2
      obtain ⟨_, a0, a1, a2⟩ := id A2
      go_wp2_with fail
      go_ret
      exact ⟨rfl, B2⟩
    · have c3 : ¬ L = 0 := c2 rfl
      have c4 : (L == 0) = false := by simpa using c3
      clear c2
      go_enter Tryz.func35, Tryz.ntmps35
      go_wp2_with fail
      go_at_call 72
      refine (HS.out _).mono ?_
      rintro e w1 ⟨rfl, b1⟩
      have A1 := (RateAt.new w n d _).keep b1
      have B1 := bup (bel1 w _) b1
      clear b1
      obtain ⟨_, a0, a1, a2⟩ := id A1
      go_wp2_with fail
      go_at_call 66
      refine (HR.out _).mono ?_
      rintro e w2 ⟨rfl, b2⟩
      have A2 := A1.keep b2
      have B2 := bup B1 b2
      clear A1 B1 b2 a0 a1 a2
      obtain ⟨_, a0, a1, a2⟩ := id A2
      go_wp2_with fail
      go_at_call 73
      refine (HL.out _).mono ?_
      rintro e w3 ⟨rfl, b3⟩
      go_wp2_with fail
      go_ret
      exact ⟨rfl, bup B2 b3⟩
  · rw [if_neg c1]
    cases R
    · clear c1
      go_enter Tryz.func35, Tryz.ntmps35
      go_wp2_with fail
      go_at_call 72
      refine (HS.out _).mono ?_
      rintro e w1 ⟨rfl, b1⟩
      have A1 := (RateAt.new w n d _).keep b1
      have B1 := bup (bel1 w _) b1
      clear b1
      obtain ⟨_, a0, a1, a2⟩ := id A1
      go_wp2_with fail
      go_at_call 66
      refine (HR.out _).mono ?_
      rintro e w2 ⟨rfl, b2⟩
      have A2 := A1.keep b2
      have B2 := bup B1 b2
      clear A1 B1 b2 a0 a1 a2
      obtain ⟨_, a0, a1, a2⟩ := id A2
      go_wp2_with fail
      go_ret
      exact ⟨rfl, B2⟩
    · have c2 : dr = true ∧ L = 0 := by
        cases dr
        · exact absurd ⟨rfl, by simp⟩ c1
        · refine ⟨rfl, Decidable.byContradiction fun h => c1 ⟨rfl, fun _ => h⟩⟩
      obtain ⟨rfl, rfl⟩ := c2
      clear c1
      go_enter Tryz.func35, Tryz.ntmps35
      go_wp2_with fail
      go_at_call 72
      refine (HS.out _).mono ?_
      rintro e w1 ⟨rfl, b1⟩
      have A1 := (RateAt.new w n d _).keep b1
      have B1 := bup (bel1 w _) b1
      clear b1
      obtain ⟨_, a0, a1, a2⟩ := id A1
      go_wp2_with fail
      go_at_call 66
      refine (HR.out _).mono ?_
      rintro e w2 ⟨rfl, b2⟩
      have A2 := A1.keep b2
      have B2 := bup B1 b2
      clear A1 B1 b2 a0 a1 a2
      obtain ⟨_, a0, a1, a2⟩ := id A2
      go_wp2_with fail
      go_at_call 73
      refine (HL.out _).mono ?_
      rintro e w3 ⟨rfl, b3⟩
      go_wp2_with fail
      go_ret
      exact ⟨rfl, bup B2 b3⟩
theorem check_any (n d : Int) (dr : Bool) (hn : I64 n) (hd : I64 d) (w : World) :
    Calls Tryz.prog 35 #[.agg #[.int .i64 n, .int .i64 d, .bool dr]] w fun e w' => e = .returned (.int .i64 (checkI n d dr)) ∧ Below w.heap.size w w' := by
  unfold checkI
  by_cases h : n < 1 ∨ 240000 < n ∨ d < 1 ∨ 1001 < d
  · rw [if_neg (by omega)]
    exact check_out n d dr h w
  · by_cases h2 : n < d ∨ d * 240 < n
    · rw [if_neg (by omega)]
      exact check_slow n d dr (by omega) (by omega) (by omega) (by omega) h2 w
    · have := check_walk n d (leftI n d) dr (rightB ⟨n, d⟩) (by omega) (by omega) (by omega) (by omega) (by omega) (by omega) w (speed_any n d dr) (right_any ⟨n, d⟩ ⟨hn, hd⟩) (left_any n d dr)
      by_cases c : rightB ⟨n, d⟩ = true ∧ (dr = true → leftI n d ≠ 0)
      · rw [if_pos c] at this
        rw [if_pos ⟨by omega, by omega, by omega, by omega, by omega, by omega, c⟩]
        exact this
      · rw [if_neg c] at this
        rw [if_neg fun x => c x.2.2.2.2.2.2]
        exact this
end Go.Proofs.YtaipdckakgohjaaGreatDoor
