/- surtitleref3.Parse, where it refuses. -/
import Derived.Test.YtmofjkfghidlnaaDoorRatP2
import Derived.Test.YtmofjkfghidlnaaDoorMgB
namespace Go.Proofs.YtmofjkfghidlnaaDoor
open Go.RowKit Go.Shelf
attribute [local go_sem] Oper.semAt_some bs_toList

set_option maxRecDepth 100000 in
set_option maxHeartbeats 1000000 in
theorem rp_noneF (l : List UInt8)  (h0 : 0 < (bs l).size)
    (hl : (bs l).size ≤ 9223372036854775806)
    (hg : ¬ (bs l)[0] = 45)
    (HR : ∀ w, Calls Tryd.prog 83 #[.string (bs l), .int .i64 0] w fun e w' => e = .returned (.int .i64 0) ∧ w' = w) (w : World) :
    Calls Tryd.prog 48 #[.string (bs l)] w fun e w' => e = .returned (.tuple #[.agg #[.int .i64 0, .int .i64 0], .int .i64 13]) ∧ Below w.heap.size w w' := by
  have HR := hideR HR
  have z0 : (0 : Int) < ((bs l).size : Int) := by omega
  have z3 : ¬ (bs l)[0].toNat = 45 := fun h => hg (UInt8.toNat_inj.1 h)
  go_enter Tryd.func48, Tryd.ntmps48
  go_wp2_with fail
  go_at_call 83
  refine (HR.out _).mono ?_
  rintro e w1 ⟨rfl, rfl⟩
  go_wp2_with fail
  exact bodyPost_ret (v := .tuple #[.agg #[.int .i64 0, .int .i64 0], .int .i64 13]) (by simp [results, Tryd.results48, go_sem]) rfl ⟨rfl, by first | exact bel1 w _ | exact (bel1 w _).setCell (Nat.le_refl _) _ | exact ((bel1 w _).setCell (Nat.le_refl _) _).setCell (Nat.le_refl _) _⟩

set_option maxRecDepth 100000 in
set_option maxHeartbeats 1000000 in
theorem rp_noughtF (l : List UInt8) (n : Nat) (h0 : 0 < (bs l).size)
    (hl : (bs l).size ≤ 9223372036854775806)
    (hg : ¬ (bs l)[0] = 45)
    (HR : ∀ w, Calls Tryd.prog 83 #[.string (bs l), .int .i64 0] w fun e w' => e = .returned (.int .i64 n) ∧ w' = w)
    (hn : 1 < n)
    (hz : ((bs l)[0]'(by omega)) = 48) (w : World) :
    Calls Tryd.prog 48 #[.string (bs l)] w fun e w' => e = .returned (.tuple #[.agg #[.int .i64 0, .int .i64 0], .int .i64 13]) ∧ Below w.heap.size w w' := by
  have HR := hideR HR
  have z0 : (0 : Int) < ((bs l).size : Int) := by omega
  have z3 : ¬ (bs l)[0].toNat = 45 := fun h => hg (UInt8.toNat_inj.1 h)
  have z1 : ¬ (n : Int) = 0 := by omega
  have z4 : ¬ n = 0 := by omega
  have z2 : (1 : Int) < (n : Int) := by omega
  have z6 : ((0 : Nat) : Int) < ((bs l).size : Int) := by omega
  have z7 : 0 < (bs l).size := by omega
  go_enter Tryd.func48, Tryd.ntmps48
  go_wp2_with fail
  go_at_call 83
  refine (HR.out _).mono ?_
  rintro e w1 ⟨rfl, rfl⟩
  go_wp2_with fail
  exact bodyPost_ret (v := .tuple #[.agg #[.int .i64 0, .int .i64 0], .int .i64 13]) (by simp [results, Tryd.results48, go_sem]) rfl ⟨rfl, by first | exact bel1 w _ | exact (bel1 w _).setCell (Nat.le_refl _) _ | exact ((bel1 w _).setCell (Nat.le_refl _) _).setCell (Nat.le_refl _) _⟩

set_option maxRecDepth 100000 in
set_option maxHeartbeats 1000000 in
theorem rp_markF (l : List UInt8) (hd rs : List UInt8) (n k : Nat) (h0 : 0 < (bs l).size)
    (hl : (bs l).size ≤ 9223372036854775806)
    (hg : ¬ (bs l)[0] = 45)
    (HR : ∀ w, Calls Tryd.prog 83 #[.string (bs l), .int .i64 0] w fun e w' => e = .returned (.int .i64 n) ∧ w' = w)
    (hn : 0 < n)
    (hn2 : 0 + n ≤ (bs l).size)
    (hnz : n ≤ 1 ∨ 1 < n ∧ ((((bs l)[0]'(by omega)).toNat : Int) == 48) = false)
    (hh : (bs l).extract 0 n = bs hd)
    (hr : (bs l).extract n (bs l).size = bs rs)
    (HS : ∀ w, Calls Tryd.prog 83 #[.string (bs rs), .int .i64 1] w fun e w' => e = .returned (.int .i64 k) ∧ w' = w)
    (he : rs.isEmpty = false)
    (hs : 0 < (bs rs).size)
    (hc1 : ¬ ((bs rs)[0]'hs).toNat = 47)
    (hc2 : ¬ ((bs rs)[0]'hs).toNat = 46) (w : World) :
    Calls Tryd.prog 48 #[.string (bs l)] w fun e w' => e = .returned (.tuple #[.agg #[.int .i64 0, .int .i64 0], .int .i64 13]) ∧ Below w.heap.size w w' := by
  have HR := hideR HR
  have HS := hideR HS
  have z0 : (0 : Int) < ((bs l).size : Int) := by omega
  have z3 : ¬ (bs l)[0].toNat = 45 := fun h => hg (UInt8.toNat_inj.1 h)
  have z1 : ((n : Int) == 0) = false := by simp; omega
  have z5 : (n : Int) ≤ ((bs l).size : Int) := by omega
  have z6 : n ≤ (bs l).size := by omega
  have y0 : (0 : Int) < ((bs rs).size : Int) := by omega
  rcases hnz with z2 | ⟨z2, z9⟩
  all_goals (
    have z2 := Int.ofNat_le.2 z2
    go_enter Tryd.func48, Tryd.ntmps48
    go_wp2_with fail
    go_at_call 83
    refine (HR.out _).mono ?_
    rintro e w1 ⟨rfl, rfl⟩
    go_wp2_with fail
    go_at_call 83
    refine (HS.out _).mono ?_
    rintro e w1 ⟨rfl, rfl⟩
    go_wp2_with fail
    exact bodyPost_ret (v := .tuple #[.agg #[.int .i64 0, .int .i64 0], .int .i64 13]) (by simp [results, Tryd.results48, go_sem]) rfl ⟨rfl, by first | exact bel1 w _ | exact (bel1 w _).setCell (Nat.le_refl _) _ | exact ((bel1 w _).setCell (Nat.le_refl _) _).setCell (Nat.le_refl _) _⟩)

set_option maxRecDepth 100000 in
set_option maxHeartbeats 1000000 in
theorem rp_noneT (l : List UInt8)  (h0 : 0 < (bs l).size)
    (hl : (bs l).size ≤ 9223372036854775806)
    (hg : (bs l)[0] = 45)
    (HR : ∀ w, Calls Tryd.prog 83 #[.string (bs l), .int .i64 1] w fun e w' => e = .returned (.int .i64 0) ∧ w' = w) (w : World) :
    Calls Tryd.prog 48 #[.string (bs l)] w fun e w' => e = .returned (.tuple #[.agg #[.int .i64 0, .int .i64 0], .int .i64 13]) ∧ Below w.heap.size w w' := by
  have HR := hideR HR
  have z0 : (0 : Int) < ((bs l).size : Int) := by omega
  go_enter Tryd.func48, Tryd.ntmps48
  go_wp2_with fail
  go_at_call 83
  refine (HR.out _).mono ?_
  rintro e w1 ⟨rfl, rfl⟩
  go_wp2_with fail
  exact bodyPost_ret (v := .tuple #[.agg #[.int .i64 0, .int .i64 0], .int .i64 13]) (by simp [results, Tryd.results48, go_sem]) rfl ⟨rfl, by first | exact bel1 w _ | exact (bel1 w _).setCell (Nat.le_refl _) _ | exact ((bel1 w _).setCell (Nat.le_refl _) _).setCell (Nat.le_refl _) _⟩

set_option maxRecDepth 100000 in
set_option maxHeartbeats 1000000 in
theorem rp_noughtT (l : List UInt8) (n : Nat) (h0 : 0 < (bs l).size)
    (hl : (bs l).size ≤ 9223372036854775806)
    (hg : (bs l)[0] = 45)
    (HR : ∀ w, Calls Tryd.prog 83 #[.string (bs l), .int .i64 1] w fun e w' => e = .returned (.int .i64 n) ∧ w' = w)
    (hn : 1 < n)
    (hn2 : 1 + n ≤ (bs l).size)
    (hz : ((bs l)[1]'(by omega)) = 48) (w : World) :
    Calls Tryd.prog 48 #[.string (bs l)] w fun e w' => e = .returned (.tuple #[.agg #[.int .i64 0, .int .i64 0], .int .i64 13]) ∧ Below w.heap.size w w' := by
  have HR := hideR HR
  have z0 : (0 : Int) < ((bs l).size : Int) := by omega
  have z1 : ¬ (n : Int) = 0 := by omega
  have z4 : ¬ n = 0 := by omega
  have z2 : (1 : Int) < (n : Int) := by omega
  have z6 : ((1 : Nat) : Int) < ((bs l).size : Int) := by omega
  have z7 : 1 < (bs l).size := by omega
  go_enter Tryd.func48, Tryd.ntmps48
  go_wp2_with fail
  go_at_call 83
  refine (HR.out _).mono ?_
  rintro e w1 ⟨rfl, rfl⟩
  go_wp2_with fail
  exact bodyPost_ret (v := .tuple #[.agg #[.int .i64 0, .int .i64 0], .int .i64 13]) (by simp [results, Tryd.results48, go_sem]) rfl ⟨rfl, by first | exact bel1 w _ | exact (bel1 w _).setCell (Nat.le_refl _) _ | exact ((bel1 w _).setCell (Nat.le_refl _) _).setCell (Nat.le_refl _) _⟩

set_option maxRecDepth 100000 in
set_option maxHeartbeats 1000000 in
theorem rp_markT (l : List UInt8) (hd rs : List UInt8) (q n k : Nat) (h0 : 0 < (bs l).size)
    (hl : (bs l).size ≤ 9223372036854775806)
    (hg : (bs l)[0] = 45)
    (HR : ∀ w, Calls Tryd.prog 83 #[.string (bs l), .int .i64 1] w fun e w' => e = .returned (.int .i64 n) ∧ w' = w)
    (hn : 0 < n)
    (hn2 : 1 + n ≤ (bs l).size)
    (hnz : n ≤ 1 ∨ 1 < n ∧ ((((bs l)[1]'(by omega)).toNat : Int) == 48) = false)
    (hq : (1 : Int) + (n : Int) = (q : Int))
    (hh : (bs l).extract 1 q = bs hd)
    (hr : (bs l).extract q (bs l).size = bs rs)
    (HS : ∀ w, Calls Tryd.prog 83 #[.string (bs rs), .int .i64 1] w fun e w' => e = .returned (.int .i64 k) ∧ w' = w)
    (he : rs.isEmpty = false)
    (hs : 0 < (bs rs).size)
    (hc1 : ¬ ((bs rs)[0]'hs).toNat = 47)
    (hc2 : ¬ ((bs rs)[0]'hs).toNat = 46) (w : World) :
    Calls Tryd.prog 48 #[.string (bs l)] w fun e w' => e = .returned (.tuple #[.agg #[.int .i64 0, .int .i64 0], .int .i64 13]) ∧ Below w.heap.size w w' := by
  have HR := hideR HR
  have HS := hideR HS
  have z0 : (0 : Int) < ((bs l).size : Int) := by omega
  have z1 : ((n : Int) == 0) = false := by simp; omega
  have z5 : (q : Int) ≤ ((bs l).size : Int) := by omega
  have z51 : q ≤ (bs l).size := by omega
  have z52 : (1 : Int) ≤ (q : Int) := by omega
  have z53 : 1 ≤ q := by omega
  have z6 : (1 : Int) < ((bs l).size : Int) := by omega
  have z7 : 1 < (bs l).size := by omega
  have y0 : (0 : Int) < ((bs rs).size : Int) := by omega
  rcases hnz with z2 | ⟨z2, z9⟩
  all_goals (
    have z2 := Int.ofNat_le.2 z2
    go_enter Tryd.func48, Tryd.ntmps48
    go_wp2_with fail
    go_at_call 83
    refine (HR.out _).mono ?_
    rintro e w1 ⟨rfl, rfl⟩
    go_wp2_with fail
    go_at_call 83
    refine (HS.out _).mono ?_
    rintro e w1 ⟨rfl, rfl⟩
    go_wp2_with fail
    exact bodyPost_ret (v := .tuple #[.agg #[.int .i64 0, .int .i64 0], .int .i64 13]) (by simp [results, Tryd.results48, go_sem]) rfl ⟨rfl, by first | exact bel1 w _ | exact (bel1 w _).setCell (Nat.le_refl _) _ | exact ((bel1 w _).setCell (Nat.le_refl _) _).setCell (Nat.le_refl _) _⟩)

set_option maxRecDepth 100000 in
set_option maxHeartbeats 1000000 in
theorem rp_endO0F (l : List UInt8) (hd rs : List UInt8) (n k : Nat) (h0 : 0 < (bs l).size)
    (hl : (bs l).size ≤ 9223372036854775806)
    (hg : ¬ (bs l)[0] = 45)
    (HR : ∀ w, Calls Tryd.prog 83 #[.string (bs l), .int .i64 0] w fun e w' => e = .returned (.int .i64 n) ∧ w' = w)
    (hn : 0 < n)
    (hn2 : 0 + n ≤ (bs l).size)
    (hnz : n ≤ 1 ∨ 1 < n ∧ ((((bs l)[0]'(by omega)).toNat : Int) == 48) = false)
    (hh : (bs l).extract 0 n = bs hd)
    (hr : (bs l).extract n (bs l).size = bs rs)
    (HS : ∀ w, Calls Tryd.prog 83 #[.string (bs rs), .int .i64 1] w fun e w' => e = .returned (.int .i64 k) ∧ w' = w)
    (he : rs.isEmpty = false)
    (hs : 0 < (bs rs).size)
    (hsl : (bs rs).size ≤ 9223372036854775806)
    (hc : (bs rs)[0]'hs = 47)
    (hk : k = 0) (w : World) :
    Calls Tryd.prog 48 #[.string (bs l)] w fun e w' => e = .returned (.tuple #[.agg #[.int .i64 0, .int .i64 0], .int .i64 13]) ∧ Below w.heap.size w w' := by
  have HR := hideR HR
  have HS := hideR HS
  have z0 : (0 : Int) < ((bs l).size : Int) := by omega
  have z3 : ¬ (bs l)[0].toNat = 45 := fun h => hg (UInt8.toNat_inj.1 h)
  have z1 : ((n : Int) == 0) = false := by simp; omega
  have z5 : (n : Int) ≤ ((bs l).size : Int) := by omega
  have z6 : n ≤ (bs l).size := by omega
  have y0 : (0 : Int) < ((bs rs).size : Int) := by omega
  have yk : ((k : Int) == 0) = true := by rw [hk]; rfl
  rcases hnz with z2 | ⟨z2, z9⟩
  all_goals (
    have z2 := Int.ofNat_le.2 z2
    go_enter Tryd.func48, Tryd.ntmps48
    go_wp2_with fail
    go_at_call 83
    refine (HR.out _).mono ?_
    rintro e w1 ⟨rfl, rfl⟩
    go_wp2_with fail
    go_at_call 83
    refine (HS.out _).mono ?_
    rintro e w1 ⟨rfl, rfl⟩
    go_wp2_with fail
    exact bodyPost_ret (v := .tuple #[.agg #[.int .i64 0, .int .i64 0], .int .i64 13]) (by simp [results, Tryd.results48, go_sem]) rfl ⟨rfl, by first | exact bel1 w _ | exact (bel1 w _).setCell (Nat.le_refl _) _ | exact ((bel1 w _).setCell (Nat.le_refl _) _).setCell (Nat.le_refl _) _⟩)

set_option maxRecDepth 100000 in
set_option maxHeartbeats 1000000 in
theorem rp_endO1F (l : List UInt8) (hd rs : List UInt8) (n k : Nat) (h0 : 0 < (bs l).size)
    (hl : (bs l).size ≤ 9223372036854775806)
    (hg : ¬ (bs l)[0] = 45)
    (HR : ∀ w, Calls Tryd.prog 83 #[.string (bs l), .int .i64 0] w fun e w' => e = .returned (.int .i64 n) ∧ w' = w)
    (hn : 0 < n)
    (hn2 : 0 + n ≤ (bs l).size)
    (hnz : n ≤ 1 ∨ 1 < n ∧ ((((bs l)[0]'(by omega)).toNat : Int) == 48) = false)
    (hh : (bs l).extract 0 n = bs hd)
    (hr : (bs l).extract n (bs l).size = bs rs)
    (HS : ∀ w, Calls Tryd.prog 83 #[.string (bs rs), .int .i64 1] w fun e w' => e = .returned (.int .i64 k) ∧ w' = w)
    (he : rs.isEmpty = false)
    (hs : 0 < (bs rs).size)
    (hsl : (bs rs).size ≤ 9223372036854775806)
    (hc : (bs rs)[0]'hs = 47)
    (hk : 0 < k) (hk2 : k + 1 < (bs rs).size) (w : World) :
    Calls Tryd.prog 48 #[.string (bs l)] w fun e w' => e = .returned (.tuple #[.agg #[.int .i64 0, .int .i64 0], .int .i64 13]) ∧ Below w.heap.size w w' := by
  have HR := hideR HR
  have HS := hideR HS
  have z0 : (0 : Int) < ((bs l).size : Int) := by omega
  have z3 : ¬ (bs l)[0].toNat = 45 := fun h => hg (UInt8.toNat_inj.1 h)
  have z1 : ((n : Int) == 0) = false := by simp; omega
  have z5 : (n : Int) ≤ ((bs l).size : Int) := by omega
  have z6 : n ≤ (bs l).size := by omega
  have y0 : (0 : Int) < ((bs rs).size : Int) := by omega
  have yk : ((k : Int) == 0) = false := by simp; omega
  have yw : IntKind.i64.wrap ((k : Int) + 1) = (k : Int) + 1 := by rw [IntKind.wrap_i64]; omega
  have ye : (((k : Int) + 1) == ((bs rs).size : Int)) = false := by simp; omega
  rcases hnz with z2 | ⟨z2, z9⟩
  all_goals (
    have z2 := Int.ofNat_le.2 z2
    go_enter Tryd.func48, Tryd.ntmps48
    go_wp2_with fail
    go_at_call 83
    refine (HR.out _).mono ?_
    rintro e w1 ⟨rfl, rfl⟩
    go_wp2_with fail
    go_at_call 83
    refine (HS.out _).mono ?_
    rintro e w1 ⟨rfl, rfl⟩
    go_wp2_with fail
    exact bodyPost_ret (v := .tuple #[.agg #[.int .i64 0, .int .i64 0], .int .i64 13]) (by simp [results, Tryd.results48, go_sem]) rfl ⟨rfl, by first | exact bel1 w _ | exact (bel1 w _).setCell (Nat.le_refl _) _ | exact ((bel1 w _).setCell (Nat.le_refl _) _).setCell (Nat.le_refl _) _⟩)

set_option maxRecDepth 100000 in
set_option maxHeartbeats 1000000 in
theorem rp_endD0F (l : List UInt8) (hd rs : List UInt8) (n k : Nat) (h0 : 0 < (bs l).size)
    (hl : (bs l).size ≤ 9223372036854775806)
    (hg : ¬ (bs l)[0] = 45)
    (HR : ∀ w, Calls Tryd.prog 83 #[.string (bs l), .int .i64 0] w fun e w' => e = .returned (.int .i64 n) ∧ w' = w)
    (hn : 0 < n)
    (hn2 : 0 + n ≤ (bs l).size)
    (hnz : n ≤ 1 ∨ 1 < n ∧ ((((bs l)[0]'(by omega)).toNat : Int) == 48) = false)
    (hh : (bs l).extract 0 n = bs hd)
    (hr : (bs l).extract n (bs l).size = bs rs)
    (HS : ∀ w, Calls Tryd.prog 83 #[.string (bs rs), .int .i64 1] w fun e w' => e = .returned (.int .i64 k) ∧ w' = w)
    (he : rs.isEmpty = false)
    (hs : 0 < (bs rs).size)
    (hsl : (bs rs).size ≤ 9223372036854775806)
    (hc : (bs rs)[0]'hs = 46)
    (hk : k = 0) (w : World) :
    Calls Tryd.prog 48 #[.string (bs l)] w fun e w' => e = .returned (.tuple #[.agg #[.int .i64 0, .int .i64 0], .int .i64 13]) ∧ Below w.heap.size w w' := by
  have HR := hideR HR
  have HS := hideR HS
  have z0 : (0 : Int) < ((bs l).size : Int) := by omega
  have z3 : ¬ (bs l)[0].toNat = 45 := fun h => hg (UInt8.toNat_inj.1 h)
  have z1 : ((n : Int) == 0) = false := by simp; omega
  have z5 : (n : Int) ≤ ((bs l).size : Int) := by omega
  have z6 : n ≤ (bs l).size := by omega
  have y0 : (0 : Int) < ((bs rs).size : Int) := by omega
  have yk : ((k : Int) == 0) = true := by rw [hk]; rfl
  rcases hnz with z2 | ⟨z2, z9⟩
  all_goals (
    have z2 := Int.ofNat_le.2 z2
    go_enter Tryd.func48, Tryd.ntmps48
    go_wp2_with fail
    go_at_call 83
    refine (HR.out _).mono ?_
    rintro e w1 ⟨rfl, rfl⟩
    go_wp2_with fail
    go_at_call 83
    refine (HS.out _).mono ?_
    rintro e w1 ⟨rfl, rfl⟩
    go_wp2_with fail
    exact bodyPost_ret (v := .tuple #[.agg #[.int .i64 0, .int .i64 0], .int .i64 13]) (by simp [results, Tryd.results48, go_sem]) rfl ⟨rfl, by first | exact bel1 w _ | exact (bel1 w _).setCell (Nat.le_refl _) _ | exact ((bel1 w _).setCell (Nat.le_refl _) _).setCell (Nat.le_refl _) _⟩)

set_option maxRecDepth 100000 in
set_option maxHeartbeats 1000000 in
theorem rp_endD1F (l : List UInt8) (hd rs : List UInt8) (n k : Nat) (h0 : 0 < (bs l).size)
    (hl : (bs l).size ≤ 9223372036854775806)
    (hg : ¬ (bs l)[0] = 45)
    (HR : ∀ w, Calls Tryd.prog 83 #[.string (bs l), .int .i64 0] w fun e w' => e = .returned (.int .i64 n) ∧ w' = w)
    (hn : 0 < n)
    (hn2 : 0 + n ≤ (bs l).size)
    (hnz : n ≤ 1 ∨ 1 < n ∧ ((((bs l)[0]'(by omega)).toNat : Int) == 48) = false)
    (hh : (bs l).extract 0 n = bs hd)
    (hr : (bs l).extract n (bs l).size = bs rs)
    (HS : ∀ w, Calls Tryd.prog 83 #[.string (bs rs), .int .i64 1] w fun e w' => e = .returned (.int .i64 k) ∧ w' = w)
    (he : rs.isEmpty = false)
    (hs : 0 < (bs rs).size)
    (hsl : (bs rs).size ≤ 9223372036854775806)
    (hc : (bs rs)[0]'hs = 46)
    (hk : 0 < k) (hk2 : k + 1 < (bs rs).size) (w : World) :
    Calls Tryd.prog 48 #[.string (bs l)] w fun e w' => e = .returned (.tuple #[.agg #[.int .i64 0, .int .i64 0], .int .i64 13]) ∧ Below w.heap.size w w' := by
  have HR := hideR HR
  have HS := hideR HS
  have z0 : (0 : Int) < ((bs l).size : Int) := by omega
  have z3 : ¬ (bs l)[0].toNat = 45 := fun h => hg (UInt8.toNat_inj.1 h)
  have z1 : ((n : Int) == 0) = false := by simp; omega
  have z5 : (n : Int) ≤ ((bs l).size : Int) := by omega
  have z6 : n ≤ (bs l).size := by omega
  have y0 : (0 : Int) < ((bs rs).size : Int) := by omega
  have yk : ((k : Int) == 0) = false := by simp; omega
  have yw : IntKind.i64.wrap ((k : Int) + 1) = (k : Int) + 1 := by rw [IntKind.wrap_i64]; omega
  have ye : (((k : Int) + 1) == ((bs rs).size : Int)) = false := by simp; omega
  rcases hnz with z2 | ⟨z2, z9⟩
  all_goals (
    have z2 := Int.ofNat_le.2 z2
    go_enter Tryd.func48, Tryd.ntmps48
    go_wp2_with fail
    go_at_call 83
    refine (HR.out _).mono ?_
    rintro e w1 ⟨rfl, rfl⟩
    go_wp2_with fail
    go_at_call 83
    refine (HS.out _).mono ?_
    rintro e w1 ⟨rfl, rfl⟩
    go_wp2_with fail
    exact bodyPost_ret (v := .tuple #[.agg #[.int .i64 0, .int .i64 0], .int .i64 13]) (by simp [results, Tryd.results48, go_sem]) rfl ⟨rfl, by first | exact bel1 w _ | exact (bel1 w _).setCell (Nat.le_refl _) _ | exact ((bel1 w _).setCell (Nat.le_refl _) _).setCell (Nat.le_refl _) _⟩)

set_option maxRecDepth 100000 in
set_option maxHeartbeats 1000000 in
theorem rp_endO0T (l : List UInt8) (hd rs : List UInt8) (q n k : Nat) (h0 : 0 < (bs l).size)
    (hl : (bs l).size ≤ 9223372036854775806)
    (hg : (bs l)[0] = 45)
    (HR : ∀ w, Calls Tryd.prog 83 #[.string (bs l), .int .i64 1] w fun e w' => e = .returned (.int .i64 n) ∧ w' = w)
    (hn : 0 < n)
    (hn2 : 1 + n ≤ (bs l).size)
    (hnz : n ≤ 1 ∨ 1 < n ∧ ((((bs l)[1]'(by omega)).toNat : Int) == 48) = false)
    (hq : (1 : Int) + (n : Int) = (q : Int))
    (hh : (bs l).extract 1 q = bs hd)
    (hr : (bs l).extract q (bs l).size = bs rs)
    (HS : ∀ w, Calls Tryd.prog 83 #[.string (bs rs), .int .i64 1] w fun e w' => e = .returned (.int .i64 k) ∧ w' = w)
    (he : rs.isEmpty = false)
    (hs : 0 < (bs rs).size)
    (hsl : (bs rs).size ≤ 9223372036854775806)
    (hc : (bs rs)[0]'hs = 47)
    (hk : k = 0) (w : World) :
    Calls Tryd.prog 48 #[.string (bs l)] w fun e w' => e = .returned (.tuple #[.agg #[.int .i64 0, .int .i64 0], .int .i64 13]) ∧ Below w.heap.size w w' := by
  have HR := hideR HR
  have HS := hideR HS
  have z0 : (0 : Int) < ((bs l).size : Int) := by omega
  have z1 : ((n : Int) == 0) = false := by simp; omega
  have z5 : (q : Int) ≤ ((bs l).size : Int) := by omega
  have z51 : q ≤ (bs l).size := by omega
  have z52 : (1 : Int) ≤ (q : Int) := by omega
  have z53 : 1 ≤ q := by omega
  have z6 : (1 : Int) < ((bs l).size : Int) := by omega
  have z7 : 1 < (bs l).size := by omega
  have y0 : (0 : Int) < ((bs rs).size : Int) := by omega
  have yk : ((k : Int) == 0) = true := by rw [hk]; rfl
  rcases hnz with z2 | ⟨z2, z9⟩
  all_goals (
    have z2 := Int.ofNat_le.2 z2
    go_enter Tryd.func48, Tryd.ntmps48
    go_wp2_with fail
    go_at_call 83
    refine (HR.out _).mono ?_
    rintro e w1 ⟨rfl, rfl⟩
    go_wp2_with fail
    go_at_call 83
    refine (HS.out _).mono ?_
    rintro e w1 ⟨rfl, rfl⟩
    go_wp2_with fail
    exact bodyPost_ret (v := .tuple #[.agg #[.int .i64 0, .int .i64 0], .int .i64 13]) (by simp [results, Tryd.results48, go_sem]) rfl ⟨rfl, by first | exact bel1 w _ | exact (bel1 w _).setCell (Nat.le_refl _) _ | exact ((bel1 w _).setCell (Nat.le_refl _) _).setCell (Nat.le_refl _) _⟩)

set_option maxRecDepth 100000 in
set_option maxHeartbeats 1000000 in
theorem rp_endO1T (l : List UInt8) (hd rs : List UInt8) (q n k : Nat) (h0 : 0 < (bs l).size)
    (hl : (bs l).size ≤ 9223372036854775806)
    (hg : (bs l)[0] = 45)
    (HR : ∀ w, Calls Tryd.prog 83 #[.string (bs l), .int .i64 1] w fun e w' => e = .returned (.int .i64 n) ∧ w' = w)
    (hn : 0 < n)
    (hn2 : 1 + n ≤ (bs l).size)
    (hnz : n ≤ 1 ∨ 1 < n ∧ ((((bs l)[1]'(by omega)).toNat : Int) == 48) = false)
    (hq : (1 : Int) + (n : Int) = (q : Int))
    (hh : (bs l).extract 1 q = bs hd)
    (hr : (bs l).extract q (bs l).size = bs rs)
    (HS : ∀ w, Calls Tryd.prog 83 #[.string (bs rs), .int .i64 1] w fun e w' => e = .returned (.int .i64 k) ∧ w' = w)
    (he : rs.isEmpty = false)
    (hs : 0 < (bs rs).size)
    (hsl : (bs rs).size ≤ 9223372036854775806)
    (hc : (bs rs)[0]'hs = 47)
    (hk : 0 < k) (hk2 : k + 1 < (bs rs).size) (w : World) :
    Calls Tryd.prog 48 #[.string (bs l)] w fun e w' => e = .returned (.tuple #[.agg #[.int .i64 0, .int .i64 0], .int .i64 13]) ∧ Below w.heap.size w w' := by
  have HR := hideR HR
  have HS := hideR HS
  have z0 : (0 : Int) < ((bs l).size : Int) := by omega
  have z1 : ((n : Int) == 0) = false := by simp; omega
  have z5 : (q : Int) ≤ ((bs l).size : Int) := by omega
  have z51 : q ≤ (bs l).size := by omega
  have z52 : (1 : Int) ≤ (q : Int) := by omega
  have z53 : 1 ≤ q := by omega
  have z6 : (1 : Int) < ((bs l).size : Int) := by omega
  have z7 : 1 < (bs l).size := by omega
  have y0 : (0 : Int) < ((bs rs).size : Int) := by omega
  have yk : ((k : Int) == 0) = false := by simp; omega
  have yw : IntKind.i64.wrap ((k : Int) + 1) = (k : Int) + 1 := by rw [IntKind.wrap_i64]; omega
  have ye : (((k : Int) + 1) == ((bs rs).size : Int)) = false := by simp; omega
  rcases hnz with z2 | ⟨z2, z9⟩
  all_goals (
    have z2 := Int.ofNat_le.2 z2
    go_enter Tryd.func48, Tryd.ntmps48
    go_wp2_with fail
    go_at_call 83
    refine (HR.out _).mono ?_
    rintro e w1 ⟨rfl, rfl⟩
    go_wp2_with fail
    go_at_call 83
    refine (HS.out _).mono ?_
    rintro e w1 ⟨rfl, rfl⟩
    go_wp2_with fail
    exact bodyPost_ret (v := .tuple #[.agg #[.int .i64 0, .int .i64 0], .int .i64 13]) (by simp [results, Tryd.results48, go_sem]) rfl ⟨rfl, by first | exact bel1 w _ | exact (bel1 w _).setCell (Nat.le_refl _) _ | exact ((bel1 w _).setCell (Nat.le_refl _) _).setCell (Nat.le_refl _) _⟩)

set_option maxRecDepth 100000 in
set_option maxHeartbeats 1000000 in
theorem rp_endD0T (l : List UInt8) (hd rs : List UInt8) (q n k : Nat) (h0 : 0 < (bs l).size)
    (hl : (bs l).size ≤ 9223372036854775806)
    (hg : (bs l)[0] = 45)
    (HR : ∀ w, Calls Tryd.prog 83 #[.string (bs l), .int .i64 1] w fun e w' => e = .returned (.int .i64 n) ∧ w' = w)
    (hn : 0 < n)
    (hn2 : 1 + n ≤ (bs l).size)
    (hnz : n ≤ 1 ∨ 1 < n ∧ ((((bs l)[1]'(by omega)).toNat : Int) == 48) = false)
    (hq : (1 : Int) + (n : Int) = (q : Int))
    (hh : (bs l).extract 1 q = bs hd)
    (hr : (bs l).extract q (bs l).size = bs rs)
    (HS : ∀ w, Calls Tryd.prog 83 #[.string (bs rs), .int .i64 1] w fun e w' => e = .returned (.int .i64 k) ∧ w' = w)
    (he : rs.isEmpty = false)
    (hs : 0 < (bs rs).size)
    (hsl : (bs rs).size ≤ 9223372036854775806)
    (hc : (bs rs)[0]'hs = 46)
    (hk : k = 0) (w : World) :
    Calls Tryd.prog 48 #[.string (bs l)] w fun e w' => e = .returned (.tuple #[.agg #[.int .i64 0, .int .i64 0], .int .i64 13]) ∧ Below w.heap.size w w' := by
  have HR := hideR HR
  have HS := hideR HS
  have z0 : (0 : Int) < ((bs l).size : Int) := by omega
  have z1 : ((n : Int) == 0) = false := by simp; omega
  have z5 : (q : Int) ≤ ((bs l).size : Int) := by omega
  have z51 : q ≤ (bs l).size := by omega
  have z52 : (1 : Int) ≤ (q : Int) := by omega
  have z53 : 1 ≤ q := by omega
  have z6 : (1 : Int) < ((bs l).size : Int) := by omega
  have z7 : 1 < (bs l).size := by omega
  have y0 : (0 : Int) < ((bs rs).size : Int) := by omega
  have yk : ((k : Int) == 0) = true := by rw [hk]; rfl
  rcases hnz with z2 | ⟨z2, z9⟩
  all_goals (
    have z2 := Int.ofNat_le.2 z2
    go_enter Tryd.func48, Tryd.ntmps48
    go_wp2_with fail
    go_at_call 83
    refine (HR.out _).mono ?_
    rintro e w1 ⟨rfl, rfl⟩
    go_wp2_with fail
    go_at_call 83
    refine (HS.out _).mono ?_
    rintro e w1 ⟨rfl, rfl⟩
    go_wp2_with fail
    exact bodyPost_ret (v := .tuple #[.agg #[.int .i64 0, .int .i64 0], .int .i64 13]) (by simp [results, Tryd.results48, go_sem]) rfl ⟨rfl, by first | exact bel1 w _ | exact (bel1 w _).setCell (Nat.le_refl _) _ | exact ((bel1 w _).setCell (Nat.le_refl _) _).setCell (Nat.le_refl _) _⟩)

set_option maxRecDepth 100000 in
set_option maxHeartbeats 1000000 in
theorem rp_endD1T (l : List UInt8) (hd rs : List UInt8) (q n k : Nat) (h0 : 0 < (bs l).size)
    (hl : (bs l).size ≤ 9223372036854775806)
    (hg : (bs l)[0] = 45)
    (HR : ∀ w, Calls Tryd.prog 83 #[.string (bs l), .int .i64 1] w fun e w' => e = .returned (.int .i64 n) ∧ w' = w)
    (hn : 0 < n)
    (hn2 : 1 + n ≤ (bs l).size)
    (hnz : n ≤ 1 ∨ 1 < n ∧ ((((bs l)[1]'(by omega)).toNat : Int) == 48) = false)
    (hq : (1 : Int) + (n : Int) = (q : Int))
    (hh : (bs l).extract 1 q = bs hd)
    (hr : (bs l).extract q (bs l).size = bs rs)
    (HS : ∀ w, Calls Tryd.prog 83 #[.string (bs rs), .int .i64 1] w fun e w' => e = .returned (.int .i64 k) ∧ w' = w)
    (he : rs.isEmpty = false)
    (hs : 0 < (bs rs).size)
    (hsl : (bs rs).size ≤ 9223372036854775806)
    (hc : (bs rs)[0]'hs = 46)
    (hk : 0 < k) (hk2 : k + 1 < (bs rs).size) (w : World) :
    Calls Tryd.prog 48 #[.string (bs l)] w fun e w' => e = .returned (.tuple #[.agg #[.int .i64 0, .int .i64 0], .int .i64 13]) ∧ Below w.heap.size w w' := by
  have HR := hideR HR
  have HS := hideR HS
  have z0 : (0 : Int) < ((bs l).size : Int) := by omega
  have z1 : ((n : Int) == 0) = false := by simp; omega
  have z5 : (q : Int) ≤ ((bs l).size : Int) := by omega
  have z51 : q ≤ (bs l).size := by omega
  have z52 : (1 : Int) ≤ (q : Int) := by omega
  have z53 : 1 ≤ q := by omega
  have z6 : (1 : Int) < ((bs l).size : Int) := by omega
  have z7 : 1 < (bs l).size := by omega
  have y0 : (0 : Int) < ((bs rs).size : Int) := by omega
  have yk : ((k : Int) == 0) = false := by simp; omega
  have yw : IntKind.i64.wrap ((k : Int) + 1) = (k : Int) + 1 := by rw [IntKind.wrap_i64]; omega
  have ye : (((k : Int) + 1) == ((bs rs).size : Int)) = false := by simp; omega
  rcases hnz with z2 | ⟨z2, z9⟩
  all_goals (
    have z2 := Int.ofNat_le.2 z2
    go_enter Tryd.func48, Tryd.ntmps48
    go_wp2_with fail
    go_at_call 83
    refine (HR.out _).mono ?_
    rintro e w1 ⟨rfl, rfl⟩
    go_wp2_with fail
    go_at_call 83
    refine (HS.out _).mono ?_
    rintro e w1 ⟨rfl, rfl⟩
    go_wp2_with fail
    exact bodyPost_ret (v := .tuple #[.agg #[.int .i64 0, .int .i64 0], .int .i64 13]) (by simp [results, Tryd.results48, go_sem]) rfl ⟨rfl, by first | exact bel1 w _ | exact (bel1 w _).setCell (Nat.le_refl _) _ | exact ((bel1 w _).setCell (Nat.le_refl _) _).setCell (Nat.le_refl _) _⟩)

set_option maxRecDepth 100000 in
set_option maxHeartbeats 1000000 in
theorem rp_overNoughtF (l : List UInt8) (hd rs m : List UInt8) (n k : Nat) (h0 : 0 < (bs l).size)
    (hl : (bs l).size ≤ 9223372036854775806)
    (hg : ¬ (bs l)[0] = 45)
    (HR : ∀ w, Calls Tryd.prog 83 #[.string (bs l), .int .i64 0] w fun e w' => e = .returned (.int .i64 n) ∧ w' = w)
    (hn : 0 < n)
    (hn2 : 0 + n ≤ (bs l).size)
    (hnz : n ≤ 1 ∨ 1 < n ∧ ((((bs l)[0]'(by omega)).toNat : Int) == 48) = false)
    (hh : (bs l).extract 0 n = bs hd)
    (hr : (bs l).extract n (bs l).size = bs rs)
    (HS : ∀ w, Calls Tryd.prog 83 #[.string (bs rs), .int .i64 1] w fun e w' => e = .returned (.int .i64 k) ∧ w' = w)
    (he : rs.isEmpty = false)
    (hs : 0 < (bs rs).size)
    (hsl : (bs rs).size ≤ 9223372036854775806)
    (hc : (bs rs)[0]'hs = 47)
    (hk : 0 < k) (hk2 : k + 1 = (bs rs).size)
    (hm : (bs rs).extract 1 (bs rs).size = bs m) (hms : 0 < (bs m).size)
    (hk1 : 1 < k) (hmz : ((bs m)[0]'hms) = 48) (w : World) :
    Calls Tryd.prog 48 #[.string (bs l)] w fun e w' => e = .returned (.tuple #[.agg #[.int .i64 0, .int .i64 0], .int .i64 13]) ∧ Below w.heap.size w w' := by
  have HR := hideR HR
  have HS := hideR HS
  have z0 : (0 : Int) < ((bs l).size : Int) := by omega
  have z3 : ¬ (bs l)[0].toNat = 45 := fun h => hg (UInt8.toNat_inj.1 h)
  have z1 : ((n : Int) == 0) = false := by simp; omega
  have z5 : (n : Int) ≤ ((bs l).size : Int) := by omega
  have z6 : n ≤ (bs l).size := by omega
  have y0 : (0 : Int) < ((bs rs).size : Int) := by omega
  have yk : ((k : Int) == 0) = false := by simp; omega
  have yw : IntKind.i64.wrap ((k : Int) + 1) = (k : Int) + 1 := by rw [IntKind.wrap_i64]; omega
  have ye : (((k : Int) + 1) == ((bs rs).size : Int)) = true := by simp; omega
  have y3 : (1 : Int) ≤ ((bs rs).size : Int) := by omega
  have y4 : 1 ≤ (bs rs).size := by omega
  have y5 : (0 : Int) < ((bs m).size : Int) := by omega
  have y2 : (1 : Int) < (k : Int) := by omega
  rcases hnz with z2 | ⟨z2, z9⟩
  all_goals (
    have z2 := Int.ofNat_le.2 z2
    go_enter Tryd.func48, Tryd.ntmps48
    go_wp2_with fail
    go_at_call 83
    refine (HR.out _).mono ?_
    rintro e w1 ⟨rfl, rfl⟩
    go_wp2_with fail
    go_at_call 83
    refine (HS.out _).mono ?_
    rintro e w1 ⟨rfl, rfl⟩
    go_wp2_with fail
    exact bodyPost_ret (v := .tuple #[.agg #[.int .i64 0, .int .i64 0], .int .i64 13]) (by simp [results, Tryd.results48, go_sem]) rfl ⟨rfl, by first | exact bel1 w _ | exact (bel1 w _).setCell (Nat.le_refl _) _ | exact ((bel1 w _).setCell (Nat.le_refl _) _).setCell (Nat.le_refl _) _⟩)

set_option maxRecDepth 100000 in
set_option maxHeartbeats 1000000 in
theorem rp_pointLongF (l : List UInt8) (hd rs m : List UInt8) (n k : Nat) (h0 : 0 < (bs l).size)
    (hl : (bs l).size ≤ 9223372036854775806)
    (hg : ¬ (bs l)[0] = 45)
    (HR : ∀ w, Calls Tryd.prog 83 #[.string (bs l), .int .i64 0] w fun e w' => e = .returned (.int .i64 n) ∧ w' = w)
    (hn : 0 < n)
    (hn2 : 0 + n ≤ (bs l).size)
    (hnz : n ≤ 1 ∨ 1 < n ∧ ((((bs l)[0]'(by omega)).toNat : Int) == 48) = false)
    (hh : (bs l).extract 0 n = bs hd)
    (hr : (bs l).extract n (bs l).size = bs rs)
    (HS : ∀ w, Calls Tryd.prog 83 #[.string (bs rs), .int .i64 1] w fun e w' => e = .returned (.int .i64 k) ∧ w' = w)
    (he : rs.isEmpty = false)
    (hs : 0 < (bs rs).size)
    (hsl : (bs rs).size ≤ 9223372036854775806)
    (hc : (bs rs)[0]'hs = 46)
    (hk : 0 < k) (hk2 : k + 1 = (bs rs).size)
    (hm : (bs rs).extract 1 (bs rs).size = bs m) (hms : 0 < (bs m).size)
    (hk9 : 9 < k) (w : World) :
    Calls Tryd.prog 48 #[.string (bs l)] w fun e w' => e = .returned (.tuple #[.agg #[.int .i64 0, .int .i64 0], .int .i64 13]) ∧ Below w.heap.size w w' := by
  have HR := hideR HR
  have HS := hideR HS
  have z0 : (0 : Int) < ((bs l).size : Int) := by omega
  have z3 : ¬ (bs l)[0].toNat = 45 := fun h => hg (UInt8.toNat_inj.1 h)
  have z1 : ((n : Int) == 0) = false := by simp; omega
  have z5 : (n : Int) ≤ ((bs l).size : Int) := by omega
  have z6 : n ≤ (bs l).size := by omega
  have y0 : (0 : Int) < ((bs rs).size : Int) := by omega
  have yk : ((k : Int) == 0) = false := by simp; omega
  have yw : IntKind.i64.wrap ((k : Int) + 1) = (k : Int) + 1 := by rw [IntKind.wrap_i64]; omega
  have ye : (((k : Int) + 1) == ((bs rs).size : Int)) = true := by simp; omega
  have y3 : (1 : Int) ≤ ((bs rs).size : Int) := by omega
  have y4 : 1 ≤ (bs rs).size := by omega
  have y5 : (0 : Int) < ((bs m).size : Int) := by omega
  have y6 : (9 : Int) < (k : Int) := by omega
  rcases hnz with z2 | ⟨z2, z9⟩
  all_goals (
    have z2 := Int.ofNat_le.2 z2
    go_enter Tryd.func48, Tryd.ntmps48
    go_wp2_with fail
    go_at_call 83
    refine (HR.out _).mono ?_
    rintro e w1 ⟨rfl, rfl⟩
    go_wp2_with fail
    go_at_call 83
    refine (HS.out _).mono ?_
    rintro e w1 ⟨rfl, rfl⟩
    go_wp2_with fail
    exact bodyPost_ret (v := .tuple #[.agg #[.int .i64 0, .int .i64 0], .int .i64 13]) (by simp [results, Tryd.results48, go_sem]) rfl ⟨rfl, by first | exact bel1 w _ | exact (bel1 w _).setCell (Nat.le_refl _) _ | exact ((bel1 w _).setCell (Nat.le_refl _) _).setCell (Nat.le_refl _) _⟩)

set_option maxRecDepth 100000 in
set_option maxHeartbeats 1000000 in
theorem rp_plain12F (l : List UInt8) (hd rs : List UInt8) (n : Nat) (h0 : 0 < (bs l).size)
    (hl : (bs l).size ≤ 9223372036854775806)
    (hg : ¬ (bs l)[0] = 45)
    (HR : ∀ w, Calls Tryd.prog 83 #[.string (bs l), .int .i64 0] w fun e w' => e = .returned (.int .i64 n) ∧ w' = w)
    (hn : 0 < n)
    (hn2 : 0 + n ≤ (bs l).size)
    (hnz : n ≤ 1 ∨ 1 < n ∧ ((((bs l)[0]'(by omega)).toNat : Int) == 48) = false)
    (hh : (bs l).extract 0 n = bs hd)
    (hr : (bs l).extract n (bs l).size = bs rs)
    (he : rs.isEmpty = true)
    (hw : 19 < (bs hd).size) (w : World) :
    Calls Tryd.prog 48 #[.string (bs l)] w fun e w' => e = .returned (.tuple #[.agg #[.int .i64 0, .int .i64 0], .int .i64 12]) ∧ Below w.heap.size w w' := by
  have HR := hideR HR
  have z0 : (0 : Int) < ((bs l).size : Int) := by omega
  have z3 : ¬ (bs l)[0].toNat = 45 := fun h => hg (UInt8.toNat_inj.1 h)
  have z1 : ((n : Int) == 0) = false := by simp; omega
  have z5 : (n : Int) ≤ ((bs l).size : Int) := by omega
  have z6 : n ≤ (bs l).size := by omega
  have x1 : (19 : Int) < ((bs hd).size : Int) := by omega
  rcases hnz with z2 | ⟨z2, z9⟩
  all_goals (
    have z2 := Int.ofNat_le.2 z2
    go_enter Tryd.func48, Tryd.ntmps48
    go_wp2_with fail
    go_at_call 83
    refine (HR.out _).mono ?_
    rintro e w1 ⟨rfl, rfl⟩
    go_wp2_with fail
    exact bodyPost_ret (v := .tuple #[.agg #[.int .i64 0, .int .i64 0], .int .i64 12]) (by simp [results, Tryd.results48, go_sem]) rfl ⟨rfl, by first | exact bel1 w _ | exact (bel1 w _).setCell (Nat.le_refl _) _ | exact ((bel1 w _).setCell (Nat.le_refl _) _).setCell (Nat.le_refl _) _⟩)

set_option maxRecDepth 100000 in
set_option maxHeartbeats 1000000 in
theorem rp_over12aF (l : List UInt8) (hd rs m : List UInt8) (n k : Nat) (h0 : 0 < (bs l).size)
    (hl : (bs l).size ≤ 9223372036854775806)
    (hg : ¬ (bs l)[0] = 45)
    (HR : ∀ w, Calls Tryd.prog 83 #[.string (bs l), .int .i64 0] w fun e w' => e = .returned (.int .i64 n) ∧ w' = w)
    (hn : 0 < n)
    (hn2 : 0 + n ≤ (bs l).size)
    (hnz : n ≤ 1 ∨ 1 < n ∧ ((((bs l)[0]'(by omega)).toNat : Int) == 48) = false)
    (hh : (bs l).extract 0 n = bs hd)
    (hr : (bs l).extract n (bs l).size = bs rs)
    (HS : ∀ w, Calls Tryd.prog 83 #[.string (bs rs), .int .i64 1] w fun e w' => e = .returned (.int .i64 k) ∧ w' = w)
    (he : rs.isEmpty = false)
    (hs : 0 < (bs rs).size)
    (hsl : (bs rs).size ≤ 9223372036854775806)
    (hc : (bs rs)[0]'hs = 47)
    (hk : 0 < k) (hk2 : k + 1 = (bs rs).size)
    (hm : (bs rs).extract 1 (bs rs).size = bs m) (hms : 0 < (bs m).size)
    (hmz : k ≤ 1 ∨ 1 < k ∧ ((((bs m)[0]'hms).toNat : Int) == 48) = false)
    (hw : 19 < (bs hd).size) (w : World) :
    Calls Tryd.prog 48 #[.string (bs l)] w fun e w' => e = .returned (.tuple #[.agg #[.int .i64 0, .int .i64 0], .int .i64 12]) ∧ Below w.heap.size w w' := by
  have HR := hideR HR
  have HS := hideR HS
  have z0 : (0 : Int) < ((bs l).size : Int) := by omega
  have z3 : ¬ (bs l)[0].toNat = 45 := fun h => hg (UInt8.toNat_inj.1 h)
  have z1 : ((n : Int) == 0) = false := by simp; omega
  have z5 : (n : Int) ≤ ((bs l).size : Int) := by omega
  have z6 : n ≤ (bs l).size := by omega
  have y0 : (0 : Int) < ((bs rs).size : Int) := by omega
  have yk : ((k : Int) == 0) = false := by simp; omega
  have yw : IntKind.i64.wrap ((k : Int) + 1) = (k : Int) + 1 := by rw [IntKind.wrap_i64]; omega
  have ye : (((k : Int) + 1) == ((bs rs).size : Int)) = true := by simp; omega
  have y3 : (1 : Int) ≤ ((bs rs).size : Int) := by omega
  have y4 : 1 ≤ (bs rs).size := by omega
  have y5 : (0 : Int) < ((bs m).size : Int) := by omega
  have x1 : (19 : Int) < ((bs hd).size : Int) := by omega
  rcases hnz with z2 | ⟨z2, z9⟩
  all_goals rcases hmz with y2 | ⟨y2, y9⟩
  all_goals (
    have z2 := Int.ofNat_le.2 z2
    have y2 := Int.ofNat_le.2 y2
    go_enter Tryd.func48, Tryd.ntmps48
    go_wp2_with fail
    go_at_call 83
    refine (HR.out _).mono ?_
    rintro e w1 ⟨rfl, rfl⟩
    go_wp2_with fail
    go_at_call 83
    refine (HS.out _).mono ?_
    rintro e w1 ⟨rfl, rfl⟩
    go_wp2_with fail
    exact bodyPost_ret (v := .tuple #[.agg #[.int .i64 0, .int .i64 0], .int .i64 12]) (by simp [results, Tryd.results48, go_sem]) rfl ⟨rfl, by first | exact bel1 w _ | exact (bel1 w _).setCell (Nat.le_refl _) _ | exact ((bel1 w _).setCell (Nat.le_refl _) _).setCell (Nat.le_refl _) _⟩)

set_option maxRecDepth 100000 in
set_option maxHeartbeats 1000000 in
theorem rp_over12bF (l : List UInt8) (hd rs m : List UInt8) (n k : Nat) (h0 : 0 < (bs l).size)
    (hl : (bs l).size ≤ 9223372036854775806)
    (hg : ¬ (bs l)[0] = 45)
    (HR : ∀ w, Calls Tryd.prog 83 #[.string (bs l), .int .i64 0] w fun e w' => e = .returned (.int .i64 n) ∧ w' = w)
    (hn : 0 < n)
    (hn2 : 0 + n ≤ (bs l).size)
    (hnz : n ≤ 1 ∨ 1 < n ∧ ((((bs l)[0]'(by omega)).toNat : Int) == 48) = false)
    (hh : (bs l).extract 0 n = bs hd)
    (hr : (bs l).extract n (bs l).size = bs rs)
    (HS : ∀ w, Calls Tryd.prog 83 #[.string (bs rs), .int .i64 1] w fun e w' => e = .returned (.int .i64 k) ∧ w' = w)
    (he : rs.isEmpty = false)
    (hs : 0 < (bs rs).size)
    (hsl : (bs rs).size ≤ 9223372036854775806)
    (hc : (bs rs)[0]'hs = 47)
    (hk : 0 < k) (hk2 : k + 1 = (bs rs).size)
    (hm : (bs rs).extract 1 (bs rs).size = bs m) (hms : 0 < (bs m).size)
    (hmz : k ≤ 1 ∨ 1 < k ∧ ((((bs m)[0]'hms).toNat : Int) == 48) = false)
    (hw : (bs hd).size ≤ 19)
    (hw2 : 19 < (bs m).size) (w : World) :
    Calls Tryd.prog 48 #[.string (bs l)] w fun e w' => e = .returned (.tuple #[.agg #[.int .i64 0, .int .i64 0], .int .i64 12]) ∧ Below w.heap.size w w' := by
  have HR := hideR HR
  have HS := hideR HS
  have z0 : (0 : Int) < ((bs l).size : Int) := by omega
  have z3 : ¬ (bs l)[0].toNat = 45 := fun h => hg (UInt8.toNat_inj.1 h)
  have z1 : ((n : Int) == 0) = false := by simp; omega
  have z5 : (n : Int) ≤ ((bs l).size : Int) := by omega
  have z6 : n ≤ (bs l).size := by omega
  have y0 : (0 : Int) < ((bs rs).size : Int) := by omega
  have yk : ((k : Int) == 0) = false := by simp; omega
  have yw : IntKind.i64.wrap ((k : Int) + 1) = (k : Int) + 1 := by rw [IntKind.wrap_i64]; omega
  have ye : (((k : Int) + 1) == ((bs rs).size : Int)) = true := by simp; omega
  have y3 : (1 : Int) ≤ ((bs rs).size : Int) := by omega
  have y4 : 1 ≤ (bs rs).size := by omega
  have y5 : (0 : Int) < ((bs m).size : Int) := by omega
  have x1 : ((bs hd).size : Int) ≤ 19 := by omega
  have x2 : (19 : Int) < ((bs m).size : Int) := by omega
  rcases hnz with z2 | ⟨z2, z9⟩
  all_goals rcases hmz with y2 | ⟨y2, y9⟩
  all_goals (
    have z2 := Int.ofNat_le.2 z2
    have y2 := Int.ofNat_le.2 y2
    go_enter Tryd.func48, Tryd.ntmps48
    go_wp2_with fail
    go_at_call 83
    refine (HR.out _).mono ?_
    rintro e w1 ⟨rfl, rfl⟩
    go_wp2_with fail
    go_at_call 83
    refine (HS.out _).mono ?_
    rintro e w1 ⟨rfl, rfl⟩
    go_wp2_with fail
    exact bodyPost_ret (v := .tuple #[.agg #[.int .i64 0, .int .i64 0], .int .i64 12]) (by simp [results, Tryd.results48, go_sem]) rfl ⟨rfl, by first | exact bel1 w _ | exact (bel1 w _).setCell (Nat.le_refl _) _ | exact ((bel1 w _).setCell (Nat.le_refl _) _).setCell (Nat.le_refl _) _⟩)

set_option maxRecDepth 100000 in
set_option maxHeartbeats 1000000 in
theorem rp_point12aF (l : List UInt8) (hd rs m : List UInt8) (n k : Nat) (h0 : 0 < (bs l).size)
    (hl : (bs l).size ≤ 9223372036854775806)
    (hg : ¬ (bs l)[0] = 45)
    (HR : ∀ w, Calls Tryd.prog 83 #[.string (bs l), .int .i64 0] w fun e w' => e = .returned (.int .i64 n) ∧ w' = w)
    (hn : 0 < n)
    (hn2 : 0 + n ≤ (bs l).size)
    (hnz : n ≤ 1 ∨ 1 < n ∧ ((((bs l)[0]'(by omega)).toNat : Int) == 48) = false)
    (hh : (bs l).extract 0 n = bs hd)
    (hr : (bs l).extract n (bs l).size = bs rs)
    (HS : ∀ w, Calls Tryd.prog 83 #[.string (bs rs), .int .i64 1] w fun e w' => e = .returned (.int .i64 k) ∧ w' = w)
    (he : rs.isEmpty = false)
    (hs : 0 < (bs rs).size)
    (hsl : (bs rs).size ≤ 9223372036854775806)
    (hc : (bs rs)[0]'hs = 46)
    (hk : 0 < k) (hk2 : k + 1 = (bs rs).size)
    (hm : (bs rs).extract 1 (bs rs).size = bs m) (hms : 0 < (bs m).size)
    (hk9 : k ≤ 9)
    (hw : 19 < (bs hd).size) (w : World) :
    Calls Tryd.prog 48 #[.string (bs l)] w fun e w' => e = .returned (.tuple #[.agg #[.int .i64 0, .int .i64 0], .int .i64 12]) ∧ Below w.heap.size w w' := by
  have HR := hideR HR
  have HS := hideR HS
  have z0 : (0 : Int) < ((bs l).size : Int) := by omega
  have z3 : ¬ (bs l)[0].toNat = 45 := fun h => hg (UInt8.toNat_inj.1 h)
  have z1 : ((n : Int) == 0) = false := by simp; omega
  have z5 : (n : Int) ≤ ((bs l).size : Int) := by omega
  have z6 : n ≤ (bs l).size := by omega
  have y0 : (0 : Int) < ((bs rs).size : Int) := by omega
  have yk : ((k : Int) == 0) = false := by simp; omega
  have yw : IntKind.i64.wrap ((k : Int) + 1) = (k : Int) + 1 := by rw [IntKind.wrap_i64]; omega
  have ye : (((k : Int) + 1) == ((bs rs).size : Int)) = true := by simp; omega
  have y3 : (1 : Int) ≤ ((bs rs).size : Int) := by omega
  have y4 : 1 ≤ (bs rs).size := by omega
  have y5 : (0 : Int) < ((bs m).size : Int) := by omega
  have y6 : ¬ (9 : Int) < (k : Int) := by omega
  have y61 : (k : Int) ≤ 9 := by omega
  have x1 : (19 : Int) < ((bs hd).size : Int) := by omega
  rcases hnz with z2 | ⟨z2, z9⟩
  all_goals (
    have z2 := Int.ofNat_le.2 z2
    go_enter Tryd.func48, Tryd.ntmps48
    go_wp2_with fail
    go_at_call 83
    refine (HR.out _).mono ?_
    rintro e w1 ⟨rfl, rfl⟩
    go_wp2_with fail
    go_at_call 83
    refine (HS.out _).mono ?_
    rintro e w1 ⟨rfl, rfl⟩
    go_wp2_with fail
    exact bodyPost_ret (v := .tuple #[.agg #[.int .i64 0, .int .i64 0], .int .i64 12]) (by simp [results, Tryd.results48, go_sem]) rfl ⟨rfl, by first | exact bel1 w _ | exact (bel1 w _).setCell (Nat.le_refl _) _ | exact ((bel1 w _).setCell (Nat.le_refl _) _).setCell (Nat.le_refl _) _⟩)

set_option maxRecDepth 100000 in
set_option maxHeartbeats 1000000 in
theorem rp_overNoughtT (l : List UInt8) (hd rs m : List UInt8) (q n k : Nat) (h0 : 0 < (bs l).size)
    (hl : (bs l).size ≤ 9223372036854775806)
    (hg : (bs l)[0] = 45)
    (HR : ∀ w, Calls Tryd.prog 83 #[.string (bs l), .int .i64 1] w fun e w' => e = .returned (.int .i64 n) ∧ w' = w)
    (hn : 0 < n)
    (hn2 : 1 + n ≤ (bs l).size)
    (hnz : n ≤ 1 ∨ 1 < n ∧ ((((bs l)[1]'(by omega)).toNat : Int) == 48) = false)
    (hq : (1 : Int) + (n : Int) = (q : Int))
    (hh : (bs l).extract 1 q = bs hd)
    (hr : (bs l).extract q (bs l).size = bs rs)
    (HS : ∀ w, Calls Tryd.prog 83 #[.string (bs rs), .int .i64 1] w fun e w' => e = .returned (.int .i64 k) ∧ w' = w)
    (he : rs.isEmpty = false)
    (hs : 0 < (bs rs).size)
    (hsl : (bs rs).size ≤ 9223372036854775806)
    (hc : (bs rs)[0]'hs = 47)
    (hk : 0 < k) (hk2 : k + 1 = (bs rs).size)
    (hm : (bs rs).extract 1 (bs rs).size = bs m) (hms : 0 < (bs m).size)
    (hk1 : 1 < k) (hmz : ((bs m)[0]'hms) = 48) (w : World) :
    Calls Tryd.prog 48 #[.string (bs l)] w fun e w' => e = .returned (.tuple #[.agg #[.int .i64 0, .int .i64 0], .int .i64 13]) ∧ Below w.heap.size w w' := by
  have HR := hideR HR
  have HS := hideR HS
  have z0 : (0 : Int) < ((bs l).size : Int) := by omega
  have z1 : ((n : Int) == 0) = false := by simp; omega
  have z5 : (q : Int) ≤ ((bs l).size : Int) := by omega
  have z51 : q ≤ (bs l).size := by omega
  have z52 : (1 : Int) ≤ (q : Int) := by omega
  have z53 : 1 ≤ q := by omega
  have z6 : (1 : Int) < ((bs l).size : Int) := by omega
  have z7 : 1 < (bs l).size := by omega
  have y0 : (0 : Int) < ((bs rs).size : Int) := by omega
  have yk : ((k : Int) == 0) = false := by simp; omega
  have yw : IntKind.i64.wrap ((k : Int) + 1) = (k : Int) + 1 := by rw [IntKind.wrap_i64]; omega
  have ye : (((k : Int) + 1) == ((bs rs).size : Int)) = true := by simp; omega
  have y3 : (1 : Int) ≤ ((bs rs).size : Int) := by omega
  have y4 : 1 ≤ (bs rs).size := by omega
  have y5 : (0 : Int) < ((bs m).size : Int) := by omega
  have y2 : (1 : Int) < (k : Int) := by omega
  rcases hnz with z2 | ⟨z2, z9⟩
  all_goals (
    have z2 := Int.ofNat_le.2 z2
    go_enter Tryd.func48, Tryd.ntmps48
    go_wp2_with fail
    go_at_call 83
    refine (HR.out _).mono ?_
    rintro e w1 ⟨rfl, rfl⟩
    go_wp2_with fail
    go_at_call 83
    refine (HS.out _).mono ?_
    rintro e w1 ⟨rfl, rfl⟩
    go_wp2_with fail
    exact bodyPost_ret (v := .tuple #[.agg #[.int .i64 0, .int .i64 0], .int .i64 13]) (by simp [results, Tryd.results48, go_sem]) rfl ⟨rfl, by first | exact bel1 w _ | exact (bel1 w _).setCell (Nat.le_refl _) _ | exact ((bel1 w _).setCell (Nat.le_refl _) _).setCell (Nat.le_refl _) _⟩)

set_option maxRecDepth 100000 in
set_option maxHeartbeats 1000000 in
theorem rp_pointLongT (l : List UInt8) (hd rs m : List UInt8) (q n k : Nat) (h0 : 0 < (bs l).size)
    (hl : (bs l).size ≤ 9223372036854775806)
    (hg : (bs l)[0] = 45)
    (HR : ∀ w, Calls Tryd.prog 83 #[.string (bs l), .int .i64 1] w fun e w' => e = .returned (.int .i64 n) ∧ w' = w)
    (hn : 0 < n)
    (hn2 : 1 + n ≤ (bs l).size)
    (hnz : n ≤ 1 ∨ 1 < n ∧ ((((bs l)[1]'(by omega)).toNat : Int) == 48) = false)
    (hq : (1 : Int) + (n : Int) = (q : Int))
    (hh : (bs l).extract 1 q = bs hd)
    (hr : (bs l).extract q (bs l).size = bs rs)
    (HS : ∀ w, Calls Tryd.prog 83 #[.string (bs rs), .int .i64 1] w fun e w' => e = .returned (.int .i64 k) ∧ w' = w)
    (he : rs.isEmpty = false)
    (hs : 0 < (bs rs).size)
    (hsl : (bs rs).size ≤ 9223372036854775806)
    (hc : (bs rs)[0]'hs = 46)
    (hk : 0 < k) (hk2 : k + 1 = (bs rs).size)
    (hm : (bs rs).extract 1 (bs rs).size = bs m) (hms : 0 < (bs m).size)
    (hk9 : 9 < k) (w : World) :
    Calls Tryd.prog 48 #[.string (bs l)] w fun e w' => e = .returned (.tuple #[.agg #[.int .i64 0, .int .i64 0], .int .i64 13]) ∧ Below w.heap.size w w' := by
  have HR := hideR HR
  have HS := hideR HS
  have z0 : (0 : Int) < ((bs l).size : Int) := by omega
  have z1 : ((n : Int) == 0) = false := by simp; omega
  have z5 : (q : Int) ≤ ((bs l).size : Int) := by omega
  have z51 : q ≤ (bs l).size := by omega
  have z52 : (1 : Int) ≤ (q : Int) := by omega
  have z53 : 1 ≤ q := by omega
  have z6 : (1 : Int) < ((bs l).size : Int) := by omega
  have z7 : 1 < (bs l).size := by omega
  have y0 : (0 : Int) < ((bs rs).size : Int) := by omega
  have yk : ((k : Int) == 0) = false := by simp; omega
  have yw : IntKind.i64.wrap ((k : Int) + 1) = (k : Int) + 1 := by rw [IntKind.wrap_i64]; omega
  have ye : (((k : Int) + 1) == ((bs rs).size : Int)) = true := by simp; omega
  have y3 : (1 : Int) ≤ ((bs rs).size : Int) := by omega
  have y4 : 1 ≤ (bs rs).size := by omega
  have y5 : (0 : Int) < ((bs m).size : Int) := by omega
  have y6 : (9 : Int) < (k : Int) := by omega
  rcases hnz with z2 | ⟨z2, z9⟩
  all_goals (
    have z2 := Int.ofNat_le.2 z2
    go_enter Tryd.func48, Tryd.ntmps48
    go_wp2_with fail
    go_at_call 83
    refine (HR.out _).mono ?_
    rintro e w1 ⟨rfl, rfl⟩
    go_wp2_with fail
    go_at_call 83
    refine (HS.out _).mono ?_
    rintro e w1 ⟨rfl, rfl⟩
    go_wp2_with fail
    exact bodyPost_ret (v := .tuple #[.agg #[.int .i64 0, .int .i64 0], .int .i64 13]) (by simp [results, Tryd.results48, go_sem]) rfl ⟨rfl, by first | exact bel1 w _ | exact (bel1 w _).setCell (Nat.le_refl _) _ | exact ((bel1 w _).setCell (Nat.le_refl _) _).setCell (Nat.le_refl _) _⟩)

set_option maxRecDepth 100000 in
set_option maxHeartbeats 1000000 in
theorem rp_plainZeroT (l : List UInt8) (hd rs : List UInt8) (q n : Nat) (h0 : 0 < (bs l).size)
    (hl : (bs l).size ≤ 9223372036854775806)
    (hg : (bs l)[0] = 45)
    (HR : ∀ w, Calls Tryd.prog 83 #[.string (bs l), .int .i64 1] w fun e w' => e = .returned (.int .i64 n) ∧ w' = w)
    (hn : 0 < n)
    (hn2 : 1 + n ≤ (bs l).size)
    (hnz : n ≤ 1 ∨ 1 < n ∧ ((((bs l)[1]'(by omega)).toNat : Int) == 48) = false)
    (hq : (1 : Int) + (n : Int) = (q : Int))
    (hh : (bs l).extract 1 q = bs hd)
    (hr : (bs l).extract q (bs l).size = bs rs)
    (he : rs.isEmpty = true)
    (HZhd : ∀ w, Calls Tryd.prog 84 #[.string (bs hd)] w fun e w' => e = .returned (.bool true) ∧ w' = w) (w : World) :
    Calls Tryd.prog 48 #[.string (bs l)] w fun e w' => e = .returned (.tuple #[.agg #[.int .i64 0, .int .i64 0], .int .i64 13]) ∧ Below w.heap.size w w' := by
  have HR := hideR HR
  have HZhd := hideR HZhd
  have z0 : (0 : Int) < ((bs l).size : Int) := by omega
  have z1 : ((n : Int) == 0) = false := by simp; omega
  have z5 : (q : Int) ≤ ((bs l).size : Int) := by omega
  have z51 : q ≤ (bs l).size := by omega
  have z52 : (1 : Int) ≤ (q : Int) := by omega
  have z53 : 1 ≤ q := by omega
  have z6 : (1 : Int) < ((bs l).size : Int) := by omega
  have z7 : 1 < (bs l).size := by omega
  rcases hnz with z2 | ⟨z2, z9⟩
  all_goals (
    have z2 := Int.ofNat_le.2 z2
    go_enter Tryd.func48, Tryd.ntmps48
    go_wp2_with fail
    go_at_call 83
    refine (HR.out _).mono ?_
    rintro e w1 ⟨rfl, rfl⟩
    go_wp2_with fail
    go_at_call 84
    refine (HZhd.out _).mono ?_
    rintro e w1 ⟨rfl, rfl⟩
    go_wp2_with fail
    exact bodyPost_ret (v := .tuple #[.agg #[.int .i64 0, .int .i64 0], .int .i64 13]) (by simp [results, Tryd.results48, go_sem]) rfl ⟨rfl, by first | exact bel1 w _ | exact (bel1 w _).setCell (Nat.le_refl _) _ | exact ((bel1 w _).setCell (Nat.le_refl _) _).setCell (Nat.le_refl _) _⟩)

set_option maxRecDepth 100000 in
set_option maxHeartbeats 1000000 in
theorem rp_overZeroT (l : List UInt8) (hd rs m : List UInt8) (q n k : Nat) (h0 : 0 < (bs l).size)
    (hl : (bs l).size ≤ 9223372036854775806)
    (hg : (bs l)[0] = 45)
    (HR : ∀ w, Calls Tryd.prog 83 #[.string (bs l), .int .i64 1] w fun e w' => e = .returned (.int .i64 n) ∧ w' = w)
    (hn : 0 < n)
    (hn2 : 1 + n ≤ (bs l).size)
    (hnz : n ≤ 1 ∨ 1 < n ∧ ((((bs l)[1]'(by omega)).toNat : Int) == 48) = false)
    (hq : (1 : Int) + (n : Int) = (q : Int))
    (hh : (bs l).extract 1 q = bs hd)
    (hr : (bs l).extract q (bs l).size = bs rs)
    (HS : ∀ w, Calls Tryd.prog 83 #[.string (bs rs), .int .i64 1] w fun e w' => e = .returned (.int .i64 k) ∧ w' = w)
    (he : rs.isEmpty = false)
    (hs : 0 < (bs rs).size)
    (hsl : (bs rs).size ≤ 9223372036854775806)
    (hc : (bs rs)[0]'hs = 47)
    (hk : 0 < k) (hk2 : k + 1 = (bs rs).size)
    (hm : (bs rs).extract 1 (bs rs).size = bs m) (hms : 0 < (bs m).size)
    (hmz : k ≤ 1 ∨ 1 < k ∧ ((((bs m)[0]'hms).toNat : Int) == 48) = false)
    (HZhd : ∀ w, Calls Tryd.prog 84 #[.string (bs hd)] w fun e w' => e = .returned (.bool true) ∧ w' = w) (w : World) :
    Calls Tryd.prog 48 #[.string (bs l)] w fun e w' => e = .returned (.tuple #[.agg #[.int .i64 0, .int .i64 0], .int .i64 13]) ∧ Below w.heap.size w w' := by
  have HR := hideR HR
  have HS := hideR HS
  have HZhd := hideR HZhd
  have z0 : (0 : Int) < ((bs l).size : Int) := by omega
  have z1 : ((n : Int) == 0) = false := by simp; omega
  have z5 : (q : Int) ≤ ((bs l).size : Int) := by omega
  have z51 : q ≤ (bs l).size := by omega
  have z52 : (1 : Int) ≤ (q : Int) := by omega
  have z53 : 1 ≤ q := by omega
  have z6 : (1 : Int) < ((bs l).size : Int) := by omega
  have z7 : 1 < (bs l).size := by omega
  have y0 : (0 : Int) < ((bs rs).size : Int) := by omega
  have yk : ((k : Int) == 0) = false := by simp; omega
  have yw : IntKind.i64.wrap ((k : Int) + 1) = (k : Int) + 1 := by rw [IntKind.wrap_i64]; omega
  have ye : (((k : Int) + 1) == ((bs rs).size : Int)) = true := by simp; omega
  have y3 : (1 : Int) ≤ ((bs rs).size : Int) := by omega
  have y4 : 1 ≤ (bs rs).size := by omega
  have y5 : (0 : Int) < ((bs m).size : Int) := by omega
  rcases hnz with z2 | ⟨z2, z9⟩
  all_goals rcases hmz with y2 | ⟨y2, y9⟩
  all_goals (
    have z2 := Int.ofNat_le.2 z2
    have y2 := Int.ofNat_le.2 y2
    go_enter Tryd.func48, Tryd.ntmps48
    go_wp2_with fail
    go_at_call 83
    refine (HR.out _).mono ?_
    rintro e w1 ⟨rfl, rfl⟩
    go_wp2_with fail
    go_at_call 83
    refine (HS.out _).mono ?_
    rintro e w1 ⟨rfl, rfl⟩
    go_wp2_with fail
    go_at_call 84
    refine (HZhd.out _).mono ?_
    rintro e w1 ⟨rfl, rfl⟩
    go_wp2_with fail
    exact bodyPost_ret (v := .tuple #[.agg #[.int .i64 0, .int .i64 0], .int .i64 13]) (by simp [results, Tryd.results48, go_sem]) rfl ⟨rfl, by first | exact bel1 w _ | exact (bel1 w _).setCell (Nat.le_refl _) _ | exact ((bel1 w _).setCell (Nat.le_refl _) _).setCell (Nat.le_refl _) _⟩)

set_option maxRecDepth 100000 in
set_option maxHeartbeats 1000000 in
theorem rp_pointZeroT (l : List UInt8) (hd rs m : List UInt8) (q n k : Nat) (h0 : 0 < (bs l).size)
    (hl : (bs l).size ≤ 9223372036854775806)
    (hg : (bs l)[0] = 45)
    (HR : ∀ w, Calls Tryd.prog 83 #[.string (bs l), .int .i64 1] w fun e w' => e = .returned (.int .i64 n) ∧ w' = w)
    (hn : 0 < n)
    (hn2 : 1 + n ≤ (bs l).size)
    (hnz : n ≤ 1 ∨ 1 < n ∧ ((((bs l)[1]'(by omega)).toNat : Int) == 48) = false)
    (hq : (1 : Int) + (n : Int) = (q : Int))
    (hh : (bs l).extract 1 q = bs hd)
    (hr : (bs l).extract q (bs l).size = bs rs)
    (HS : ∀ w, Calls Tryd.prog 83 #[.string (bs rs), .int .i64 1] w fun e w' => e = .returned (.int .i64 k) ∧ w' = w)
    (he : rs.isEmpty = false)
    (hs : 0 < (bs rs).size)
    (hsl : (bs rs).size ≤ 9223372036854775806)
    (hc : (bs rs)[0]'hs = 46)
    (hk : 0 < k) (hk2 : k + 1 = (bs rs).size)
    (hm : (bs rs).extract 1 (bs rs).size = bs m) (hms : 0 < (bs m).size)
    (hk9 : k ≤ 9)
    (HZhd : ∀ w, Calls Tryd.prog 84 #[.string (bs hd)] w fun e w' => e = .returned (.bool true) ∧ w' = w)
    (HZm : ∀ w, Calls Tryd.prog 84 #[.string (bs m)] w fun e w' => e = .returned (.bool true) ∧ w' = w) (w : World) :
    Calls Tryd.prog 48 #[.string (bs l)] w fun e w' => e = .returned (.tuple #[.agg #[.int .i64 0, .int .i64 0], .int .i64 13]) ∧ Below w.heap.size w w' := by
  have HR := hideR HR
  have HS := hideR HS
  have HZhd := hideR HZhd
  have HZm := hideR HZm
  have z0 : (0 : Int) < ((bs l).size : Int) := by omega
  have z1 : ((n : Int) == 0) = false := by simp; omega
  have z5 : (q : Int) ≤ ((bs l).size : Int) := by omega
  have z51 : q ≤ (bs l).size := by omega
  have z52 : (1 : Int) ≤ (q : Int) := by omega
  have z53 : 1 ≤ q := by omega
  have z6 : (1 : Int) < ((bs l).size : Int) := by omega
  have z7 : 1 < (bs l).size := by omega
  have y0 : (0 : Int) < ((bs rs).size : Int) := by omega
  have yk : ((k : Int) == 0) = false := by simp; omega
  have yw : IntKind.i64.wrap ((k : Int) + 1) = (k : Int) + 1 := by rw [IntKind.wrap_i64]; omega
  have ye : (((k : Int) + 1) == ((bs rs).size : Int)) = true := by simp; omega
  have y3 : (1 : Int) ≤ ((bs rs).size : Int) := by omega
  have y4 : 1 ≤ (bs rs).size := by omega
  have y5 : (0 : Int) < ((bs m).size : Int) := by omega
  have y6 : ¬ (9 : Int) < (k : Int) := by omega
  have y61 : (k : Int) ≤ 9 := by omega
  rcases hnz with z2 | ⟨z2, z9⟩
  all_goals (
    have z2 := Int.ofNat_le.2 z2
    go_enter Tryd.func48, Tryd.ntmps48
    go_wp2_with fail
    go_at_call 83
    refine (HR.out _).mono ?_
    rintro e w1 ⟨rfl, rfl⟩
    go_wp2_with fail
    go_at_call 83
    refine (HS.out _).mono ?_
    rintro e w1 ⟨rfl, rfl⟩
    go_wp2_with fail
    go_at_call 84
    refine (HZhd.out _).mono ?_
    rintro e w1 ⟨rfl, rfl⟩
    go_wp2_with fail
    go_at_call 84
    refine (HZm.out _).mono ?_
    rintro e w1 ⟨rfl, rfl⟩
    go_wp2_with fail
    exact bodyPost_ret (v := .tuple #[.agg #[.int .i64 0, .int .i64 0], .int .i64 13]) (by simp [results, Tryd.results48, go_sem]) rfl ⟨rfl, by first | exact bel1 w _ | exact (bel1 w _).setCell (Nat.le_refl _) _ | exact ((bel1 w _).setCell (Nat.le_refl _) _).setCell (Nat.le_refl _) _⟩)

set_option maxRecDepth 100000 in
set_option maxHeartbeats 1000000 in
theorem rp_plain12T (l : List UInt8) (hd rs : List UInt8) (q n : Nat) (h0 : 0 < (bs l).size)
    (hl : (bs l).size ≤ 9223372036854775806)
    (hg : (bs l)[0] = 45)
    (HR : ∀ w, Calls Tryd.prog 83 #[.string (bs l), .int .i64 1] w fun e w' => e = .returned (.int .i64 n) ∧ w' = w)
    (hn : 0 < n)
    (hn2 : 1 + n ≤ (bs l).size)
    (hnz : n ≤ 1 ∨ 1 < n ∧ ((((bs l)[1]'(by omega)).toNat : Int) == 48) = false)
    (hq : (1 : Int) + (n : Int) = (q : Int))
    (hh : (bs l).extract 1 q = bs hd)
    (hr : (bs l).extract q (bs l).size = bs rs)
    (he : rs.isEmpty = true)
    (HZhd : ∀ w, Calls Tryd.prog 84 #[.string (bs hd)] w fun e w' => e = .returned (.bool false) ∧ w' = w)
    (hw : 19 < (bs hd).size) (w : World) :
    Calls Tryd.prog 48 #[.string (bs l)] w fun e w' => e = .returned (.tuple #[.agg #[.int .i64 0, .int .i64 0], .int .i64 12]) ∧ Below w.heap.size w w' := by
  have HR := hideR HR
  have HZhd := hideR HZhd
  have z0 : (0 : Int) < ((bs l).size : Int) := by omega
  have z1 : ((n : Int) == 0) = false := by simp; omega
  have z5 : (q : Int) ≤ ((bs l).size : Int) := by omega
  have z51 : q ≤ (bs l).size := by omega
  have z52 : (1 : Int) ≤ (q : Int) := by omega
  have z53 : 1 ≤ q := by omega
  have z6 : (1 : Int) < ((bs l).size : Int) := by omega
  have z7 : 1 < (bs l).size := by omega
  have x1 : (19 : Int) < ((bs hd).size : Int) := by omega
  rcases hnz with z2 | ⟨z2, z9⟩
  all_goals (
    have z2 := Int.ofNat_le.2 z2
    go_enter Tryd.func48, Tryd.ntmps48
    go_wp2_with fail
    go_at_call 83
    refine (HR.out _).mono ?_
    rintro e w1 ⟨rfl, rfl⟩
    go_wp2_with fail
    go_at_call 84
    refine (HZhd.out _).mono ?_
    rintro e w1 ⟨rfl, rfl⟩
    go_wp2_with fail
    exact bodyPost_ret (v := .tuple #[.agg #[.int .i64 0, .int .i64 0], .int .i64 12]) (by simp [results, Tryd.results48, go_sem]) rfl ⟨rfl, by first | exact bel1 w _ | exact (bel1 w _).setCell (Nat.le_refl _) _ | exact ((bel1 w _).setCell (Nat.le_refl _) _).setCell (Nat.le_refl _) _⟩)

set_option maxRecDepth 100000 in
set_option maxHeartbeats 1000000 in
theorem rp_over12aT (l : List UInt8) (hd rs m : List UInt8) (q n k : Nat) (h0 : 0 < (bs l).size)
    (hl : (bs l).size ≤ 9223372036854775806)
    (hg : (bs l)[0] = 45)
    (HR : ∀ w, Calls Tryd.prog 83 #[.string (bs l), .int .i64 1] w fun e w' => e = .returned (.int .i64 n) ∧ w' = w)
    (hn : 0 < n)
    (hn2 : 1 + n ≤ (bs l).size)
    (hnz : n ≤ 1 ∨ 1 < n ∧ ((((bs l)[1]'(by omega)).toNat : Int) == 48) = false)
    (hq : (1 : Int) + (n : Int) = (q : Int))
    (hh : (bs l).extract 1 q = bs hd)
    (hr : (bs l).extract q (bs l).size = bs rs)
    (HS : ∀ w, Calls Tryd.prog 83 #[.string (bs rs), .int .i64 1] w fun e w' => e = .returned (.int .i64 k) ∧ w' = w)
    (he : rs.isEmpty = false)
    (hs : 0 < (bs rs).size)
    (hsl : (bs rs).size ≤ 9223372036854775806)
    (hc : (bs rs)[0]'hs = 47)
    (hk : 0 < k) (hk2 : k + 1 = (bs rs).size)
    (hm : (bs rs).extract 1 (bs rs).size = bs m) (hms : 0 < (bs m).size)
    (hmz : k ≤ 1 ∨ 1 < k ∧ ((((bs m)[0]'hms).toNat : Int) == 48) = false)
    (HZhd : ∀ w, Calls Tryd.prog 84 #[.string (bs hd)] w fun e w' => e = .returned (.bool false) ∧ w' = w)
    (hw : 19 < (bs hd).size) (w : World) :
    Calls Tryd.prog 48 #[.string (bs l)] w fun e w' => e = .returned (.tuple #[.agg #[.int .i64 0, .int .i64 0], .int .i64 12]) ∧ Below w.heap.size w w' := by
  have HR := hideR HR
  have HS := hideR HS
  have HZhd := hideR HZhd
  have z0 : (0 : Int) < ((bs l).size : Int) := by omega
  have z1 : ((n : Int) == 0) = false := by simp; omega
  have z5 : (q : Int) ≤ ((bs l).size : Int) := by omega
  have z51 : q ≤ (bs l).size := by omega
  have z52 : (1 : Int) ≤ (q : Int) := by omega
  have z53 : 1 ≤ q := by omega
  have z6 : (1 : Int) < ((bs l).size : Int) := by omega
  have z7 : 1 < (bs l).size := by omega
  have y0 : (0 : Int) < ((bs rs).size : Int) := by omega
  have yk : ((k : Int) == 0) = false := by simp; omega
  have yw : IntKind.i64.wrap ((k : Int) + 1) = (k : Int) + 1 := by rw [IntKind.wrap_i64]; omega
  have ye : (((k : Int) + 1) == ((bs rs).size : Int)) = true := by simp; omega
  have y3 : (1 : Int) ≤ ((bs rs).size : Int) := by omega
  have y4 : 1 ≤ (bs rs).size := by omega
  have y5 : (0 : Int) < ((bs m).size : Int) := by omega
  have x1 : (19 : Int) < ((bs hd).size : Int) := by omega
  rcases hnz with z2 | ⟨z2, z9⟩
  all_goals rcases hmz with y2 | ⟨y2, y9⟩
  all_goals (
    have z2 := Int.ofNat_le.2 z2
    have y2 := Int.ofNat_le.2 y2
    go_enter Tryd.func48, Tryd.ntmps48
    go_wp2_with fail
    go_at_call 83
    refine (HR.out _).mono ?_
    rintro e w1 ⟨rfl, rfl⟩
    go_wp2_with fail
    go_at_call 83
    refine (HS.out _).mono ?_
    rintro e w1 ⟨rfl, rfl⟩
    go_wp2_with fail
    go_at_call 84
    refine (HZhd.out _).mono ?_
    rintro e w1 ⟨rfl, rfl⟩
    go_wp2_with fail
    exact bodyPost_ret (v := .tuple #[.agg #[.int .i64 0, .int .i64 0], .int .i64 12]) (by simp [results, Tryd.results48, go_sem]) rfl ⟨rfl, by first | exact bel1 w _ | exact (bel1 w _).setCell (Nat.le_refl _) _ | exact ((bel1 w _).setCell (Nat.le_refl _) _).setCell (Nat.le_refl _) _⟩)

set_option maxRecDepth 100000 in
set_option maxHeartbeats 1000000 in
theorem rp_over12bT (l : List UInt8) (hd rs m : List UInt8) (q n k : Nat) (h0 : 0 < (bs l).size)
    (hl : (bs l).size ≤ 9223372036854775806)
    (hg : (bs l)[0] = 45)
    (HR : ∀ w, Calls Tryd.prog 83 #[.string (bs l), .int .i64 1] w fun e w' => e = .returned (.int .i64 n) ∧ w' = w)
    (hn : 0 < n)
    (hn2 : 1 + n ≤ (bs l).size)
    (hnz : n ≤ 1 ∨ 1 < n ∧ ((((bs l)[1]'(by omega)).toNat : Int) == 48) = false)
    (hq : (1 : Int) + (n : Int) = (q : Int))
    (hh : (bs l).extract 1 q = bs hd)
    (hr : (bs l).extract q (bs l).size = bs rs)
    (HS : ∀ w, Calls Tryd.prog 83 #[.string (bs rs), .int .i64 1] w fun e w' => e = .returned (.int .i64 k) ∧ w' = w)
    (he : rs.isEmpty = false)
    (hs : 0 < (bs rs).size)
    (hsl : (bs rs).size ≤ 9223372036854775806)
    (hc : (bs rs)[0]'hs = 47)
    (hk : 0 < k) (hk2 : k + 1 = (bs rs).size)
    (hm : (bs rs).extract 1 (bs rs).size = bs m) (hms : 0 < (bs m).size)
    (hmz : k ≤ 1 ∨ 1 < k ∧ ((((bs m)[0]'hms).toNat : Int) == 48) = false)
    (HZhd : ∀ w, Calls Tryd.prog 84 #[.string (bs hd)] w fun e w' => e = .returned (.bool false) ∧ w' = w)
    (hw : (bs hd).size ≤ 19)
    (hw2 : 19 < (bs m).size) (w : World) :
    Calls Tryd.prog 48 #[.string (bs l)] w fun e w' => e = .returned (.tuple #[.agg #[.int .i64 0, .int .i64 0], .int .i64 12]) ∧ Below w.heap.size w w' := by
  have HR := hideR HR
  have HS := hideR HS
  have HZhd := hideR HZhd
  have z0 : (0 : Int) < ((bs l).size : Int) := by omega
  have z1 : ((n : Int) == 0) = false := by simp; omega
  have z5 : (q : Int) ≤ ((bs l).size : Int) := by omega
  have z51 : q ≤ (bs l).size := by omega
  have z52 : (1 : Int) ≤ (q : Int) := by omega
  have z53 : 1 ≤ q := by omega
  have z6 : (1 : Int) < ((bs l).size : Int) := by omega
  have z7 : 1 < (bs l).size := by omega
  have y0 : (0 : Int) < ((bs rs).size : Int) := by omega
  have yk : ((k : Int) == 0) = false := by simp; omega
  have yw : IntKind.i64.wrap ((k : Int) + 1) = (k : Int) + 1 := by rw [IntKind.wrap_i64]; omega
  have ye : (((k : Int) + 1) == ((bs rs).size : Int)) = true := by simp; omega
  have y3 : (1 : Int) ≤ ((bs rs).size : Int) := by omega
  have y4 : 1 ≤ (bs rs).size := by omega
  have y5 : (0 : Int) < ((bs m).size : Int) := by omega
  have x1 : ((bs hd).size : Int) ≤ 19 := by omega
  have x2 : (19 : Int) < ((bs m).size : Int) := by omega
  rcases hnz with z2 | ⟨z2, z9⟩
  all_goals rcases hmz with y2 | ⟨y2, y9⟩
  all_goals (
    have z2 := Int.ofNat_le.2 z2
    have y2 := Int.ofNat_le.2 y2
    go_enter Tryd.func48, Tryd.ntmps48
    go_wp2_with fail
    go_at_call 83
    refine (HR.out _).mono ?_
    rintro e w1 ⟨rfl, rfl⟩
    go_wp2_with fail
    go_at_call 83
    refine (HS.out _).mono ?_
    rintro e w1 ⟨rfl, rfl⟩
    go_wp2_with fail
    go_at_call 84
    refine (HZhd.out _).mono ?_
    rintro e w1 ⟨rfl, rfl⟩
    go_wp2_with fail
    exact bodyPost_ret (v := .tuple #[.agg #[.int .i64 0, .int .i64 0], .int .i64 12]) (by simp [results, Tryd.results48, go_sem]) rfl ⟨rfl, by first | exact bel1 w _ | exact (bel1 w _).setCell (Nat.le_refl _) _ | exact ((bel1 w _).setCell (Nat.le_refl _) _).setCell (Nat.le_refl _) _⟩)

set_option maxRecDepth 100000 in
set_option maxHeartbeats 1000000 in
theorem rp_point12aT (l : List UInt8) (hd rs m : List UInt8) (q n k : Nat) (h0 : 0 < (bs l).size)
    (hl : (bs l).size ≤ 9223372036854775806)
    (hg : (bs l)[0] = 45)
    (HR : ∀ w, Calls Tryd.prog 83 #[.string (bs l), .int .i64 1] w fun e w' => e = .returned (.int .i64 n) ∧ w' = w)
    (hn : 0 < n)
    (hn2 : 1 + n ≤ (bs l).size)
    (hnz : n ≤ 1 ∨ 1 < n ∧ ((((bs l)[1]'(by omega)).toNat : Int) == 48) = false)
    (hq : (1 : Int) + (n : Int) = (q : Int))
    (hh : (bs l).extract 1 q = bs hd)
    (hr : (bs l).extract q (bs l).size = bs rs)
    (HS : ∀ w, Calls Tryd.prog 83 #[.string (bs rs), .int .i64 1] w fun e w' => e = .returned (.int .i64 k) ∧ w' = w)
    (he : rs.isEmpty = false)
    (hs : 0 < (bs rs).size)
    (hsl : (bs rs).size ≤ 9223372036854775806)
    (hc : (bs rs)[0]'hs = 46)
    (hk : 0 < k) (hk2 : k + 1 = (bs rs).size)
    (hm : (bs rs).extract 1 (bs rs).size = bs m) (hms : 0 < (bs m).size)
    (hk9 : k ≤ 9)
    (HZhd : ∀ w, Calls Tryd.prog 84 #[.string (bs hd)] w fun e w' => e = .returned (.bool false) ∧ w' = w)
    (hw : 19 < (bs hd).size) (w : World) :
    Calls Tryd.prog 48 #[.string (bs l)] w fun e w' => e = .returned (.tuple #[.agg #[.int .i64 0, .int .i64 0], .int .i64 12]) ∧ Below w.heap.size w w' := by
  have HR := hideR HR
  have HS := hideR HS
  have HZhd := hideR HZhd
  have z0 : (0 : Int) < ((bs l).size : Int) := by omega
  have z1 : ((n : Int) == 0) = false := by simp; omega
  have z5 : (q : Int) ≤ ((bs l).size : Int) := by omega
  have z51 : q ≤ (bs l).size := by omega
  have z52 : (1 : Int) ≤ (q : Int) := by omega
  have z53 : 1 ≤ q := by omega
  have z6 : (1 : Int) < ((bs l).size : Int) := by omega
  have z7 : 1 < (bs l).size := by omega
  have y0 : (0 : Int) < ((bs rs).size : Int) := by omega
  have yk : ((k : Int) == 0) = false := by simp; omega
  have yw : IntKind.i64.wrap ((k : Int) + 1) = (k : Int) + 1 := by rw [IntKind.wrap_i64]; omega
  have ye : (((k : Int) + 1) == ((bs rs).size : Int)) = true := by simp; omega
  have y3 : (1 : Int) ≤ ((bs rs).size : Int) := by omega
  have y4 : 1 ≤ (bs rs).size := by omega
  have y5 : (0 : Int) < ((bs m).size : Int) := by omega
  have y6 : ¬ (9 : Int) < (k : Int) := by omega
  have y61 : (k : Int) ≤ 9 := by omega
  have x1 : (19 : Int) < ((bs hd).size : Int) := by omega
  rcases hnz with z2 | ⟨z2, z9⟩
  all_goals (
    have z2 := Int.ofNat_le.2 z2
    go_enter Tryd.func48, Tryd.ntmps48
    go_wp2_with fail
    go_at_call 83
    refine (HR.out _).mono ?_
    rintro e w1 ⟨rfl, rfl⟩
    go_wp2_with fail
    go_at_call 83
    refine (HS.out _).mono ?_
    rintro e w1 ⟨rfl, rfl⟩
    go_wp2_with fail
    go_at_call 84
    refine (HZhd.out _).mono ?_
    rintro e w1 ⟨rfl, rfl⟩
    go_wp2_with fail
    exact bodyPost_ret (v := .tuple #[.agg #[.int .i64 0, .int .i64 0], .int .i64 12]) (by simp [results, Tryd.results48, go_sem]) rfl ⟨rfl, by first | exact bel1 w _ | exact (bel1 w _).setCell (Nat.le_refl _) _ | exact ((bel1 w _).setCell (Nat.le_refl _) _).setCell (Nat.le_refl _) _⟩)

set_option maxRecDepth 100000 in
set_option maxHeartbeats 1000000 in
theorem rp_point12bT (l : List UInt8) (hd rs m : List UInt8) (q n k : Nat) (h0 : 0 < (bs l).size)
    (hl : (bs l).size ≤ 9223372036854775806)
    (hg : (bs l)[0] = 45)
    (HR : ∀ w, Calls Tryd.prog 83 #[.string (bs l), .int .i64 1] w fun e w' => e = .returned (.int .i64 n) ∧ w' = w)
    (hn : 0 < n)
    (hn2 : 1 + n ≤ (bs l).size)
    (hnz : n ≤ 1 ∨ 1 < n ∧ ((((bs l)[1]'(by omega)).toNat : Int) == 48) = false)
    (hq : (1 : Int) + (n : Int) = (q : Int))
    (hh : (bs l).extract 1 q = bs hd)
    (hr : (bs l).extract q (bs l).size = bs rs)
    (HS : ∀ w, Calls Tryd.prog 83 #[.string (bs rs), .int .i64 1] w fun e w' => e = .returned (.int .i64 k) ∧ w' = w)
    (he : rs.isEmpty = false)
    (hs : 0 < (bs rs).size)
    (hsl : (bs rs).size ≤ 9223372036854775806)
    (hc : (bs rs)[0]'hs = 46)
    (hk : 0 < k) (hk2 : k + 1 = (bs rs).size)
    (hm : (bs rs).extract 1 (bs rs).size = bs m) (hms : 0 < (bs m).size)
    (hk9 : k ≤ 9)
    (HZhd : ∀ w, Calls Tryd.prog 84 #[.string (bs hd)] w fun e w' => e = .returned (.bool true) ∧ w' = w)
    (HZm : ∀ w, Calls Tryd.prog 84 #[.string (bs m)] w fun e w' => e = .returned (.bool false) ∧ w' = w)
    (hw : 19 < (bs hd).size) (w : World) :
    Calls Tryd.prog 48 #[.string (bs l)] w fun e w' => e = .returned (.tuple #[.agg #[.int .i64 0, .int .i64 0], .int .i64 12]) ∧ Below w.heap.size w w' := by
  have HR := hideR HR
  have HS := hideR HS
  have HZhd := hideR HZhd
  have HZm := hideR HZm
  have z0 : (0 : Int) < ((bs l).size : Int) := by omega
  have z1 : ((n : Int) == 0) = false := by simp; omega
  have z5 : (q : Int) ≤ ((bs l).size : Int) := by omega
  have z51 : q ≤ (bs l).size := by omega
  have z52 : (1 : Int) ≤ (q : Int) := by omega
  have z53 : 1 ≤ q := by omega
  have z6 : (1 : Int) < ((bs l).size : Int) := by omega
  have z7 : 1 < (bs l).size := by omega
  have y0 : (0 : Int) < ((bs rs).size : Int) := by omega
  have yk : ((k : Int) == 0) = false := by simp; omega
  have yw : IntKind.i64.wrap ((k : Int) + 1) = (k : Int) + 1 := by rw [IntKind.wrap_i64]; omega
  have ye : (((k : Int) + 1) == ((bs rs).size : Int)) = true := by simp; omega
  have y3 : (1 : Int) ≤ ((bs rs).size : Int) := by omega
  have y4 : 1 ≤ (bs rs).size := by omega
  have y5 : (0 : Int) < ((bs m).size : Int) := by omega
  have y6 : ¬ (9 : Int) < (k : Int) := by omega
  have y61 : (k : Int) ≤ 9 := by omega
  have x1 : (19 : Int) < ((bs hd).size : Int) := by omega
  rcases hnz with z2 | ⟨z2, z9⟩
  all_goals (
    have z2 := Int.ofNat_le.2 z2
    go_enter Tryd.func48, Tryd.ntmps48
    go_wp2_with fail
    go_at_call 83
    refine (HR.out _).mono ?_
    rintro e w1 ⟨rfl, rfl⟩
    go_wp2_with fail
    go_at_call 83
    refine (HS.out _).mono ?_
    rintro e w1 ⟨rfl, rfl⟩
    go_wp2_with fail
    go_at_call 84
    refine (HZhd.out _).mono ?_
    rintro e w1 ⟨rfl, rfl⟩
    go_wp2_with fail
    go_at_call 84
    refine (HZm.out _).mono ?_
    rintro e w1 ⟨rfl, rfl⟩
    go_wp2_with fail
    exact bodyPost_ret (v := .tuple #[.agg #[.int .i64 0, .int .i64 0], .int .i64 12]) (by simp [results, Tryd.results48, go_sem]) rfl ⟨rfl, by first | exact bel1 w _ | exact (bel1 w _).setCell (Nat.le_refl _) _ | exact ((bel1 w _).setCell (Nat.le_refl _) _).setCell (Nat.le_refl _) _⟩)
end Go.Proofs.YtmofjkfghidlnaaDoor
