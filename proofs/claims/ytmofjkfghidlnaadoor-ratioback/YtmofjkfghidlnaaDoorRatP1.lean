/- Contracts for package ratio's texts: what was read. -/
import Derived.Test.YtmofjkfghidlnaaDoorRatP0
namespace Go.Proofs.YtmofjkfghidlnaaDoor
open Go.RowKit Go.Shelf
attribute [local go_sem] Oper.semAt_some bs_toList

theorem bs_append (a b : List UInt8) : bs a ++ bs b = bs (a ++ b) := by
  apply ByteArray.ext
  simp [bs]

theorem scale_any (b : Nat) (be : List UInt8) (hb : be.length ≤ 9) (w : World) (c3 : w.cell? ⟨b, 3, none⟩ = some (.string (bs be))) :
    Calls Tryd.prog 105 #[.pointer (some ⟨b, 0, none⟩)] w fun e w' => e = .returned (.int .u64 ((10 ^ be.length : Nat) : Int)) ∧ w' = w := by
  have hsz := bs_size be
  go_enter Tryd.func105, Tryd.ntmps105
  go_wp2
  go_loop [3, 9] (fun vn vi => ∃ k : Nat, k ≤ be.length ∧ vn = .int .u64 ((10 ^ k : Nat) : Int) ∧ vi = .int .i64 k) (fun _ vi => be.length - (intOf vi).toNat)
  case atStart => exact ⟨0, by omega, rfl, rfl⟩
  case round =>
    obtain ⟨k, hk, rfl, rfl⟩ := hrel
    by_cases h1 : k < be.length
    · have hp := pow10_le k 8 (by omega)
      have hst : 10 ^ (k + 1) = 10 ^ k * 10 := Nat.pow_succ ..
      have z1 : (k : Int) < (be.length : Int) := by omega
      generalize hg : 10 ^ k = v at *
      clear hg
      have hv : (v : Int) ≤ 100000000 := by omega
      clear hp
      go_wp2
      go_round
      case rel => exact ⟨k + 1, by omega, by rw [hst]; go_num, by go_num⟩
      case measure => simp [intOf]; omega
    · obtain rfl : k = be.length := by omega
      go_wp2
      go_ret
      exact ⟨rfl, rfl⟩

theorem nought_any (b : Nat) (wh be : List UInt8) (hb : (wh ++ be).length ≤ 9223372036854775807) (w : World) (c1 : w.cell? ⟨b, 1, none⟩ = some (.string (bs wh))) (c3 : w.cell? ⟨b, 3, none⟩ = some (.string (bs be))) :
    Calls Tryd.prog 80 #[.pointer (some ⟨b, 0, none⟩)] w fun e w' => e = .returned (.bool ((wh ++ be).all ([48].contains ·))) ∧ Below w.heap.size w w' := by
  have HT := hideR (trim0_any (wh ++ be) hb)
  rw [← trim_nil]
  generalize Lib.trimS (wh ++ be) [48] = t at *
  have ha : ∀ w, (Op.stringOp .add (bs wh) (bs be)).run Tryd.prog w = .ok (.string (bs (wh ++ be))) w := fun w => by
    rw [run_string_add_sum w _ _ (by rw [bs_size, bs_size]; simpa using hb), bs_append]
  generalize bs (wh ++ be) = x at *
  cases ht : t == []
  all_goals (
    have hte : t.isEmpty = (t == []) := by cases t <;> rfl
    rw [ht] at hte
    go_enter Tryd.func80, Tryd.ntmps80
    go_wp2_with fail
    go_region_with (go_at_call 103; refine (HT.out _).mono ?_; rintro e w1 ⟨rfl, b1⟩))
  all_goals go_wp2_with fail
  all_goals go_ret
  all_goals exact ⟨rfl, bup (Below.refl _ _).drew b1⟩

theorem mul_small (x y : Nat) (hx : x < 18446744073709551616) (hy : y < 18446744073709551616) (w : World) : Calls Tryd.prog 71 #[.int .u64 x, .int .u64 y] w fun e w' => e = .returned (.tuple #[.int .u64 (hiZ ((x : Int) * y)), .int .u64 (loZ ((x : Int) * y))]) ∧ w' = w :=
  mul_i x y ⟨by omega, by omega⟩ ⟨by omega, by omega⟩ w

def topN (wh be : List UInt8) : Nat := valN wh * 10 ^ be.length + valN be
theorem loZ_small (n : Nat) (h : n < 18446744073709551616) : loZ (n : Int) = n ∧ hiZ (n : Int) = 0 := by unfold loZ hiZ; omega

set_option maxRecDepth 100000 in
theorem top_any (b : Nat) (below : Bool) (wh be : List UInt8) (dw : wh.all isDig = true) (db : be.all isDig = true) (lw : wh.length ≤ 19) (lb : be.length ≤ 9) (w : World) (hb : b < w.heap.size) (c0 : w.cell? ⟨b, 0, none⟩ = some (.bool below)) (c1 : w.cell? ⟨b, 1, none⟩ = some (.string (bs wh))) (c3 : w.cell? ⟨b, 3, none⟩ = some (.string (bs be))) :
    Calls Tryd.prog 81 #[.pointer (some ⟨b, 0, none⟩)] w fun e w' => e = .returned (wv (if below = true then -(topN wh be : Int) else (topN wh be : Int))) ∧ Below w.heap.size w w' := by
  have HN1 := hideR (number_any wh dw lw)
  have HN2 := hideR (number_any be db (by omega))
  have HS := hideR (scale_any b be lb)
  have v1 := valN_lt wh dw wh.length (Nat.le_refl _)
  have v2 := valN_lt be db be.length (Nat.le_refl _)
  rw [List.take_length] at v1 v2
  have p1 := pow10_le wh.length 19 lw
  have p2 := pow10_le be.length 9 lb
  have HM := hideR (mul_small (valN wh) (10 ^ be.length) (by omega) (by omega))
  have HP := hideR (plus_any ((valN wh : Int) * ((10 ^ be.length : Nat) : Int)) (valN be))
  have ht : (topN wh be : Int) = (valN wh : Int) * ((10 ^ be.length : Nat) : Int) + (valN be : Int) := by unfold topN; rw [Int.natCast_add, Int.natCast_mul]
  rw [← ht] at HP
  have HG := hideR (negative_any (topN wh be))
  obtain ⟨z1, z2⟩ := loZ_small (valN be) (by omega)
  unfold wv at HP
  rw [z1, z2] at HP
  clear ht v1 v2 p1 p2 z1 z2
  generalize hiZ ((valN wh : Int) * ((10 ^ be.length : Nat) : Int)) = ph at *
  generalize loZ ((valN wh : Int) * ((10 ^ be.length : Nat) : Int)) = pl at *
  generalize 10 ^ be.length = sc at *
  generalize valN wh = vw at *
  generalize valN be = vb at *
  generalize topN wh be = tp at *
  unfold wv at *
  have n0 := World.new_ne w ⟨b, 0, none⟩ c0
  have n1 := World.new_ne w ⟨b, 1, none⟩ c1
  have n3 := World.new_ne w ⟨b, 3, none⟩ c3
  have hb1 : b < w.heap.size + 1 := by omega
  cases below
  all_goals (
    go_enter Tryd.func81, Tryd.ntmps81
    go_wp2_with fail
    go_at_call_of 104 wh
    refine (HN1.out _).mono ?_
    rintro e w1 ⟨rfl, hw⟩
    obtain rfl := hw.symm
    go_wp2_with fail
    go_at_call 105
    refine (HS.out _ (by go_simp)).mono ?_
    rintro e w1 ⟨rfl, hw⟩
    obtain rfl := hw.symm
    go_wp2_with fail
    go_at_call 71
    refine (HM.out _).mono ?_
    rintro e w1 ⟨rfl, hw⟩
    obtain rfl := hw.symm
    go_wp2_with fail
    go_at_call_of 104 be
    refine (HN2.out _).mono ?_
    rintro e w1 ⟨rfl, hw⟩
    obtain rfl := hw.symm
    go_wp2_with fail
    go_at_call 68
    refine (HP.out _).mono ?_
    rintro e w2 ⟨rfl, b2⟩
    have k0 : w2.cell? ⟨b, 0, none⟩ = some (.bool _) := (b2.cell (p := ⟨b, 0, none⟩) (by simp; omega)).trans (((bel1 w _).cell (p := ⟨b, 0, none⟩) hb).trans c0)
    have r0 : w2.cell? ⟨w.heap.size, 0, none⟩ = some (.int .u64 0) := (b2.cell (p := ⟨w.heap.size, 0, none⟩) (by simp)).trans (by go_simp)
    have r1 : w2.cell? ⟨w.heap.size, 1, none⟩ = some (.int .u64 0) := (b2.cell (p := ⟨w.heap.size, 1, none⟩) (by simp)).trans (by go_simp)
    have f0 : w2.frozen? ⟨w.heap.size, 0, none⟩ = false := (b2.frozen (p := ⟨w.heap.size, 0, none⟩) (by simp)).trans (by go_simp)
    have f1 : w2.frozen? ⟨w.heap.size, 1, none⟩ = false := (b2.frozen (p := ⟨w.heap.size, 1, none⟩) (by simp)).trans (by go_simp)
    have zz : w.heap.size < w2.heap.size := by have := b2.size; simp at this; omega
    have zb : b < w2.heap.size := by omega
    go_wp2_with fail)
  · have BA : Below w.heap.size w ((w2.setCell ⟨w.heap.size, 0, none⟩ (.int .u64 (hiZ tp))).setCell ⟨w.heap.size, 1, none⟩ (.int .u64 (loZ tp))) := ((bup (bel1 w _) b2).setCell (Nat.le_refl _) _).setCell (Nat.le_refl _) _
    have a0 : ((w2.setCell ⟨w.heap.size, 0, none⟩ (.int .u64 (hiZ tp))).setCell ⟨w.heap.size, 1, none⟩ (.int .u64 (loZ tp))).cell? ⟨w.heap.size, 0, none⟩ = some (.int .u64 (hiZ tp)) := by go_simp
    have a1 : ((w2.setCell ⟨w.heap.size, 0, none⟩ (.int .u64 (hiZ tp))).setCell ⟨w.heap.size, 1, none⟩ (.int .u64 (loZ tp))).cell? ⟨w.heap.size, 1, none⟩ = some (.int .u64 (loZ tp)) := by go_simp
    have zA : w.heap.size < ((w2.setCell ⟨w.heap.size, 0, none⟩ (.int .u64 (hiZ tp))).setCell ⟨w.heap.size, 1, none⟩ (.int .u64 (loZ tp))).heap.size := by simp; omega
    generalize ((w2.setCell ⟨w.heap.size, 0, none⟩ (.int .u64 (hiZ tp))).setCell ⟨w.heap.size, 1, none⟩ (.int .u64 (loZ tp))) = A at *
    have x0 : (A.alloc (.cells #[.int .u64 (hiZ tp), .int .u64 (loZ tp)] 70)).cell? ⟨w.heap.size, 0, none⟩ = _ := ((bel1 A _).cell (p := ⟨w.heap.size, 0, none⟩) zA).trans a0
    have x1 : (A.alloc (.cells #[.int .u64 (hiZ tp), .int .u64 (loZ tp)] 70)).cell? ⟨w.heap.size, 1, none⟩ = _ := ((bel1 A _).cell (p := ⟨w.heap.size, 1, none⟩) zA).trans a1
    exact bodyPost_ret (v := .agg #[.int .u64 (hiZ tp), .int .u64 (loZ tp)]) (by simp [results, Tryd.results81, go_sem, x0, x1]) rfl ⟨rfl, BA.alloc (by omega) _⟩
  · go_at_call 58
    refine (HG.out _).mono ?_
    rintro e w3 ⟨rfl, b3⟩
    have B3 := bup (bel1 w2 _) b3
    obtain ⟨q0, q1, q2, q3⟩ := two_keep B3 zz r0 r1 f0 f1
    go_wp2_with fail
    exact bodyPost_ret (v := .agg #[.int .u64 (hiZ (-tp)), .int .u64 (loZ (-tp))]) (by simp [results, Tryd.results81, go_sem, q0, q1]) rfl ⟨rfl, ((bup (bup (bel1 w _) b2) B3).setCell (Nat.le_refl _) _).setCell (Nat.le_refl _) _⟩

def botN (un be : List UInt8) : Nat := if un.isEmpty = true then 10 ^ be.length else valN un
theorem bottom_any (b : Nat) (un be : List UInt8) (du : un.all isDig = true) (lu : un.length ≤ 19) (lb : be.length ≤ 9) (w : World) (c2 : w.cell? ⟨b, 2, none⟩ = some (.string (bs un))) (c3 : w.cell? ⟨b, 3, none⟩ = some (.string (bs be))) :
    Calls Tryd.prog 82 #[.pointer (some ⟨b, 0, none⟩)] w fun e w' => e = .returned (.int .u64 (botN un be)) ∧ w' = w := by
  have HN := hideR (number_any un du lu)
  have HS := hideR (scale_any b be lb w c3)
  unfold botN
  cases hu : un.isEmpty
  · rw [if_neg (by simp)]
    go_enter Tryd.func82, Tryd.ntmps82
    go_wp2_with fail
    go_at_call 104
    refine (HN.out _).mono ?_
    rintro e w1 ⟨rfl, hw⟩
    obtain rfl := hw.symm
    go_wp2_with fail
    go_ret
    exact ⟨rfl, rfl⟩
  · rw [if_pos rfl]
    go_enter Tryd.func82, Tryd.ntmps82
    go_wp2_with fail
    go_at_call 105
    refine HS.out.mono ?_
    rintro e w1 ⟨rfl, hw⟩
    obtain rfl := hw.symm
    go_wp2_with fail
    go_ret
    exact ⟨rfl, rfl⟩
end Go.Proofs.YtmofjkfghidlnaaDoor
