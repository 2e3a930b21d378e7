/- Contracts of package ratio: comparison, lowest terms. -/
import Derived.Test.YtipnefaggpigfaaRatW4
namespace Go.Proofs.Ytipnefaggpigfaa
open Go.RowKit Go.Shelf
attribute [local go_sem] Oper.semAt_some

def orI (x y : Int) : Int := if x ≠ 0 then x else y
theorem or_any (x y : Int) (g : Nat) (w : World) (c0 : w.cell? ⟨g, 0, none⟩ = some (.int .i64 x)) (c1 : w.cell? ⟨g, 1, none⟩ = some (.int .i64 y)) :
    Calls Try.prog 87 #[.slice (some ⟨g, 0, none⟩) 2 2] w fun e w' => e = .returned (.int .i64 (orI x y)) ∧ w' = w := by
  go_enter Try.func87, Try.ntmps87
  go_wp2
  go_loop [8] (fun i => ∃ k : Int, i = .int .i64 k ∧ (k = 0 ∨ (k = 1 ∧ x = 0) ∨ (k = 2 ∧ x = 0 ∧ y = 0))) (fun i => (2 - intOf i).toNat)
  case atStart => exact ⟨0, rfl, .inl rfl⟩
  case round =>
    obtain ⟨k, rfl, h⟩ := hrel
    rcases h with rfl | ⟨rfl, hx⟩ | ⟨rfl, hx, hy⟩
    · by_cases hx : x = 0
      · subst hx
        go_wp2
        go_round
        case rel => exact ⟨1, rfl, .inr (.inl ⟨rfl, by trivial⟩)⟩
        case measure => simp [intOf]
      · have hn : (x != 0) = true := by simpa using hx
        go_wp2
        go_ret
        exact ⟨ret_int (by unfold orI; rw [if_pos hx]), rfl⟩
    · subst hx
      by_cases hy : y = 0
      · subst hy
        go_wp2
        go_round
        case rel => exact ⟨2, rfl, .inr (.inr ⟨rfl, by trivial, by trivial⟩)⟩
        case measure => simp [intOf]
      · have hn : (y != 0) = true := by simpa using hy
        go_wp2
        go_ret
        exact ⟨ret_int (by unfold orI; rw [if_neg (by simp)]), rfl⟩
    · subst hx
      subst hy
      go_wp2
      go_ret
      exact ⟨ret_int (by unfold orI; rw [if_neg (by simp)]), rfl⟩

theorem new_cell0 (V : World) (x y : Value) (t : TypeId) : (V.alloc (.cells #[x, y] t)).drew.cell? ⟨V.heap.size, 0, none⟩ = some x := by go_simp
theorem new_cell1 (V : World) (x y : Value) (t : TypeId) : (V.alloc (.cells #[x, y] t)).drew.cell? ⟨V.heap.size, 1, none⟩ = some y := by go_simp
theorem signed_hi (a : Int) (h : In128 a) : IntKind.i64.wrap (hiZ a) = a / 18446744073709551616 := by
  obtain ⟨h0, h1⟩ := h
  rw [IntKind.wrap_i64]
  unfold hiZ
  omega
theorem cmp_halves (a b : Int) (h : In128 a) (k : In128 b) : orI (cmpZ (IntKind.i64.wrap (hiZ a)) (IntKind.i64.wrap (hiZ b))) (cmpZ (loZ a) (loZ b)) = cmpZ a b := by
  rw [signed_hi a h, signed_hi b k]
  unfold orI cmpZ loZ
  by_cases e1 : a < b
  · rw [if_pos e1]
    by_cases e2 : a / 18446744073709551616 < b / 18446744073709551616
    · rw [if_pos e2]; rfl
    · rw [if_neg e2, if_neg (show ¬ b / 18446744073709551616 < a / 18446744073709551616 by omega), if_neg (by simp), if_pos (by omega)]
  · rw [if_neg e1]
    by_cases e3 : b < a
    · rw [if_pos e3]
      by_cases e2 : b / 18446744073709551616 < a / 18446744073709551616
      · rw [if_neg (show ¬ a / 18446744073709551616 < b / 18446744073709551616 by omega), if_pos e2]; rfl
      · rw [if_neg (show ¬ a / 18446744073709551616 < b / 18446744073709551616 by omega), if_neg e2, if_neg (by simp), if_neg (by omega), if_pos (by omega)]
    · obtain rfl : a = b := by omega
      simp

set_option maxRecDepth 100000 in
set_option maxHeartbeats 400000 in
theorem compare_any (a b : Int) (ha : In128 a) (hb : In128 b) (w : World) :
    Calls Try.prog 67 #[wv a, wv b] w fun e w' => e = .returned (.int .i64 (cmpZ a b)) ∧ Below w.heap.size w w' := by
  have H2 : Hid (orI (cmpZ (IntKind.i64.wrap (hiZ a)) (IntKind.i64.wrap (hiZ b))) (cmpZ (loZ a) (loZ b)) = cmpZ a b) := cmp_halves a b ha hb
  unfold wv
  generalize hiZ a = ah at *
  generalize loZ a = al at *
  generalize hiZ b = bh at *
  generalize loZ b = bl at *
  generalize cmpZ a b = c at *
  clear ha hb
  go_enter Try.func67, Try.ntmps67
  go_wp2_with fail
  have c0 : ((w.alloc (.cells #[.int .u64 ah, .int .u64 al] 97)).alloc (.cells #[.int .u64 bh, .int .u64 bl] 97)).cell? ⟨w.heap.size, 0, none⟩ = some (.int .u64 ah) := by go_simp
  have c1 : ((w.alloc (.cells #[.int .u64 ah, .int .u64 al] 97)).alloc (.cells #[.int .u64 bh, .int .u64 bl] 97)).cell? ⟨w.heap.size, 1, none⟩ = some (.int .u64 al) := by go_simp
  have c2 : ((w.alloc (.cells #[.int .u64 ah, .int .u64 al] 97)).alloc (.cells #[.int .u64 bh, .int .u64 bl] 97)).cell? ⟨w.heap.size + 1, 0, none⟩ = some (.int .u64 bh) := by go_simp
  have c3 : ((w.alloc (.cells #[.int .u64 ah, .int .u64 al] 97)).alloc (.cells #[.int .u64 bh, .int .u64 bl] 97)).cell? ⟨w.heap.size + 1, 1, none⟩ = some (.int .u64 bl) := by go_simp
  have bV := bel2 w (.cells #[.int .u64 ah, .int .u64 al] 97) (.cells #[.int .u64 bh, .int .u64 bl] 97)
  generalize (w.alloc (.cells #[.int .u64 ah, .int .u64 al] 97)).alloc (.cells #[.int .u64 bh, .int .u64 bl] 97) = V at *
  go_region_held3 (fun w' => w'.cell? ⟨w.heap.size, 0, none⟩ = some (.int .u64 ah) ∧ w'.cell? ⟨w.heap.size, 1, none⟩ = some (.int .u64 al) ∧ w'.cell? ⟨w.heap.size + 1, 0, none⟩ = some (.int .u64 bh) ∧ w'.cell? ⟨w.heap.size + 1, 1, none⟩ = some (.int .u64 bl)) (first | go_keep | assumption)
    (first | (go_at_call 88; refine (cmp64_any _ _ _).mono ?_; rintro e w1 ⟨rfl, hw⟩; obtain rfl := hw.symm) | (go_at_call 89; refine (cmpU_any _ _ _).mono ?_; rintro e w1 ⟨rfl, hw⟩; obtain rfl := hw.symm) | (go_at_call 87; refine (or_any (cmpZ (IntKind.i64.wrap ah) (IntKind.i64.wrap bh)) (cmpZ al bl) V.heap.size _ (new_cell0 _ _ _ _) (new_cell1 _ _ _ _)).mono ?_; rintro e w2 ⟨rfl, hw⟩; obtain rfl := hw.symm; rw [H2.out]))
  all_goals (try go_wp2_with fail)
  all_goals go_ret
  all_goals exact ⟨rfl, (bV.alloc bV.size _).drew⟩
end Go.Proofs.Ytipnefaggpigfaa
