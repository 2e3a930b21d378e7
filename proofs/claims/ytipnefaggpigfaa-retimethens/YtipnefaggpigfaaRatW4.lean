/- Contracts of package ratio: rests, narrowed numbers, comparison, lowest terms. -/
import Derived.Test.YtipnefaggpigfaaRatW3
import Derived.Deep.RegionHeld3
namespace Go.Proofs.Ytipnefaggpigfaa
open Go.RowKit Go.Shelf
attribute [local go_sem] Oper.semAt_some

set_option maxRecDepth 100000 in
set_option maxHeartbeats 1000000 in
theorem rwrest_any (a d : Int) (h : In128 a) (hd : 0 < d) (hd2 : d < 18446744073709551616) (w : World) :
    Calls Try.prog 90 #[wv a, .int .u64 d] w fun e w' => e = .returned (.int .u64 (a % d)) ∧ Below w.heap.size w w' := by
  have H2 : Hid ((loZ a - loZ (a / d) * d % 18446744073709551616) % 18446744073709551616 = a % d) := rest_wraps a d hd hd2
  have HF := hideR (floor_any a d h hd hd2)
  unfold wv at HF ⊢
  generalize hiZ (a / d) = qh at HF
  generalize loZ (a / d) = ql at HF H2
  generalize hiZ a = ah at HF ⊢
  generalize loZ a = al at HF H2 ⊢
  generalize a % d = m at H2 ⊢
  clear hd hd2 h
  have hfld : ∀ w, Sem.run Try.prog (Instr.field 97 (Value.agg #[.int .u64 qh, .int .u64 ql]) 1) w = Result.ok (.int .u64 ql) w := fun _ => by kernel_rfl
  go_enter Try.func90, Try.ntmps90
  go_wp2_with fail
  have c0 : (w.alloc (.cells #[.int .u64 ah, .int .u64 al] 97)).cell? ⟨w.heap.size, 0, none⟩ = some (.int .u64 ah) := by go_simp
  have c1 : (w.alloc (.cells #[.int .u64 ah, .int .u64 al] 97)).cell? ⟨w.heap.size, 1, none⟩ = some (.int .u64 al) := by go_simp
  have bV := bel1 w (.cells #[.int .u64 ah, .int .u64 al] 97)
  have hz : w.heap.size < (w.alloc (.cells #[.int .u64 ah, .int .u64 al] 97)).heap.size := by simp
  generalize w.alloc (.cells #[.int .u64 ah, .int .u64 al] 97) = V at *
  go_region_held3 (fun w' => w'.cell? ⟨w.heap.size, 0, none⟩ = some (.int .u64 ah) ∧ w'.cell? ⟨w.heap.size, 1, none⟩ = some (.int .u64 al)) (first | go_keep | assumption) (first | (go_at_call 91; refine (HF.out _).mono ?_; rintro e w1 ⟨rfl, b1⟩; have kk : w1.cell? ⟨w.heap.size, 0, none⟩ = some (.int .u64 ah) ∧ w1.cell? ⟨w.heap.size, 1, none⟩ = some (.int .u64 al) := ⟨(b1.cell (p := ⟨w.heap.size, 0, none⟩) hz).trans c0, (b1.cell (p := ⟨w.heap.size, 1, none⟩) hz).trans c1⟩))
  all_goals (try go_wp2_with fail)
  all_goals go_ret
  all_goals refine ⟨ret_int ?_, bup bV.drew b1⟩
  all_goals rw [IntKind.wrap_u64, IntKind.wrap_u64]
  all_goals exact H2.out

theorem wrap_lo (a : Int) (h : -9223372036854775808 ≤ a ∧ a ≤ 9223372036854775807) : wrap64 (loZ a) = a := by unfold wrap64 loZ; omega
theorem wrap_out (a : Int) (h : In128 a) (k : ¬ (-9223372036854775808 ≤ a ∧ a ≤ 9223372036854775807)) : (hiZ a == hiZ (wrap64 (loZ a))) = false := by
  have h0 := h.1
  have h1 := h.2
  simp only [beq_eq_false_iff_ne]
  unfold wrap64 hiZ loZ
  omega

set_option maxRecDepth 100000 in
set_option maxHeartbeats 1000000 in
theorem narrow_in (a : Int) (h : -9223372036854775808 ≤ a ∧ a ≤ 9223372036854775807) (w : World) :
    Calls Try.prog 92 #[wv a] w fun e w' => e = .returned (.tuple #[.int .i64 (if inNum a = true then a else 0), .bool (inNum a)]) ∧ Below w.heap.size w w' := by
  have hk := wrap_lo a h
  have hs := sz_range a h
  have hi : inNum a = decide (¬ 4611686018427387904 < sz a) := by unfold inNum sz; rw [decide_eq_decide]; omega
  rw [hi]
  clear hi
  unfold wv
  go_enter Try.func92, Try.ntmps92
  go_wp2_with fail
  have c0 : (w.alloc (.cells #[.int .u64 (hiZ a), .int .u64 (loZ a)] 97)).cell? ⟨w.heap.size, 0, none⟩ = some (.int .u64 (hiZ a)) := by go_simp
  have c1 : (w.alloc (.cells #[.int .u64 (hiZ a), .int .u64 (loZ a)] 97)).cell? ⟨w.heap.size, 1, none⟩ = some (.int .u64 (loZ a)) := by go_simp
  have bV := bel1 w (.cells #[.int .u64 (hiZ a), .int .u64 (loZ a)] 97)
  have hz : w.heap.size < (w.alloc (.cells #[.int .u64 (hiZ a), .int .u64 (loZ a)] 97)).heap.size := by simp
  generalize w.alloc (.cells #[.int .u64 (hiZ a), .int .u64 (loZ a)] 97) = V at *
  go_region_held3 (fun w' => w'.cell? ⟨w.heap.size, 0, none⟩ = some (.int .u64 (hiZ a)) ∧ w'.cell? ⟨w.heap.size, 1, none⟩ = some (.int .u64 (loZ a))) (first | go_keep | assumption) (first | (go_at_call 94; refine (widen_any a h.1 h.2 _).mono ?_; rintro e w1 ⟨rfl, b1⟩; simp only [wv]; have kk : w1.cell? ⟨w.heap.size, 0, none⟩ = some (.int .u64 (hiZ a)) ∧ w1.cell? ⟨w.heap.size, 1, none⟩ = some (.int .u64 (loZ a)) := ⟨(b1.cell (p := ⟨w.heap.size, 0, none⟩) hz).trans c0, (b1.cell (p := ⟨w.heap.size, 1, none⟩) hz).trans c1⟩) | (go_at_call 70; refine (size_i a h _).mono ?_; rintro e w2 ⟨rfl, hw⟩; obtain rfl := hw.symm))
  all_goals (try go_wp2_with fail)
  all_goals go_ret2
  all_goals exact ⟨rfl, bup bV.drew b1⟩

set_option maxRecDepth 100000 in
set_option maxHeartbeats 1000000 in
theorem narrow_out (a : Int) (h : In128 a) (ho : ¬ (-9223372036854775808 ≤ a ∧ a ≤ 9223372036854775807)) (w : World) :
    Calls Try.prog 92 #[wv a] w fun e w' => e = .returned (.tuple #[.int .i64 (if inNum a = true then a else 0), .bool (inNum a)]) ∧ Below w.heap.size w w' := by
  have hk := wrap_out a h ho
  have hr : -9223372036854775808 ≤ wrap64 (loZ a) ∧ wrap64 (loZ a) ≤ 9223372036854775807 := by unfold wrap64 loZ; omega
  have hi : inNum a = false := by unfold inNum; rw [decide_eq_false]; omega
  rw [hi]
  clear hi
  obtain ⟨k, ek⟩ : ∃ k, wrap64 (loZ a) = k := ⟨_, rfl⟩
  rw [ek] at hk hr
  have HW := hideR (widen_any k hr.1 hr.2)
  unfold wv at HW ⊢
  generalize hiZ k = kh at HW hk
  generalize loZ k = kl at HW
  clear h ho
  go_enter Try.func92, Try.ntmps92
  go_wp2_with fail
  have c0 : (w.alloc (.cells #[.int .u64 (hiZ a), .int .u64 (loZ a)] 97)).cell? ⟨w.heap.size, 0, none⟩ = some (.int .u64 (hiZ a)) := by go_simp
  have c1 : (w.alloc (.cells #[.int .u64 (hiZ a), .int .u64 (loZ a)] 97)).cell? ⟨w.heap.size, 1, none⟩ = some (.int .u64 (loZ a)) := by go_simp
  have bV := bel1 w (.cells #[.int .u64 (hiZ a), .int .u64 (loZ a)] 97)
  have hz : w.heap.size < (w.alloc (.cells #[.int .u64 (hiZ a), .int .u64 (loZ a)] 97)).heap.size := by simp
  generalize w.alloc (.cells #[.int .u64 (hiZ a), .int .u64 (loZ a)] 97) = V at *
  first | (go_region_held (fun w' => w'.cell? ⟨w.heap.size, 0, none⟩ = some (.int .u64 (hiZ a)) ∧ w'.cell? ⟨w.heap.size, 1, none⟩ = some (.int .u64 (loZ a))) (first | go_keep | assumption) (first | (go_at_call 94; refine (HW.out _).mono ?_; rintro e w1 ⟨rfl, b1⟩; have kk : w1.cell? ⟨w.heap.size, 0, none⟩ = some (.int .u64 (hiZ a)) ∧ w1.cell? ⟨w.heap.size, 1, none⟩ = some (.int .u64 (loZ a)) := ⟨(b1.cell (p := ⟨w.heap.size, 0, none⟩) hz).trans c0, (b1.cell (p := ⟨w.heap.size, 1, none⟩) hz).trans c1⟩))) | fail
  all_goals (try go_wp2_with fail)
  all_goals go_ret2
  all_goals exact ⟨rfl, bup bV.drew b1⟩

theorem narrow_any (a : Int) (h : In128 a) (w : World) :
    Calls Try.prog 92 #[wv a] w fun e w' => e = .returned (.tuple #[.int .i64 (if inNum a = true then a else 0), .bool (inNum a)]) ∧ Below w.heap.size w w' := by
  by_cases hi : -9223372036854775808 ≤ a ∧ a ≤ 9223372036854775807
  · exact narrow_in a hi w
  · exact narrow_out a h hi w

/-- -1, 0, 1. -/
def cmpZ (a b : Int) : Int := if a < b then -1 else if b < a then 1 else 0
theorem cmp64_any (a b : Int) (w : World) :
    Calls Try.prog 88 #[.int .i64 a, .int .i64 b] w fun e w' => e = .returned (.int .i64 (cmpZ a b)) ∧ w' = w := by
  go_enter Try.func88, Try.ntmps88
  go_wp2
  all_goals go_ret
  all_goals refine ⟨ret_int ?_, rfl⟩
  all_goals unfold cmpZ
  all_goals first | rw [if_pos (by omega)] | rw [if_neg (by omega), if_pos (by omega)] | rw [if_neg (by omega), if_neg (by omega)]
theorem cmpU_any (a b : Int) (w : World) :
    Calls Try.prog 89 #[.int .u64 a, .int .u64 b] w fun e w' => e = .returned (.int .i64 (cmpZ a b)) ∧ w' = w := by
  go_enter Try.func89, Try.ntmps89
  go_wp2
  all_goals go_ret
  all_goals refine ⟨ret_int ?_, rfl⟩
  all_goals unfold cmpZ
  all_goals first | rw [if_pos (by omega)] | rw [if_neg (by omega), if_pos (by omega)] | rw [if_neg (by omega), if_neg (by omega)]
end Go.Proofs.Ytipnefaggpigfaa
