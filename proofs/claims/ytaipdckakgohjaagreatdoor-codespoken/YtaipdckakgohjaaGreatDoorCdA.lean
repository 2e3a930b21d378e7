/- Package code: small functions. -/
import Derived.Test.YtaipdckakgohjaaGreatDoorRatP1
import Derived.Test.YtaipdckakgohjaaGreatDoorRatT
namespace Go.Proofs.YtaipdckakgohjaaGreatDoor
open Go.RowKit Go.Shelf
attribute [local go_sem] Oper.semAt_some bs_toList

/-- A rate as a value. -/
def rate (n d : Int) (dr : Bool) : Value := .agg #[.int .i64 n, .int .i64 d, .bool dr]
theorem Two.at {V : World} {R R2 : Nat} {x y : Value} (h : Two V R x y) (e : R = R2) : Two V R2 x y := e ▸ h
set_option maxRecDepth 100000 in
theorem speed_any (n d : Int) (dr : Bool) (w : World) :
    Calls Tryz.prog 72 #[.agg #[.int .i64 n, .int .i64 d, .bool dr]] w fun e w' => e = .returned (.agg #[.int .i64 n, .int .i64 d]) ∧ Below w.heap.size w w' := by
  go_enter Tryz.func72, Tryz.ntmps72
  go_wp2_with fail
  exact bodyPost_ret (v := .agg #[.int .i64 n, .int .i64 d]) (by simp [results, Tryz.results72, go_sem]) rfl ⟨rfl, bel2 w _ _⟩
def leftI (n d : Int) : Int := if n = 30000 ∧ d = 1001 then 2 else if n = 60000 ∧ d = 1001 then 4 else 0
theorem eq_pair (a b c d : Int) (w : World) : (Op.equalIn 10000 137 (.agg #[.int .i64 a, .int .i64 b]) (.agg #[.int .i64 c, .int .i64 d])).run Tryz.prog w = .ok (a == c && b == d) w := by
  have u3 : Tryz.prog.underlying 3 = some (.int .i64) := by kernel_rfl
  have a3 : ∀ w, (isAgg 3).run Tryz.prog w = .ok false w := fun _ => by kernel_rfl
  have z3 : ∀ w, (Go.sizeOf 3).run Tryz.prog w = .ok 1 w := fun _ => by kernel_rfl
  have hu : Tryz.prog.underlying 137 = some (.array 2 3) := by kernel_rfl
  rw [show (10000 : Nat) = 9999 + 1 from rfl, Op.equalIn]
  simp only [Sem.run_bind, run_underlying hu, Result.andThen_ok]
  simp only [Std.Legacy.Range.forIn_eq_forIn_range', Std.Legacy.Range.size, Nat.sub_zero, Nat.add_sub_cancel, Nat.div_one, List.range'_succ, List.range'_zero, List.forIn_cons, List.forIn_nil]
  go_simp
  by_cases h1 : a = c <;> by_cases h2 : b = d <;> simp [h1, h2]
attribute [local go_sem] eq_pair
set_option maxRecDepth 100000 in
theorem left_any (n d : Int) (dr : Bool) (w : World) :
    Calls Tryz.prog 73 #[.agg #[.int .i64 n, .int .i64 d, .bool dr]] w fun e w' => e = .returned (.int .i64 (leftI n d)) ∧ Below w.heap.size w w' := by
  unfold leftI
  by_cases h1 : n = 30000 ∧ d = 1001
  · rw [if_pos h1]
    obtain ⟨rfl, rfl⟩ := h1
    go_enter Tryz.func73, Tryz.ntmps73
    go_wp2_with fail
    go_ret
    exact ⟨rfl, bel2 w _ _⟩
  · rw [if_neg h1]
    have e1 : (n == 30000 && d == 1001) = false := by simpa using h1
    by_cases h2 : n = 60000 ∧ d = 1001
    · rw [if_pos h2]
      obtain ⟨rfl, rfl⟩ := h2
      go_enter Tryz.func73, Tryz.ntmps73
      go_wp2_with fail
      go_ret
      exact ⟨rfl, bel2 w _ _⟩
    · rw [if_neg h2]
      have e2 : (n == 60000 && d == 1001) = false := by simpa using h2
      go_enter Tryz.func73, Tryz.ntmps73
      go_wp2_with fail
      go_ret
      exact ⟨rfl, bel2 w _ _⟩
set_option maxRecDepth 100000 in
theorem minute_any (f l : Int) (hf : 1 ≤ f ∧ f ≤ 240) (w : World) :
    Calls Tryz.prog 85 #[.agg #[.int .i64 f, .int .i64 l]] w fun e w' => e = .returned (.int .i64 (60 * f)) ∧ Below w.heap.size w w' := by
  go_enter Tryz.func85, Tryz.ntmps85
  go_wp2
  go_ret
  exact ⟨rfl, bel1 w _⟩
def fullI (n d : Int) : Int := (n + d - 1) / d
set_option maxRecDepth 100000 in
theorem count_any (n d : Int) (dr : Bool) (hn : 1 ≤ n ∧ n ≤ 240000) (hd : 1 ≤ d ∧ d ≤ 1001) (w : World) :
    Calls Tryz.prog 55 #[.agg #[.int .i64 n, .int .i64 d, .bool dr]] w fun e w' => e = .returned (.agg #[.int .i64 (fullI n d), .int .i64 (if dr = true then leftI n d else 0)]) ∧ Below w.heap.size w w' := by
  have HL := hideR (left_any n d true)
  have hf0 : -9223372036854775808 ≤ fullI n d ∧ fullI n d ≤ 9223372036854775807 := by
    have : fullI n d ≤ n + d - 1 := by unfold fullI; exact Int.ediv_le_self _ (by omega)
    have : 0 ≤ fullI n d := by unfold fullI; exact Int.ediv_nonneg (by omega) (by omega)
    omega
  cases dr
  · go_enter Tryz.func55, Tryz.ntmps55
    go_wp2_with fail
    exact bodyPost_ret (v := .agg #[.int .i64 (fullI n d), .int .i64 0]) (by simp [results, Tryz.results55, go_sem, fullI]) rfl ⟨rfl, bel3 w _ _ _⟩
  · simp only [if_true]
    go_enter Tryz.func55, Tryz.ntmps55
    go_wp2_with fail
    go_at_call 73
    refine (HL.out _).mono ?_
    rintro e w1 ⟨rfl, b1⟩
    have R1 := (((Two.new (w.alloc (.cells #[.int .i64 n, .int .i64 d, .bool true] 31)) (.int .i64 0) (.int .i64 0) 95).alloc (.cells #[.int .i64 (fullI n d), .int .i64 0] 95)).keep b1).at (R2 := w.heap.size + 1) (by simp)
    have C1 := ((Two.new ((w.alloc (.cells #[.int .i64 n, .int .i64 d, .bool true] 31)).alloc (.cells #[.int .i64 0, .int .i64 0] 95)) (.int .i64 (fullI n d)) (.int .i64 0) 95).keep b1).at (R2 := w.heap.size + 1 + 1) (by simp)
    have B1 := bup (bel3 w _ _ _) b1
    obtain ⟨_, r0, r1, r2, r3⟩ := id R1
    obtain ⟨_, c0, c1, c2, c3⟩ := id C1
    go_wp2_with fail
    exact bodyPost_ret (v := .agg #[.int .i64 (fullI n d), .int .i64 (leftI n d)]) (by simp [results, Tryz.results55, go_sem, r0, r1]) rfl ⟨rfl, ((B1.setCell (by simp; omega) _).setCell (by simp) _).setCell (by simp) _⟩
set_option maxRecDepth 100000 in
theorem cdial_any (f l : Int) (dr : Bool) (hf : 1 ≤ f ∧ f ≤ 240) (w : World) :
    Calls Tryz.prog 56 #[.agg #[.int .i64 f, .int .i64 l], .bool dr] w fun e w' => e = .returned (.agg #[.int .i64 2, .int .u8 (if dr = true then 59 else 58), .int .i64 f, .int .i64 (if 100 < f then 3 else 2), .bool false]) ∧ Below w.heap.size w w' := by
  cases dr
  all_goals (
    by_cases h : 100 < f
    all_goals (
      go_enter Tryz.func56, Tryz.ntmps56
      go_wp2_with fail))
  all_goals (first
    | exact bodyPost_ret (v := .agg #[.int .i64 2, .int .u8 58, .int .i64 f, .int .i64 2, .bool false]) (by simp [results, Tryz.results56, go_sem]) rfl ⟨rfl, bel3 w _ _ _⟩
    | exact bodyPost_ret (v := .agg #[.int .i64 2, .int .u8 58, .int .i64 f, .int .i64 3, .bool false]) (by simp [results, Tryz.results56, go_sem]) rfl ⟨rfl, bel3 w _ _ _⟩
    | exact bodyPost_ret (v := .agg #[.int .i64 2, .int .u8 59, .int .i64 f, .int .i64 2, .bool false]) (by simp [results, Tryz.results56, go_sem]) rfl ⟨rfl, bel3 w _ _ _⟩
    | exact bodyPost_ret (v := .agg #[.int .i64 2, .int .u8 59, .int .i64 f, .int .i64 3, .bool false]) (by simp [results, Tryz.results56, go_sem]) rfl ⟨rfl, bel3 w _ _ _⟩)
set_option maxRecDepth 100000 in
theorem dialOf_any (fm : Int) (w : World) :
    Calls Tryz.prog 24 #[.int .i64 fm] w fun e w' => e = .returned (if fm = 1 then .tuple #[.agg #[.int .i64 2, .int .u8 44, .int .i64 1000, .int .i64 3, .bool false], .bool true] else if fm = 2 then .tuple #[.agg #[.int .i64 2, .int .u8 46, .int .i64 1000, .int .i64 3, .bool true], .bool true] else if fm = 4 then .tuple #[.agg #[.int .i64 1, .int .u8 46, .int .i64 100, .int .i64 2, .bool false], .bool true] else .tuple #[.agg #[.int .i64 0, .int .u8 0, .int .i64 0, .int .i64 0, .bool false], .bool false]) ∧ Below w.heap.size w w' := by
  by_cases h1 : fm = 1
  · rw [if_pos h1]
    subst h1
    go_enter Tryz.func24, Tryz.ntmps24
    go_wp2_with fail
    exact bodyPost_ret (v := .tuple #[.agg #[.int .i64 2, .int .u8 44, .int .i64 1000, .int .i64 3, .bool false], .bool true]) (by simp [results, Tryz.results24, go_sem]) rfl ⟨rfl, bel1 w _⟩
  · rw [if_neg h1]
    by_cases h2 : fm = 2
    · rw [if_pos h2]
      subst h2
      go_enter Tryz.func24, Tryz.ntmps24
      go_wp2_with fail
      exact bodyPost_ret (v := .tuple #[.agg #[.int .i64 2, .int .u8 46, .int .i64 1000, .int .i64 3, .bool true], .bool true]) (by simp [results, Tryz.results24, go_sem]) rfl ⟨rfl, bel1 w _⟩
    · rw [if_neg h2]
      by_cases h3 : fm = 4
      · rw [if_pos h3]
        subst h3
        go_enter Tryz.func24, Tryz.ntmps24
        go_wp2_with fail
        exact bodyPost_ret (v := .tuple #[.agg #[.int .i64 1, .int .u8 46, .int .i64 100, .int .i64 2, .bool false], .bool true]) (by simp [results, Tryz.results24, go_sem]) rfl ⟨rfl, bel1 w _⟩
      · rw [if_neg h3]
        go_enter Tryz.func24, Tryz.ntmps24
        go_wp2_with fail
        exact bodyPost_ret (v := .tuple #[.agg #[.int .i64 0, .int .u8 0, .int .i64 0, .int .i64 0, .bool false], .bool false]) (by simp [results, Tryz.results24, go_sem]) rfl ⟨rfl, bel1 w _⟩
/-- What code.digits reads. -/
def digA (l : List UInt8) : Int × Bool := if l.all isDig = true then ((valN l : Int), true) else (0, false)
theorem not_all {l : List UInt8} {k : Nat} (hk : k < l.length) (h : ¬ (48 ≤ l[k].toNat ∧ l[k].toNat ≤ 57)) : digA l = (0, false) := by
  unfold digA
  rw [if_neg]
  intro ha
  exact h (dig_at l ha k hk)
set_option maxRecDepth 100000 in
theorem digits_any (l : List UInt8) (hl : l.length ≤ 18) (w : World) :
    Calls Tryz.prog 86 #[.string (bs l)] w fun e w' => e = .returned (.tuple #[.int .i64 (digA l).1, .bool (digA l).2]) ∧ w' = w := by
  have hsz := bs_size l
  obtain ⟨r, hr⟩ : ∃ r, digA l = r := ⟨_, rfl⟩
  rw [hr]
  have HR := hideR hr
  clear hr
  go_enter Tryz.func86, Tryz.ntmps86
  go_wp2
  go_loop [4, 8] (fun vn vi => ∃ k : Nat, k ≤ l.length ∧ (∀ j (hj : j < l.length), j < k → 48 ≤ l[j].toNat ∧ l[j].toNat ≤ 57) ∧ vn = .int .i64 (valN (l.take k)) ∧ vi = .int .i64 k) (fun _ vi => l.length - (intOf vi).toNat)
  case atStart => exact ⟨0, by omega, fun _ _ h => by omega, rfl, rfl⟩
  case round =>
    obtain ⟨k, hk, ha, rfl, rfl⟩ := hrel
    by_cases h1 : k < l.length
    · have hg := bs_get l k (by omega)
      have z1 : (k : Int) < ((bs l).size : Int) := by omega
      have z2 : k < (bs l).size := by omega
      have hna := not_all h1
      have hst := valN_step l k h1
      have hle : valN (l.take k) < 10 ^ k := by
        have := valN_lt (l.take k) (List.all_eq_true.2 fun c hc => by
          obtain ⟨j, hj, rfl⟩ := List.mem_iff_getElem.1 hc
          rw [List.length_take] at hj
          rw [List.getElem_take]
          exact decide_eq_true (ha j (by omega) (by omega))) k (by rw [List.length_take]; omega)
        rwa [List.take_take, Nat.min_self] at this
      have hp := pow10_le k 17 (by omega)
      have hv2 : valN (l.take k) < 100000000000000000 := by omega
      have ha2 : 48 ≤ l[k].toNat ∧ l[k].toNat ≤ 57 → ∀ j (hj : j < l.length), j < k + 1 → 48 ≤ l[j].toNat ∧ l[j].toNat ≤ 57 := by
        intro hx j hj hjk
        rcases Nat.lt_or_ge j k with h | h
        · exact ha j hj h
        · obtain rfl : j = k := by omega
          exact hx
      have HA := hideR ha2
      clear ha ha2 hle hp
      generalize l[k] = c at *
      generalize valN (l.take k) = v at *
      by_cases hx : 48 ≤ c.toNat ∧ c.toNat ≤ 57
      · have ha3 := hideR (HA.out hx)
        clear HA hna
        obtain ⟨x1, x2⟩ := hx
        go_wp2
        go_round
        case rel => exact ⟨k + 1, by omega, ha3.out, by rw [hst]; go_num, by go_num⟩
        case measure => simp [intOf]; omega
      · have hr2 : r = (0, false) := HR.out.symm.trans (hna hx)
        subst hr2
        clear HA hna
        by_cases h2 : c.toNat < 48
        · go_wp2
          go_ret2
          exact ⟨rfl, rfl⟩
        · have h3 : 57 < c.toNat := by omega
          clear hx
          go_wp2
          go_ret2
          exact ⟨rfl, rfl⟩
    · obtain rfl : k = l.length := by omega
      have hr2 : r = ((valN l : Int), true) := by
        rw [← HR.out]
        unfold digA
        rw [if_pos (List.all_eq_true.2 fun c hc => by
          obtain ⟨j, hj, rfl⟩ := List.mem_iff_getElem.1 hc
          exact decide_eq_true (ha j hj hj))]
      subst hr2
      clear ha
      rw [List.take_length] at *
      go_wp2
      go_ret2
      exact ⟨rfl, rfl⟩
end Go.Proofs.YtaipdckakgohjaaGreatDoor
