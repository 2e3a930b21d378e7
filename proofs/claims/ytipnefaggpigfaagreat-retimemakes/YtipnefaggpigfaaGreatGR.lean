/- Several texts, one behind the other. -/
import Derived.Shelf.Small.Wraps
import Derived.Shelf.Strings.Cut
import Derived.Shelf.Strings.SlTrimAscii
import Derived.Deep.RegionHeld3
import Derived.Test.YtipnefaggpigfaaGreatProg
import Derived.Test.YtipnefaggpigfaaGreatRatT
import Derived.Test.YtipnefaggpigfaaGreatRatW9
import Derived.Test.YtipnefaggpigfaaGreatRefB4
/- The shelf's contracts of strings.CutPrefix, Cut and Trim speak of this program. -/
namespace Go.Proofs.YtipnefaggpigfaaGreat
open Go.Shelf
end Go.Proofs.YtipnefaggpigfaaGreat

/- Contracts for package ratio's texts: strings.Cut at one byte; digits. -/
namespace Go.Proofs.YtipnefaggpigfaaGreat
open Go.RowKit Go.Shelf
attribute [local go_sem] Oper.semAt_some

/-- A string of these bytes. -/
def bs (l : List UInt8) : ByteArray := ⟨l.toArray⟩
theorem bs_list (l : List UInt8) : (bs l).data.toList = l := by simp [bs]
theorem bs_of (s : ByteArray) : bs s.data.toList = s := by cases s; simp [bs]
theorem bs_toList (l : List UInt8) : (bs l).toList = l := by rw [Lib.toList_data, bs_list]
attribute [local go_sem] bs_toList
theorem bs_size (l : List UInt8) : (bs l).size = l.length := by simp [bs, ByteArray.size]

/-! digits -/
def isDig (c : UInt8) : Bool := decide (48 ≤ c.toNat ∧ c.toNat ≤ 57)
def digL : List UInt8 := [48, 49, 50, 51, 52, 53, 54, 55, 56, 57]
theorem dig_contains (c : UInt8) : digL.contains c = isDig c := by
  have h : ∀ n : Fin 256, digL.contains (UInt8.ofNat n.1) = isDig (UInt8.ofNat n.1) := by decide +kernel
  have := h ⟨c.toNat, c.toNat_lt⟩
  simpa using this
theorem dropWhile_nil {p : UInt8 → Bool} : ∀ (l : List UInt8), l.dropWhile p = [] ↔ l.all p = true
  | [] => by simp
  | a :: l => by
    cases h : p a <;> simp [List.dropWhile, h, dropWhile_nil l]
theorem trim_nil (l cs : List UInt8) : (Lib.trimS l cs == []) = l.all (cs.contains ·) := by
  rw [Bool.eq_iff_iff, beq_iff_eq]
  unfold Lib.trimS Lib.trimLeftS
  rw [dropWhile_nil]
  constructor
  · intro h
    -- what is left behind the trailing ones is all in the set, and so is the rest
    unfold Lib.trimRightS at h
    have h2 : ((l.reverse.dropWhile (cs.contains ·)).all (cs.contains ·)) = true := by rw [List.all_reverse] at h; exact h
    have h3 : l.reverse.dropWhile (cs.contains ·) = [] := by
      cases hd : l.reverse.dropWhile (cs.contains ·) with
      | nil => rfl
      | cons a t =>
        have := List.head_dropWhile_not (p := (cs.contains ·)) (l := l.reverse) (by rw [hd]; simp)
        rw [hd] at h2
        simp only [hd, List.head_cons] at this
        rw [List.all_cons, this] at h2
        cases h2
    rw [dropWhile_nil, List.all_reverse] at h3
    exact h3
  · intro h
    unfold Lib.trimRightS
    rw [← List.all_reverse, ← dropWhile_nil] at h
    rw [h]
    rfl

/-- digits, one at least -/
def digB (l : List UInt8) : Bool := (l != []) && l.all isDig
/-! numbers -/
def numB (l : List UInt8) : Bool := digB l && (l == [48] || l.head? != some 48)

/-- what digits say -/
def valN (l : List UInt8) : Nat := l.foldl (fun n c => n * 10 + (c.toNat - 48)) 0
theorem valN_step (l : List UInt8) (k : Nat) (hk : k < l.length) : valN (l.take (k + 1)) = valN (l.take k) * 10 + (l[k].toNat - 48) := by
  unfold valN
  rw [List.take_succ_eq_append_getElem hk, List.foldl_append]
  rfl
theorem dig_at (l : List UInt8) (h : l.all isDig = true) (k : Nat) (hk : k < l.length) : 48 ≤ l[k].toNat ∧ l[k].toNat ≤ 57 := by
  have := List.all_eq_true.1 h l[k] (List.getElem_mem hk)
  exact of_decide_eq_true this
theorem valN_lt (l : List UInt8) (h : l.all isDig = true) : ∀ k, k ≤ l.length → valN (l.take k) < 10 ^ k
  | 0, _ => by simp [valN]
  | k + 1, hk => by
    rw [valN_step l k hk, Nat.pow_succ]
    have := valN_lt l h k (by omega)
    have := dig_at l h k hk
    omega
theorem pow10_le (k m : Nat) (h : k ≤ m) : 10 ^ k ≤ 10 ^ m := Nat.pow_le_pow_right (by omega) h
theorem bs_get (l : List UInt8) (k : Nat) (hk : k < (bs l).size) : (bs l)[k] = l[k]'(by rw [bs_size] at hk; exact hk) := by
  exact List.getElem_toArray (xs := l) (i := k) hk

end Go.Proofs.YtipnefaggpigfaaGreat

/- Contracts for package ratio's texts: what was read. -/
namespace Go.Proofs.YtipnefaggpigfaaGreat
open Go.RowKit Go.Shelf
attribute [local go_sem] Oper.semAt_some bs_toList

theorem bs_append (a b : List UInt8) : bs a ++ bs b = bs (a ++ b) := by
  apply ByteArray.ext
  simp [bs]

theorem mul_small (x y : Nat) (hx : x < 18446744073709551616) (hy : y < 18446744073709551616) (w : World) : Calls Tryz.prog 66 #[.int .u64 x, .int .u64 y] w fun e w' => e = .returned (.tuple #[.int .u64 (hiZ ((x : Int) * y)), .int .u64 (loZ ((x : Int) * y))]) ∧ w' = w :=
  mul_i x y ⟨by omega, by omega⟩ ⟨by omega, by omega⟩ w

def topN (wh be : List UInt8) : Nat := valN wh * 10 ^ be.length + valN be
theorem loZ_small (n : Nat) (h : n < 18446744073709551616) : loZ (n : Int) = n ∧ hiZ (n : Int) = 0 := by unfold loZ hiZ; omega

def botN (un be : List UInt8) : Nat := if un.isEmpty = true then 10 ^ be.length else valN un
end Go.Proofs.YtipnefaggpigfaaGreat

/- Package code: small functions. -/
namespace Go.Proofs.YtipnefaggpigfaaGreat
open Go.RowKit Go.Shelf
attribute [local go_sem] Oper.semAt_some bs_toList

/-- A rate as a value. -/
def rate (n d : Int) (dr : Bool) : Value := .agg #[.int .i64 n, .int .i64 d, .bool dr]
theorem Two.at {V : World} {R R2 : Nat} {x y : Value} (h : Two V R x y) (e : R = R2) : Two V R2 x y := e ▸ h
set_option maxRecDepth 100000 in
theorem speed_any (n d : Int) (dr : Bool) (w : World) :
    Calls Tryz.prog 91 #[.agg #[.int .i64 n, .int .i64 d, .bool dr]] w fun e w' => e = .returned (.agg #[.int .i64 n, .int .i64 d]) ∧ Below w.heap.size w w' := by
  go_enter Tryz.func91, Tryz.ntmps91
  go_wp2_with fail
  exact bodyPost_ret (v := .agg #[.int .i64 n, .int .i64 d]) (by simp [results, Tryz.results91, go_sem]) rfl ⟨rfl, bel2 w _ _⟩
def leftI (n d : Int) : Int := if n = 30000 ∧ d = 1001 then 2 else if n = 60000 ∧ d = 1001 then 4 else 0
theorem eq_pair (a b c d : Int) (w : World) : (Op.equalIn 10000 132 (.agg #[.int .i64 a, .int .i64 b]) (.agg #[.int .i64 c, .int .i64 d])).run Tryz.prog w = .ok (a == c && b == d) w := by
  have u3 : Tryz.prog.underlying 3 = some (.int .i64) := by kernel_rfl
  have a3 : ∀ w, (isAgg 3).run Tryz.prog w = .ok false w := fun _ => by kernel_rfl
  have z3 : ∀ w, (Go.sizeOf 3).run Tryz.prog w = .ok 1 w := fun _ => by kernel_rfl
  have hu : Tryz.prog.underlying 132 = some (.array 2 3) := by kernel_rfl
  rw [show (10000 : Nat) = 9999 + 1 from rfl, Op.equalIn]
  simp only [Sem.run_bind, run_underlying hu, Result.andThen_ok]
  simp only [Std.Legacy.Range.forIn_eq_forIn_range', Std.Legacy.Range.size, Nat.sub_zero, Nat.add_sub_cancel, Nat.div_one, List.range'_succ, List.range'_zero, List.forIn_cons, List.forIn_nil]
  go_simp
  by_cases h1 : a = c <;> by_cases h2 : b = d <;> simp [h1, h2]
attribute [local go_sem] eq_pair
set_option maxRecDepth 100000 in
theorem left_any (n d : Int) (dr : Bool) (w : World) :
    Calls Tryz.prog 92 #[.agg #[.int .i64 n, .int .i64 d, .bool dr]] w fun e w' => e = .returned (.int .i64 (leftI n d)) ∧ Below w.heap.size w w' := by
  unfold leftI
  by_cases h1 : n = 30000 ∧ d = 1001
  · rw [if_pos h1]
    obtain ⟨rfl, rfl⟩ := h1
    go_enter Tryz.func92, Tryz.ntmps92
    go_wp2_with fail
    go_ret
    exact ⟨rfl, bel2 w _ _⟩
  · rw [if_neg h1]
    have e1 : (n == 30000 && d == 1001) = false := by simpa using h1
    by_cases h2 : n = 60000 ∧ d = 1001
    · rw [if_pos h2]
      obtain ⟨rfl, rfl⟩ := h2
      go_enter Tryz.func92, Tryz.ntmps92
      go_wp2_with fail
      go_ret
      exact ⟨rfl, bel2 w _ _⟩
    · rw [if_neg h2]
      have e2 : (n == 60000 && d == 1001) = false := by simpa using h2
      go_enter Tryz.func92, Tryz.ntmps92
      go_wp2_with fail
      go_ret
      exact ⟨rfl, bel2 w _ _⟩
def fullI (n d : Int) : Int := (n + d - 1) / d
/-- What code.digits reads. -/
def digA (l : List UInt8) : Int × Bool := if l.all isDig = true then ((valN l : Int), true) else (0, false)
theorem not_all {l : List UInt8} {k : Nat} (hk : k < l.length) (h : ¬ (48 ≤ l[k].toNat ∧ l[k].toNat ≤ 57)) : digA l = (0, false) := by
  unfold digA
  rw [if_neg]
  intro ha
  exact h (dig_at l ha k hk)
end Go.Proofs.YtipnefaggpigfaaGreat

/- Contracts of package ratio: made, Whole. -/
namespace Go.Proofs.YtipnefaggpigfaaGreat
open Go.RowKit Go.Shelf
attribute [local go_sem] Oper.semAt_some

theorem Two.two {V : World} {R : Nat} {x y : Value} (h : Two V R x y) : V.cell? ⟨R, 0, none⟩ = some x ∧ V.cell? ⟨R, 1, none⟩ = some y := ⟨h.2.1, h.2.2.1⟩
theorem set_apart2 {V : World} {A B i j : Nat} {x : Value} (h : A ≠ B) : (V.setCell ⟨A, i, none⟩ x).cell? ⟨B, j, none⟩ = V.cell? ⟨B, j, none⟩ :=
  World.cell?_setCell_other _ _ _ _ (fun e => h (congrArg Addr.block e))

/-- what made tells -/
def madeA (z dd how : Int) : Int × Int := if howB how = true then (if inNum (wholeI how z dd) = true then (wholeI how z dd, 0) else (0, 12)) else (0, 1)
theorem madeA_in (z dd how : Int) (h : howB how = true) : (inNum (wholeI how z dd) = true ∧ madeA z dd how = (if inNum (wholeI how z dd) = true then wholeI how z dd else 0, 0)) ∨ (inNum (wholeI how z dd) = false ∧ madeA z dd how = (0, 12)) := by
  unfold madeA
  rw [if_pos h]
  cases hi : inNum (wholeI how z dd)
  · exact .inr ⟨rfl, if_neg (by simp)⟩
  · exact .inl ⟨rfl, by rw [if_pos rfl, if_pos rfl]⟩
theorem In128.add1 {a : Int} (h0 : -21267647932558653966460912964485513216 ≤ a) (h1 : a ≤ 21267647932558653966460912964485513216) : In128 (a + 1) := by unfold In128; omega
theorem ediv_bounds (a d B : Int) (hd : 0 < d) (hB : 0 ≤ B) (h0 : -B ≤ a) (h1 : a ≤ B) : -B ≤ a / d ∧ a / d ≤ B := by
  constructor
  · apply Int.le_ediv_of_mul_le hd
    have : -B * d ≤ -B * 1 := Int.mul_le_mul_of_nonpos_left (by omega) (by omega)
    omega
  · have : a / d ≤ B / d := Int.ediv_le_ediv hd h1
    have : B / d ≤ B := Int.ediv_le_self _ hB
    omega

end Go.Proofs.YtipnefaggpigfaaGreat

/- Contracts of package ratio: Whole, Snap, Time. -/
namespace Go.Proofs.YtipnefaggpigfaaGreat
open Go.RowKit Go.Shelf
attribute [local go_sem] Oper.semAt_some

theorem times_bounds {n t : Int} (h : -4611686018427387904 ≤ n ∧ n ≤ 4611686018427387904) (ht : I64 t) : -42535295865117307932921825928971026432 ≤ n * t ∧ n * t ≤ 42535295865117307932921825928971026432 := by
  unfold I64 at ht
  have := mul_bounds (x := n) (y := t) (X := 4611686018427387904) (Y := 9223372036854775808) h ⟨by omega, by omega⟩
  omega

end Go.Proofs.YtipnefaggpigfaaGreat

/- Package code: rates, frames and times. -/
namespace Go.Proofs.YtipnefaggpigfaaGreat
open Go.RowKit Go.Shelf
attribute [local go_sem] Oper.semAt_some

/-- A rate in memory. -/
def RateAt (V : World) (B : Nat) (n d : Int) (dr : Bool) : Prop := B < V.heap.size ∧ V.cell? ⟨B, 0, none⟩ = some (.int .i64 n) ∧ V.cell? ⟨B, 1, none⟩ = some (.int .i64 d) ∧ V.cell? ⟨B, 2, none⟩ = some (.bool dr)
theorem RateAt.new (w : World) (n d : Int) (dr : Bool) : RateAt (w.alloc (.cells #[.int .i64 n, .int .i64 d, .bool dr] 25)) w.heap.size n d dr := ⟨by simp, by go_simp, by go_simp, by go_simp⟩
theorem RateAt.keep {V U : World} {B : Nat} {n d : Int} {dr : Bool} (h : RateAt V B n d dr) (k : Below V.heap.size V U) : RateAt U B n d dr :=
  ⟨Nat.lt_of_lt_of_le h.1 k.size, (k.cell (p := ⟨B, 0, none⟩) h.1).trans h.2.1, (k.cell (p := ⟨B, 1, none⟩) h.1).trans h.2.2.1, (k.cell (p := ⟨B, 2, none⟩) h.1).trans h.2.2.2⟩
theorem RateAt.alloc {V : World} {B : Nat} {n d : Int} {dr : Bool} (h : RateAt V B n d dr) (o : Obj) : RateAt (V.alloc o) B n d dr := h.keep (bel1 V o)
theorem RateAt.drew {V : World} {B : Nat} {n d : Int} {dr : Bool} (h : RateAt V B n d dr) : RateAt V.drew B n d dr := h
def checkI (n d : Int) (dr : Bool) : Int := if 1 ≤ n ∧ n ≤ 240000 ∧ 1 ≤ d ∧ d ≤ 1001 ∧ d ≤ n ∧ n ≤ d * 240 ∧ rightB ⟨n, d⟩ = true ∧ (dr = true → leftI n d ≠ 0) then 0 else 14
set_option maxRecDepth 100000 in
theorem check_out (n d : Int) (dr : Bool) (h : n < 1 ∨ 240000 < n ∨ d < 1 ∨ 1001 < d) (w : World) :
    Calls Tryz.prog 64 #[.agg #[.int .i64 n, .int .i64 d, .bool dr]] w fun e w' => e = .returned (.int .i64 14) ∧ Below w.heap.size w w' := by
  rcases h with h | h | h | h
  all_goals (
    go_enter Tryz.func64, Tryz.ntmps64
    go_wp2_with fail)
  all_goals (go_ret; exact ⟨rfl, bel1 w _⟩)
set_option maxRecDepth 100000 in
theorem check_slow (n d : Int) (dr : Bool) (h1 : 1 ≤ n) (h2 : n ≤ 240000) (h3 : 1 ≤ d) (h4 : d ≤ 1001) (h : n < d ∨ d * 240 < n) (w : World) :
    Calls Tryz.prog 64 #[.agg #[.int .i64 n, .int .i64 d, .bool dr]] w fun e w' => e = .returned (.int .i64 14) ∧ Below w.heap.size w w' := by
  rcases h with h | h
  all_goals (
    go_enter Tryz.func64, Tryz.ntmps64
    go_wp2_with fail)
  all_goals (go_ret; exact ⟨rfl, bel1 w _⟩)
set_option maxRecDepth 100000 in
set_option maxHeartbeats 1000000 in
theorem check_walk5 (n d L : Int) (dr R : Bool) (h1 : 1 ≤ n) (h2 : n ≤ 240000) (h3 : 1 ≤ d) (h4 : d ≤ 1001) (h5 : d ≤ n) (h6 : n ≤ d * 240) (w : World)
    (HS : ∀ w, Calls Tryz.prog 91 #[.agg #[.int .i64 n, .int .i64 d, .bool dr]] w fun e w' => e = .returned (.agg #[.int .i64 n, .int .i64 d]) ∧ Below w.heap.size w w')
    (HR : ∀ w, Calls Tryz.prog 21 #[.agg #[.int .i64 n, .int .i64 d]] w fun e w' => e = .returned (.bool R) ∧ Below w.heap.size w w')
    (HL : ∀ w, Calls Tryz.prog 92 #[.agg #[.int .i64 n, .int .i64 d, .bool dr]] w fun e w' => e = .returned (.int .i64 L) ∧ Below w.heap.size w w') :
    Calls Tryz.prog 64 #[.agg #[.int .i64 n, .int .i64 d, .bool dr]] w fun e w' => e = .returned (.int .i64 (if R = true ∧ (dr = true → L ≠ 0) then 0 else 14)) ∧ Below w.heap.size w w' := by
  have HS := hideR HS
  have HR := hideR HR
  have HL := hideR HL
  by_cases c1 : R = true ∧ (dr = true → L ≠ 0)
  · rw [if_pos c1]
    obtain ⟨rfl, c2⟩ := c1
    cases dr
    · go_enter Tryz.func64, Tryz.ntmps64
      go_wp2_with fail
      go_at_call 91
      refine (HS.out _).mono ?_
      rintro e w1 ⟨rfl, b1⟩
      have A1 := (RateAt.new w n d _).keep b1
      have B1 := bup (bel1 w _) b1
      clear b1
      obtain ⟨_, a0, a1, a2⟩ := id A1
      go_wp2_with fail
      go_at_call 21
      refine (HR.out _).mono ?_
      rintro e w2 ⟨rfl, b2⟩
      have A2 := A1.keep b2
      have B2 := bup B1 b2
      clear A1 B1 b2 a0 a1 a2
      obtain ⟨_, a0, a1, a2⟩ := id A2
      go_wp2_with fail
      go_ret
      exact ⟨rfl, B2⟩
    · have c3 : ¬ L = 0 := c2 rfl
      have c4 : (L == 0) = false := by simpa using c3
      clear c2
      go_enter Tryz.func64, Tryz.ntmps64
      go_wp2_with fail
      go_at_call 91
      refine (HS.out _).mono ?_
      rintro e w1 ⟨rfl, b1⟩
      have A1 := (RateAt.new w n d _).keep b1
      have B1 := bup (bel1 w _) b1
      clear b1
      obtain ⟨_, a0, a1, a2⟩ := id A1
      go_wp2_with fail
      go_at_call 21
      refine (HR.out _).mono ?_
      rintro e w2 ⟨rfl, b2⟩
      have A2 := A1.keep b2
      have B2 := bup B1 b2
      clear A1 B1 b2 a0 a1 a2
      obtain ⟨_, a0, a1, a2⟩ := id A2
      go_wp2_with fail
      go_at_call 92
      refine (HL.out _).mono ?_
      rintro e w3 ⟨rfl, b3⟩
      go_wp2_with fail
      go_ret
      exact ⟨rfl, bup B2 b3⟩
  · rw [if_neg c1]
    cases R
    · clear c1
      go_enter Tryz.func64, Tryz.ntmps64
      go_wp2_with fail
      go_at_call 91
      refine (HS.out _).mono ?_
      rintro e w1 ⟨rfl, b1⟩
      have A1 := (RateAt.new w n d _).keep b1
      have B1 := bup (bel1 w _) b1
      clear b1
      obtain ⟨_, a0, a1, a2⟩ := id A1
      go_wp2_with fail
      go_at_call 21
      refine (HR.out _).mono ?_
      rintro e w2 ⟨rfl, b2⟩
      have A2 := A1.keep b2
      have B2 := bup B1 b2
      clear A1 B1 b2 a0 a1 a2
      obtain ⟨_, a0, a1, a2⟩ := id A2
      go_wp2_with fail
      go_ret
      exact ⟨rfl, B2⟩
    · have c2 : dr = true ∧ L = 0 := by
        cases dr
        · exact absurd ⟨rfl, by simp⟩ c1
        · refine ⟨rfl, Decidable.byContradiction fun h => c1 ⟨rfl, fun _ => h⟩⟩
      obtain ⟨rfl, rfl⟩ := c2
      clear c1
      go_enter Tryz.func64, Tryz.ntmps64
      go_wp2_with fail
      go_at_call 91
      refine (HS.out _).mono ?_
      rintro e w1 ⟨rfl, b1⟩
      have A1 := (RateAt.new w n d _).keep b1
      have B1 := bup (bel1 w _) b1
      clear b1
      obtain ⟨_, a0, a1, a2⟩ := id A1
      go_wp2_with fail
      go_at_call 21
      refine (HR.out _).mono ?_
      rintro e w2 ⟨rfl, b2⟩
      have A2 := A1.keep b2
      have B2 := bup B1 b2
      clear A1 B1 b2 a0 a1 a2
      obtain ⟨_, a0, a1, a2⟩ := id A2
      go_wp2_with fail
      go_at_call 92
      refine (HL.out _).mono ?_
      rintro e w3 ⟨rfl, b3⟩
      go_wp2_with fail
      go_ret
      exact ⟨rfl, bup B2 b3⟩
theorem check_any (n d : Int) (dr : Bool) (hn : I64 n) (hd : I64 d) (w : World) :
    Calls Tryz.prog 64 #[.agg #[.int .i64 n, .int .i64 d, .bool dr]] w fun e w' => e = .returned (.int .i64 (checkI n d dr)) ∧ Below w.heap.size w w' := by
  unfold checkI
  by_cases h : n < 1 ∨ 240000 < n ∨ d < 1 ∨ 1001 < d
  · rw [if_neg (by omega)]
    exact check_out n d dr h w
  · by_cases h2 : n < d ∨ d * 240 < n
    · rw [if_neg (by omega)]
      exact check_slow n d dr (by omega) (by omega) (by omega) (by omega) h2 w
    · have := check_walk5 n d (leftI n d) dr (rightB ⟨n, d⟩) (by omega) (by omega) (by omega) (by omega) (by omega) (by omega) w (speed_any n d dr) (right_any ⟨n, d⟩ ⟨hn, hd⟩) (left_any n d dr)
      by_cases c : rightB ⟨n, d⟩ = true ∧ (dr = true → leftI n d ≠ 0)
      · rw [if_pos c] at this
        rw [if_pos ⟨by omega, by omega, by omega, by omega, by omega, by omega, c⟩]
        exact this
      · rw [if_neg c] at this
        rw [if_neg fun x => c x.2.2.2.2.2.2]
        exact this
end Go.Proofs.YtipnefaggpigfaaGreat

/- surtitleref5: common, Check. -/
namespace Go.Proofs.YtipnefaggpigfaaGreat
open Go.RowKit Go.Shelf
attribute [local go_sem] Oper.semAt_some

theorem common5_any (a b : Nat) (ha : a ≤ 9223372036854775807) (hb : b ≤ 9223372036854775807) (w : World) :
    Calls Tryz.prog 68 #[.int .i64 a, .int .i64 b] w fun e w' => e = .returned (.int .i64 (a.gcd b : Nat)) ∧ ∃ m, w' = w.drewN m := by
  go_enter Tryz.func68, Tryz.ntmps68
  go_wp2
  go_loopw [0, 1] (fun va vb wr => ∃ x y : Nat, va = .int .i64 x ∧ vb = .int .i64 y ∧ x ≤ 9223372036854775807 ∧ y ≤ 9223372036854775807 ∧ x.gcd y = a.gcd b ∧ ∃ m, wr = w.drewN m) (fun _ vb _ => (intOf vb).toNat)
  case atStart => exact ⟨a, b, rfl, rfl, ha, hb, rfl, 0, rfl⟩
  case round =>
    obtain ⟨x, y, rfl, rfl, hx, hy, hg, m, hm⟩ := hrel
    have HG : Hid (x.gcd y = a.gcd b) := hg
    clear hg
    by_cases h0 : y = 0
    · subst h0
      go_wp2
      go_ret
      refine ⟨ret_int ?_, m, rfl⟩
      have := HG.out
      simp at this
      rw [this]
    · have hn : ((y : Int) != 0) = true := by simp; omega
      have hy0 : (0 : Int) < (y : Int) := by omega
      have hx0 : (0 : Int) ≤ (x : Int) := by omega
      obtain ⟨r, hr⟩ : ∃ r, x % y = r := ⟨_, rfl⟩
      have hr1 : r < y := by rw [← hr]; exact Nat.mod_lt x (by omega)
      have hgr := gcd_round x y
      rw [hr] at hgr
      have HG2 : Hid (y.gcd r = a.gcd b) := hgr.trans HG.out
      have HRr : Hid ((x : Int) % (y : Int) = (r : Int)) := hideR (by rw [← hr]; simp)
      clear hgr hr HG
      go_wp2
      go_region
      all_goals (try go_wp2)
      all_goals (
        go_roundw
        case rel => exact ⟨y, r, rfl, by rw [HRr.out], hy, by omega, HG2.out, m + 1, rfl⟩
        case measure =>
          rw [HRr.out]
          simp [intOf]
          omega)
set_option maxRecDepth 100000 in
theorem rcheck_out (n d : Int) (dr : Bool) (h : n < 1 ∨ 240000 < n ∨ d < 1 ∨ 1001 < d) (w : World) :
    Calls Tryz.prog 28 #[.agg #[.int .i64 n, .int .i64 d, .bool dr]] w fun e w' => e = .returned (.int .i64 14) ∧ Below w.heap.size w w' := by
  rcases h with h | h | h | h
  all_goals (
    go_enter Tryz.func28, Tryz.ntmps28
    go_wp2_with fail)
  all_goals (go_ret; exact ⟨rfl, bel1 w _⟩)
set_option maxRecDepth 100000 in
set_option maxHeartbeats 1000000 in
theorem rcheck_walk (n d : Int) (dr : Bool) (g : Int) (h1 : 1 ≤ n) (h2 : n ≤ 240000) (h3 : 1 ≤ d) (h4 : d ≤ 1001) (w : World)
    (HC : ∀ w, Calls Tryz.prog 68 #[.int .i64 n, .int .i64 d] w fun e w' => e = .returned (.int .i64 g) ∧ ∃ m, w' = w.drewN m) :
    Calls Tryz.prog 28 #[.agg #[.int .i64 n, .int .i64 d, .bool dr]] w fun e w' => e = .returned (.int .i64 (if g = 1 ∧ d ≤ n ∧ n ≤ 240 * d ∧ (dr = true → d = 1001 ∧ (n = 30000 ∨ n = 60000)) then 0 else 14)) ∧ Below w.heap.size w w' := by
  have HC := hideR HC
  by_cases c1 : g = 1
  · subst c1
    by_cases c2 : n < d
    · rw [if_neg (by omega)]
      go_enter Tryz.func28, Tryz.ntmps28
      go_wp2_with fail
      go_at_call 68
      refine (HC.out _).mono ?_
      rintro e w1 ⟨rfl, m, rfl⟩
      have A1 := (RateAt.new w n d dr).keep (below_drewN (Below.refl _ (w.alloc (.cells #[.int .i64 n, .int .i64 d, .bool dr] 25))) m)
      have B1 := below_drewN (bel1 w (.cells #[.int .i64 n, .int .i64 d, .bool dr] 25)) m
      generalize (w.alloc (.cells #[.int .i64 n, .int .i64 d, .bool dr] 25)).drewN m = V at *
      obtain ⟨_, a0, a1, a2⟩ := id A1
      go_wp2_with fail
      go_ret
      exact ⟨rfl, B1⟩
    · by_cases c3 : 240 * d < n
      · rw [if_neg (by omega)]
        have c4 : d ≤ n := by omega
        go_enter Tryz.func28, Tryz.ntmps28
        go_wp2_with fail
        go_at_call 68
        refine (HC.out _).mono ?_
        rintro e w1 ⟨rfl, m, rfl⟩
        have A1 := (RateAt.new w n d dr).keep (below_drewN (Below.refl _ (w.alloc (.cells #[.int .i64 n, .int .i64 d, .bool dr] 25))) m)
        have B1 := below_drewN (bel1 w (.cells #[.int .i64 n, .int .i64 d, .bool dr] 25)) m
        generalize (w.alloc (.cells #[.int .i64 n, .int .i64 d, .bool dr] 25)).drewN m = V at *
        obtain ⟨_, a0, a1, a2⟩ := id A1
        go_wp2_with fail
        go_ret
        exact ⟨rfl, B1⟩
      · have c4 : d ≤ n := by omega
        have c5 : n ≤ 240 * d := by omega
        cases dr
        · rw [if_pos ⟨rfl, c4, c5, by simp⟩]
          go_enter Tryz.func28, Tryz.ntmps28
          go_wp2_with fail
          go_at_call 68
          refine (HC.out _).mono ?_
          rintro e w1 ⟨rfl, m, rfl⟩
          have A1 := (RateAt.new w n d false).keep (below_drewN (Below.refl _ (w.alloc (.cells #[.int .i64 n, .int .i64 d, .bool false] 25))) m)
          have B1 := below_drewN (bel1 w (.cells #[.int .i64 n, .int .i64 d, .bool false] 25)) m
          generalize (w.alloc (.cells #[.int .i64 n, .int .i64 d, .bool false] 25)).drewN m = V at *
          obtain ⟨_, a0, a1, a2⟩ := id A1
          go_wp2_with fail
          go_ret
          exact ⟨rfl, B1⟩
        · by_cases c6 : d = 1001
          · subst c6
            by_cases c7 : n = 30000
            · subst c7
              rw [if_pos ⟨rfl, c4, c5, fun _ => ⟨rfl, .inl rfl⟩⟩]
              go_enter Tryz.func28, Tryz.ntmps28
              go_wp2_with fail
              go_at_call 68
              refine (HC.out _).mono ?_
              rintro e w1 ⟨rfl, m, rfl⟩
              have A1 := (RateAt.new w 30000 1001 true).keep (below_drewN (Below.refl _ (w.alloc (.cells #[.int .i64 30000, .int .i64 1001, .bool true] 25))) m)
              have B1 := below_drewN (bel1 w (.cells #[.int .i64 30000, .int .i64 1001, .bool true] 25)) m
              generalize (w.alloc (.cells #[.int .i64 30000, .int .i64 1001, .bool true] 25)).drewN m = V at *
              obtain ⟨_, a0, a1, a2⟩ := id A1
              go_wp2_with fail
              go_ret
              exact ⟨rfl, B1⟩
            · by_cases c8 : n = 60000
              · subst c8
                rw [if_pos ⟨rfl, c4, c5, fun _ => ⟨rfl, .inr rfl⟩⟩]
                go_enter Tryz.func28, Tryz.ntmps28
                go_wp2_with fail
                go_at_call 68
                refine (HC.out _).mono ?_
                rintro e w1 ⟨rfl, m, rfl⟩
                have A1 := (RateAt.new w 60000 1001 true).keep (below_drewN (Below.refl _ (w.alloc (.cells #[.int .i64 60000, .int .i64 1001, .bool true] 25))) m)
                have B1 := below_drewN (bel1 w (.cells #[.int .i64 60000, .int .i64 1001, .bool true] 25)) m
                generalize (w.alloc (.cells #[.int .i64 60000, .int .i64 1001, .bool true] 25)).drewN m = V at *
                obtain ⟨_, a0, a1, a2⟩ := id A1
                go_wp2_with fail
                go_ret
                exact ⟨rfl, B1⟩
              · rw [if_neg (fun h => by have := (h.2.2.2 rfl).2; omega)]
                have x1 : (n == 30000) = false := by simpa using c7
                have x2 : (n == 60000) = false := by simpa using c8
                go_enter Tryz.func28, Tryz.ntmps28
                go_wp2_with fail
                go_at_call 68
                refine (HC.out _).mono ?_
                rintro e w1 ⟨rfl, m, rfl⟩
                have A1 := (RateAt.new w n 1001 true).keep (below_drewN (Below.refl _ (w.alloc (.cells #[.int .i64 n, .int .i64 1001, .bool true] 25))) m)
                have B1 := below_drewN (bel1 w (.cells #[.int .i64 n, .int .i64 1001, .bool true] 25)) m
                generalize (w.alloc (.cells #[.int .i64 n, .int .i64 1001, .bool true] 25)).drewN m = V at *
                obtain ⟨_, a0, a1, a2⟩ := id A1
                go_wp2_with fail
                go_ret
                exact ⟨rfl, B1⟩
          · rw [if_neg (fun h => c6 (h.2.2.2 rfl).1)]
            go_enter Tryz.func28, Tryz.ntmps28
            go_wp2_with fail
            go_at_call 68
            refine (HC.out _).mono ?_
            rintro e w1 ⟨rfl, m, rfl⟩
            have A1 := (RateAt.new w n d true).keep (below_drewN (Below.refl _ (w.alloc (.cells #[.int .i64 n, .int .i64 d, .bool true] 25))) m)
            have B1 := below_drewN (bel1 w (.cells #[.int .i64 n, .int .i64 d, .bool true] 25)) m
            generalize (w.alloc (.cells #[.int .i64 n, .int .i64 d, .bool true] 25)).drewN m = V at *
            obtain ⟨_, a0, a1, a2⟩ := id A1
            go_wp2_with fail
            go_ret
            exact ⟨rfl, B1⟩
  · rw [if_neg (fun h => c1 h.1)]
    have x1 : (g == 1) = false := by simpa using c1
    have x2 : (g != 1) = true := by simpa using c1
    go_enter Tryz.func28, Tryz.ntmps28
    go_wp2_with fail
    go_at_call 68
    refine (HC.out _).mono ?_
    rintro e w1 ⟨rfl, m, rfl⟩
    have A1 := (RateAt.new w n d dr).keep (below_drewN (Below.refl _ (w.alloc (.cells #[.int .i64 n, .int .i64 d, .bool dr] 25))) m)
    have B1 := below_drewN (bel1 w (.cells #[.int .i64 n, .int .i64 d, .bool dr] 25)) m
    generalize (w.alloc (.cells #[.int .i64 n, .int .i64 d, .bool dr] 25)).drewN m = V at *
    obtain ⟨_, a0, a1, a2⟩ := id A1
    go_wp2_with fail
    go_ret
    exact ⟨rfl, B1⟩
theorem rcheck_any (n d : Int) (dr : Bool) (w : World) :
    Calls Tryz.prog 28 #[.agg #[.int .i64 n, .int .i64 d, .bool dr]] w fun e w' => e = .returned (.int .i64 (checkI n d dr)) ∧ Below w.heap.size w w' := by
  unfold checkI
  by_cases h : n < 1 ∨ 240000 < n ∨ d < 1 ∨ 1001 < d
  · rw [if_neg (by omega)]
    exact rcheck_out n d dr h w
  · have HC : ∀ w, Calls Tryz.prog 68 #[.int .i64 n, .int .i64 d] w fun e w' => e = .returned (.int .i64 (n.natAbs.gcd d.natAbs : Nat)) ∧ ∃ m, w' = w.drewN m := fun w => by
      have := common5_any n.natAbs d.natAbs (by omega) (by omega) w
      rwa [show ((n.natAbs : Nat) : Int) = n by omega, show ((d.natAbs : Nat) : Int) = d by omega] at this
    have := rcheck_walk n d dr _ (by omega) (by omega) (by omega) (by omega) w HC
    have hl : (leftI n d ≠ 0) ↔ (d = 1001 ∧ (n = 30000 ∨ n = 60000)) := by
      unfold leftI
      split
      · rename_i h; simp [h]
      · split
        · rename_i h; simp [h]
        · constructor
          · intro h; exact absurd rfl h
          · omega
    have hr : rightB ⟨n, d⟩ = true ↔ ((n.natAbs.gcd d.natAbs : Nat) : Int) = 1 := by
      unfold rightB
      rw [decide_eq_true_iff]
      constructor
      · intro h
        have h5 : n.natAbs.gcd d.natAbs = 1 := h.2.2.2.2
        rw [h5]
        rfl
      · intro h
        have h5 : n.natAbs.gcd d.natAbs = 1 := by omega
        exact ⟨by simp only; omega, by simp only; omega, by simp only; omega, by simp only; omega, h5⟩
    by_cases c : ((n.natAbs.gcd d.natAbs : Nat) : Int) = 1 ∧ d ≤ n ∧ n ≤ 240 * d ∧ (dr = true → d = 1001 ∧ (n = 30000 ∨ n = 60000))
    · rw [if_pos c] at this
      rw [if_pos ⟨by omega, by omega, by omega, by omega, by omega, by omega, hr.2 c.1, fun h => hl.2 (c.2.2.2 h)⟩]
      exact this
    · rw [if_neg c] at this
      rw [if_neg fun x => c ⟨hr.1 x.2.2.2.2.2.2.1, by omega, by omega, fun h => hl.1 (x.2.2.2.2.2.2.2 h)⟩]
      exact this
end Go.Proofs.YtipnefaggpigfaaGreat
