/- The contract of surtitleref3.divided: long division by bits. -/
import Derived.Test.YtipnefaggpigfaaRefA1
namespace Go.Proofs.Ytipnefaggpigfaa
open Go.RowKit Go.Shelf
attribute [local go_sem] Oper.semAt_some

/-- A number of the reference in a block. -/
def Tri (V : World) (R : Nat) (n : Bool) (h l : Int) : Prop := R < V.heap.size ∧ V.cell? ⟨R, 0, none⟩ = some (.bool n) ∧ V.cell? ⟨R, 1, none⟩ = some (.int .u64 h) ∧ V.cell? ⟨R, 2, none⟩ = some (.int .u64 l) ∧ V.frozen? ⟨R, 0, none⟩ = false ∧ V.frozen? ⟨R, 1, none⟩ = false ∧ V.frozen? ⟨R, 2, none⟩ = false
theorem Tri.new (W : World) (n : Bool) (h l : Int) (t : TypeId) : Tri (W.alloc (.cells #[.bool n, .int .u64 h, .int .u64 l] t)) W.heap.size n h l :=
  ⟨by simp, by go_simp, by go_simp, by go_simp, by go_simp, by go_simp, by go_simp⟩
theorem Tri.keep {V V2 : World} {R : Nat} {n : Bool} {h l : Int} (t : Tri V R n h l) (b : Below V.heap.size V V2) : Tri V2 R n h l :=
  ⟨Nat.lt_of_lt_of_le t.1 b.size, (b.cell (p := ⟨R, 0, none⟩) t.1).trans t.2.1, (b.cell (p := ⟨R, 1, none⟩) t.1).trans t.2.2.1, (b.cell (p := ⟨R, 2, none⟩) t.1).trans t.2.2.2.1, (b.frozen (p := ⟨R, 0, none⟩) t.1).trans t.2.2.2.2.1, (b.frozen (p := ⟨R, 1, none⟩) t.1).trans t.2.2.2.2.2.1, (b.frozen (p := ⟨R, 2, none⟩) t.1).trans t.2.2.2.2.2.2⟩
/-- The six variables of a division. -/
def Six (B : Nat) (na nb : Bool) (ah al bh bl qh ql rh rl : Int) (V : World) : Prop :=
  Tri V B na ah al ∧ Tri V (B + 1) nb bh bl ∧ Tri V (B + 1 + 1) false 0 0 ∧ Tri V (B + 1 + 1 + 1) false 0 0 ∧ Tri V (B + 1 + 1 + 1 + 1) false qh ql ∧ Tri V (B + 1 + 1 + 1 + 1 + 1) false rh rl
theorem Tri.other {V : World} {R S i : Nat} {n : Bool} {h l : Int} {x : Value} (t : Tri V R n h l) (ne : S ≠ R) : Tri (V.setCell ⟨S, i, none⟩ x) R n h l := by
  obtain ⟨z, c0, c1, c2, f0, f1, f2⟩ := t
  have n2 : R ≠ S := fun e => ne e.symm
  exact ⟨by simpa using z, by go_simp, by go_simp, by go_simp, by go_simp, by go_simp, by go_simp⟩
theorem Tri.set1 {V : World} {R : Nat} {n : Bool} {h l h2 : Int} (t : Tri V R n h l) : Tri (V.setCell ⟨R, 1, none⟩ (.int .u64 h2)) R n h2 l := by
  obtain ⟨z, c0, c1, c2, f0, f1, f2⟩ := t
  exact ⟨by simpa using z, by go_simp, by go_simp, by go_simp, by go_simp, by go_simp, by go_simp⟩
theorem Tri.set2 {V : World} {R : Nat} {n : Bool} {h l l2 : Int} (t : Tri V R n h l) : Tri (V.setCell ⟨R, 2, none⟩ (.int .u64 l2)) R n h l2 := by
  obtain ⟨z, c0, c1, c2, f0, f1, f2⟩ := t
  exact ⟨by simpa using z, by go_simp, by go_simp, by go_simp, by go_simp, by go_simp, by go_simp⟩
theorem Tri.set0 {V : World} {R : Nat} {n n2 : Bool} {h l : Int} (t : Tri V R n h l) : Tri (V.setCell ⟨R, 0, none⟩ (.bool n2)) R n2 h l := by
  obtain ⟨z, c0, c1, c2, f0, f1, f2⟩ := t
  exact ⟨by simpa using z, by go_simp, by go_simp, by go_simp, by go_simp, by go_simp, by go_simp⟩
theorem Six.keep {B : Nat} {na nb : Bool} {ah al bh bl qh ql rh rl : Int} {V V2 : World} (h : Six B na nb ah al bh bl qh ql rh rl V) (b : Below V.heap.size V V2) : Six B na nb ah al bh bl qh ql rh rl V2 :=
  ⟨h.1.keep b, h.2.1.keep b, h.2.2.1.keep b, h.2.2.2.1.keep b, h.2.2.2.2.1.keep b, h.2.2.2.2.2.keep b⟩
/-- what the round's shifts leave -/
theorem Six.shift {w wr : World} {na nb : Bool} {ah al bh bl qh ql rh rl xh2 xl2 rh2 rl2 qh2 ql2 : Int} (h : Six w.heap.size na nb ah al bh bl qh ql rh rl wr) :
    Six w.heap.size na nb xh2 xl2 bh bl qh2 ql2 rh2 rl2 ((((((wr.setCell ⟨w.heap.size, 1, none⟩ (.int .u64 xh2)).setCell ⟨w.heap.size, 2, none⟩ (.int .u64 xl2)).setCell ⟨w.heap.size + 1 + 1 + 1 + 1 + 1, 1, none⟩ (.int .u64 rh2)).setCell ⟨w.heap.size + 1 + 1 + 1 + 1 + 1, 2, none⟩ (.int .u64 rl2)).setCell ⟨w.heap.size + 1 + 1 + 1 + 1, 1, none⟩ (.int .u64 qh2)).setCell ⟨w.heap.size + 1 + 1 + 1 + 1, 2, none⟩ (.int .u64 ql2)) := by
  obtain ⟨ta, tb, tc, td, tq, tr⟩ := h
  refine ⟨?_, ?_, ?_, ?_, ?_, ?_⟩
  · exact (((((ta.set1).set2).other (by omega)).other (by omega)).other (by omega)).other (by omega)
  · exact (((((tb.other (by omega)).other (by omega)).other (by omega)).other (by omega)).other (by omega)).other (by omega)
  · exact (((((tc.other (by omega)).other (by omega)).other (by omega)).other (by omega)).other (by omega)).other (by omega)
  · exact (((((td.other (by omega)).other (by omega)).other (by omega)).other (by omega)).other (by omega)).other (by omega)
  · exact (((((tq.other (by omega)).other (by omega)).other (by omega)).other (by omega)).set1).set2
  · exact (((((tr.other (by omega)).other (by omega)).set1).set2).other (by omega)).other (by omega)
/-- what the round's subtraction leaves -/
theorem Six.less {w V : World} {na nb : Bool} {ah al bh bl qh ql rh rl rh2 rl2 ql2 : Int} (h : Six w.heap.size na nb ah al bh bl qh ql rh rl V) :
    Six w.heap.size na nb ah al bh bl qh ql2 rh2 rl2 ((((V.setCell ⟨w.heap.size + 1 + 1 + 1 + 1 + 1, 0, none⟩ (.bool false)).setCell ⟨w.heap.size + 1 + 1 + 1 + 1 + 1, 1, none⟩ (.int .u64 rh2)).setCell ⟨w.heap.size + 1 + 1 + 1 + 1 + 1, 2, none⟩ (.int .u64 rl2)).setCell ⟨w.heap.size + 1 + 1 + 1 + 1, 2, none⟩ (.int .u64 ql2)) := by
  obtain ⟨ta, tb, tc, td, tq, tr⟩ := h
  refine ⟨?_, ?_, ?_, ?_, ?_, ?_⟩
  · exact (((ta.other (by omega)).other (by omega)).other (by omega)).other (by omega)
  · exact (((tb.other (by omega)).other (by omega)).other (by omega)).other (by omega)
  · exact (((tc.other (by omega)).other (by omega)).other (by omega)).other (by omega)
  · exact (((td.other (by omega)).other (by omega)).other (by omega)).other (by omega)
  · exact (((tq.other (by omega)).other (by omega)).other (by omega)).set2
  · exact (((tr.set0).set1).set2).other (by omega)

/-! halves, shifted -/
theorem or_even (t b : Nat) (ht : 2 * t < 18446744073709551616) (hb : b < 2) : bits .or .u64 ((2 * t : Nat) : Int) (b : Int) = ((2 * t + b : Nat) : Int) := by
  rw [bits_or_u64_nat _ _ ht (by omega)]
  have := Nat.two_pow_add_eq_or_of_lt (i := 1) (b := b) (by omega) t
  rw [Nat.pow_one] at this
  rw [this]
theorem hi_shift (m b : Nat) (hb : b < 2) : bits .or .u64 (IntKind.u64.wrap (hiZ (m : Int) * 2)) (loZ (m : Int) / 9223372036854775808) = hiZ ((2 * m + b : Nat) : Int) := by
  have e1 : IntKind.u64.wrap (hiZ (m : Int) * 2) = ((2 * (m / 18446744073709551616 % 9223372036854775808) : Nat) : Int) := by rw [IntKind.wrap_u64]; unfold hiZ; omega
  have e2 : loZ (m : Int) / 9223372036854775808 = ((m % 18446744073709551616 / 9223372036854775808 : Nat) : Int) := by unfold loZ; omega
  rw [e1, e2, or_even _ _ (by omega) (by omega)]
  unfold hiZ
  omega
theorem hi_double (m : Nat) : bits .or .u64 (IntKind.u64.wrap (hiZ (m : Int) * 2)) (loZ (m : Int) / 9223372036854775808) = hiZ ((2 * m : Nat) : Int) := hi_shift m 0 (by omega)
theorem lo_shift (m b : Nat) (hb : b < 2) : bits .or .u64 (IntKind.u64.wrap (loZ (m : Int) * 2)) (b : Int) = loZ ((2 * m + b : Nat) : Int) := by
  have e1 : IntKind.u64.wrap (loZ (m : Int) * 2) = ((2 * (m % 9223372036854775808) : Nat) : Int) := by rw [IntKind.wrap_u64]; unfold loZ; omega
  rw [e1, or_even _ _ (by omega) hb]
  unfold loZ
  omega
theorem lo_double (m : Nat) : IntKind.u64.wrap (loZ (m : Int) * 2) = loZ ((2 * m : Nat) : Int) := by rw [IntKind.wrap_u64]; unfold loZ; omega
theorem lo_one (m : Nat) : bits .or .u64 (loZ ((2 * m : Nat) : Int)) 1 = loZ ((2 * m + 1 : Nat) : Int) := by
  have e1 : loZ ((2 * m : Nat) : Int) = ((2 * (m % 9223372036854775808) : Nat) : Int) := by unfold loZ; omega
  have := or_even (m % 9223372036854775808) 1 (by omega) (by omega)
  rw [e1]
  refine Eq.trans this ?_
  unfold loZ
  omega
theorem top_bit (m : Nat) (hm : m < 340282366920938463463374607431768211456) : hiZ (m : Int) / 9223372036854775808 = ((m / 170141183460469231731687303715884105728 : Nat) : Int) := by unfold hiZ; omega
theorem above_iff (r b : Nat) (hr : r < 340282366920938463463374607431768211456) (hb : b < 340282366920938463463374607431768211456) : (hiZ (r : Int) < hiZ (b : Int) ∨ (hiZ (b : Int) = hiZ (r : Int) ∧ loZ (r : Int) < loZ (b : Int))) ↔ r < b := by unfold hiZ loZ; omega
theorem less_lo (r b : Nat) (h : b ≤ r) : IntKind.u64.wrap (loZ (r : Int) - loZ (b : Int)) = loZ ((r - b : Nat) : Int) := by rw [IntKind.wrap_u64]; unfold loZ; omega
theorem less_hi1 (r b : Nat) (h : b ≤ r) (hr : r < 340282366920938463463374607431768211456) (hl : loZ (r : Int) < loZ (b : Int)) : IntKind.u64.wrap (IntKind.u64.wrap (hiZ (r : Int) - hiZ (b : Int)) - 1) = hiZ ((r - b : Nat) : Int) := by rw [IntKind.wrap_u64, IntKind.wrap_u64]; unfold hiZ loZ at *; omega
theorem less_hi0 (r b : Nat) (h : b ≤ r) (hr : r < 340282366920938463463374607431768211456) (hl : ¬ loZ (r : Int) < loZ (b : Int)) : IntKind.u64.wrap (hiZ (r : Int) - hiZ (b : Int)) = hiZ ((r - b : Nat) : Int) := by rw [IntKind.wrap_u64]; unfold hiZ loZ at *; omega

/-- A size, as the reference holds it. -/
def uv (m : Nat) : Value := .agg #[.bool false, .int .u64 (hiZ m), .int .u64 (loZ m)]
/-- Where the division stands behind k rounds. -/
def DivAt (A k N P S X : Nat) : Prop := k ≤ 128 ∧ N * 2 ^ k = 340282366920938463463374607431768211456 ∧ A = P * N + S ∧ S < N ∧ X * N = S * 340282366920938463463374607431768211456 ∧ P < 340282366920938463463374607431768211456

theorem Tri.alloc {V : World} {R : Nat} {n : Bool} {h l : Int} (t : Tri V R n h l) (o : Obj) : Tri (V.alloc o) R n h l := t.keep (bel1 V o)
theorem Tri.at {V : World} {R R2 : Nat} {n : Bool} {h l : Int} (t : Tri V R n h l) (e : R = R2) : Tri V R2 n h l := e ▸ t
theorem six_new (na nb : Bool) (A b : Nat) (w : World) : Six w.heap.size na nb (hiZ A) (loZ A) (hiZ b) (loZ b) (hiZ (0 / b : Nat)) (loZ (0 / b : Nat)) (hiZ (0 % b : Nat)) (loZ (0 % b : Nat))
    ((((((w.alloc (.cells #[.bool na, .int .u64 (hiZ A), .int .u64 (loZ A)] 93)).alloc (.cells #[.bool nb, .int .u64 (hiZ b), .int .u64 (loZ b)] 93)).alloc (.cells #[.bool false, .int .u64 0, .int .u64 0] 93)).alloc (.cells #[.bool false, .int .u64 0, .int .u64 0] 93)).alloc (.cells #[.bool false, .int .u64 0, .int .u64 0] 93)).alloc (.cells #[.bool false, .int .u64 0, .int .u64 0] 93)) := by
  rw [Nat.zero_div, Nat.zero_mod, show hiZ ((0 : Nat) : Int) = 0 from rfl, show loZ ((0 : Nat) : Int) = 0 from rfl]
  refine ⟨?_, ?_, ?_, ?_, ?_, ?_⟩
  · exact (((((Tri.new _ _ _ _ _).alloc _).alloc _).alloc _).alloc _).alloc _
  · exact (((((Tri.new _ _ _ _ _).at (by simp)).alloc _).alloc _).alloc _).alloc _
  · exact ((((Tri.new _ _ _ _ _).at (by simp)).alloc _).alloc _).alloc _
  · exact (((Tri.new _ _ _ _ _).at (by simp)).alloc _).alloc _
  · exact ((Tri.new _ _ _ _ _).at (by simp)).alloc _
  · exact (Tri.new _ _ _ _ _).at (by simp)

set_option maxRecDepth 100000 in
set_option maxHeartbeats 2000000 in
theorem divided_any (na nb : Bool) (A b : Nat) (hA : A < 340282366920938463463374607431768211456) (hb : 0 < b) (hb2 : b ≤ 170141183460469231731687303715884105728) (w : World) :
    Calls Try.prog 83 #[.agg #[.bool na, .int .u64 (hiZ A), .int .u64 (loZ A)], .agg #[.bool nb, .int .u64 (hiZ b), .int .u64 (loZ b)]] w fun e w' => e = .returned (.tuple #[uv (A / b), uv (A % b)]) ∧ Below w.heap.size w w' := by
  go_enter Try.func83, Try.ntmps83
  go_wp2_with fail
  go_loopw [8] (fun vi wr => ∃ (k N P S X : Nat), vi = .int .i64 k ∧ DivAt A k N P S X ∧ Six w.heap.size na nb (hiZ X) (loZ X) (hiZ b) (loZ b) (hiZ (P / b : Nat)) (loZ (P / b : Nat)) (hiZ (P % b : Nat)) (loZ (P % b : Nat)) wr ∧ Below w.heap.size w wr) (fun vi _ => 128 - (intOf vi).toNat)
  case atStart =>
    refine ⟨0, 340282366920938463463374607431768211456, 0, A, A, rfl, ⟨by omega, by omega, by omega, hA, rfl, by omega⟩, ?_, ?_⟩
    · exact six_new na nb A b w
    · exact ((((((Below.refl _ _).alloc (Nat.le_refl _) _).alloc (by simp) _).alloc (by simp; omega) _).alloc (by simp; omega) _).alloc (by simp; omega) _).alloc (by simp; omega) _
  case round =>
    obtain ⟨k, N2, P, S, X, rfl, hD, hS, hB⟩ := hrel
    obtain ⟨hk, hN, hP, hSN, hX, hPl⟩ := id hD
    by_cases h1 : k < 128
    · have z1 : (k : Int) < 128 := by omega
      obtain ⟨N, rfl⟩ : ∃ N, N2 = 2 * N := ⟨2 ^ (127 - k), by
        have e : 2 * 2 ^ (127 - k) * 2 ^ k = 340282366920938463463374607431768211456 := by rw [Nat.mul_assoc, ← Nat.pow_add, show 127 - k + k = 127 by omega]
        exact Nat.eq_of_mul_eq_mul_right (Nat.two_pow_pos k) (hN.trans e.symm)⟩
      have hN0 : 0 < N := by rcases Nat.eq_zero_or_pos N with h | h; (subst h; simp at hN); exact h
      obtain ⟨hbit, S', hA', hS', hX'⟩ := div_step A P S X N hN0 hP hSN hX
      have hXl : X < 340282366920938463463374607431768211456 := by
        apply Nat.lt_of_mul_lt_mul_right (a := 2 * N)
        rw [hX, Nat.mul_comm]
        exact (Nat.mul_lt_mul_left (by omega)).2 hSN
      obtain ⟨qs0, qs1, qs2⟩ := quo_step P b (X / 170141183460469231731687303715884105728) hb hbit
      have hrl : P % b < b := Nat.mod_lt _ hb
      have tb := top_bit X hXl
      generalize hbt : X / 170141183460469231731687303715884105728 = bit at *
      have hP2 : 2 * P + bit < 340282366920938463463374607431768211456 := by
        have : (2 * P + bit) * N ≤ A := by omega
        have h2 : (2 * P + bit) * 1 ≤ (2 * P + bit) * N := Nat.mul_le_mul_left _ hN0
        omega
      have hPb : P / b ≤ P := Nat.div_le_self _ _
      have hN' : N * 2 ^ (k + 1) = 340282366920938463463374607431768211456 := by rw [Nat.pow_succ, ← hN]; simp only [Nat.mul_assoc, Nat.mul_comm]
      have D' : DivAt A (k + 1) N (2 * P + bit) S' (2 * X % 340282366920938463463374607431768211456) := ⟨by omega, hN', hA', hS', hX', hP2⟩
      clear hP hA' hX hX' hN hN' hD hSN hS' hbt
      generalize P / b = q at *
      generalize P % b = r at *
      obtain ⟨x2, hx2⟩ : ∃ x2, 2 * X = x2 := ⟨_, rfl⟩
      obtain ⟨r2, hr2⟩ : ∃ r2, 2 * r + bit = r2 := ⟨_, rfl⟩
      obtain ⟨q2, hq2⟩ : ∃ q2, 2 * q = q2 := ⟨_, rfl⟩
      have E1 := hi_double X
      have E2 := lo_double X
      have E3 := hi_shift r bit (by omega)
      have E4 := lo_shift r bit (by omega)
      have E5 := hi_double q
      have E6 := lo_double q
      have L4 := lo_one q
      rw [hx2] at E1 E2 D'
      rw [hr2] at E3 E4 qs0 qs1 qs2
      rw [hq2] at E5 E6 L4 qs1 qs2
      have E4 := hideR E4
      have L4 := hideR L4
      have hr2b : r2 < 340282366920938463463374607431768211456 := by omega
      have eX : hiZ (x2 : Nat) = hiZ (x2 % 340282366920938463463374607431768211456 : Nat) ∧ loZ (x2 : Nat) = loZ (x2 % 340282366920938463463374607431768211456 : Nat) := by unfold hiZ loZ; omega
      have HQ1 := hideR qs1
      have HQ2 := hideR qs2
      have HEX := hideR eX
      have hq3 : Hid (hiZ (q2 : Nat) = hiZ (q2 + 1 : Nat)) := by rw [Hid, ← hq2]; unfold hiZ; omega
      clear hx2 hr2 hq2 eX qs1 qs2 hXl
      have HD' := hideR D'
      clear D'
      obtain ⟨⟨_, a0, a1, a2, a3, a4, a5⟩, ⟨_, b0, b1, b2, _, _, _⟩, _, _, ⟨_, q0, q1, q2', q3, q4, q5⟩, ⟨_, r0, r1, r2', r3, r4, r5⟩⟩ := id hS
      go_wp2_with fail
      have S2 := hS.shift (xh2 := hiZ (x2 : Nat)) (xl2 := loZ (x2 : Nat)) (rh2 := hiZ (r2 : Nat)) (rl2 := loZ (r2 : Nat)) (qh2 := hiZ (q2 : Nat)) (ql2 := loZ (q2 : Nat))
      have B2 : Below w.heap.size w ((((((wr.setCell ⟨w.heap.size, 1, none⟩ (.int .u64 (hiZ (x2 : Nat)))).setCell ⟨w.heap.size, 2, none⟩ (.int .u64 (loZ (x2 : Nat)))).setCell ⟨w.heap.size + 1 + 1 + 1 + 1 + 1, 1, none⟩ (.int .u64 (hiZ (r2 : Nat)))).setCell ⟨w.heap.size + 1 + 1 + 1 + 1 + 1, 2, none⟩ (.int .u64 (loZ (r2 : Nat)))).setCell ⟨w.heap.size + 1 + 1 + 1 + 1, 1, none⟩ (.int .u64 (hiZ (q2 : Nat)))).setCell ⟨w.heap.size + 1 + 1 + 1 + 1, 2, none⟩ (.int .u64 (loZ (q2 : Nat)))) := (((((hB.setCell (by simp) _).setCell (by simp) _).setCell (by simp; omega) _).setCell (by simp; omega) _).setCell (by simp; omega) _).setCell (by simp; omega) _
      clear a0 a1 a2 a3 a4 a5 b0 b1 b2 q0 q1 q2' q3 q4 q5 r0 r1 r2' r3 r4 r5 hS hB E1 E2 E3 E4 E5 E6 tb
      generalize ((((((wr.setCell ⟨w.heap.size, 1, none⟩ (.int .u64 (hiZ (x2 : Nat)))).setCell ⟨w.heap.size, 2, none⟩ (.int .u64 (loZ (x2 : Nat)))).setCell ⟨w.heap.size + 1 + 1 + 1 + 1 + 1, 1, none⟩ (.int .u64 (hiZ (r2 : Nat)))).setCell ⟨w.heap.size + 1 + 1 + 1 + 1 + 1, 2, none⟩ (.int .u64 (loZ (r2 : Nat)))).setCell ⟨w.heap.size + 1 + 1 + 1 + 1, 1, none⟩ (.int .u64 (hiZ (q2 : Nat)))).setCell ⟨w.heap.size + 1 + 1 + 1 + 1, 2, none⟩ (.int .u64 (loZ (q2 : Nat)))) = V at *
      have AB := above_iff r2 b hr2b (by omega)
      go_at_call 86
      refine Calls.mono (rabove_any _ _ _ _ _ _ _) ?_
      rintro e w2 ⟨rfl, b2⟩
      have S3 := S2.keep b2
      have B3 := bup B2 b2
      clear S2 B2 b2
      obtain ⟨⟨_, a0, a1, a2, a3, a4, a5⟩, ⟨_, b0, b1, b2, _, _, _⟩, _, _, ⟨_, q0, q1, q2', q3, q4, q5⟩, ⟨_, r0, r1, r2', r3, r4, r5⟩⟩ := id S3
      by_cases hab : r2 < b
      · rw [decide_eq_true (AB.2 hab)]
        clear AB
        go_wp2_with fail
        obtain ⟨e1, e2⟩ := HQ2.out hab
        rw [← e1, ← e2, HEX.out.1, HEX.out.2] at S3
        refine ⟨⟨k + 1, N, 2 * P + bit, S', _, by go_num, HD'.out, S3, B3⟩, ?_⟩
        simp [intOf]
        omega
      · rw [decide_eq_false (fun h => hab (AB.1 h))]
        clear AB
        obtain ⟨e1, e2⟩ := HQ1.out (by omega)
        obtain ⟨t3, ht3⟩ : ∃ t3, r2 - b = t3 := ⟨_, rfl⟩
        obtain ⟨v3, hv3⟩ : ∃ v3, q2 + 1 = v3 := ⟨_, rfl⟩
        have L1 := less_lo r2 b (by omega)
        have L4 := L4.out
        have L5 := hq3.out
        rw [ht3] at L1 e2
        rw [hv3] at L4 L5 e1
        have S4 := S3.less (rh2 := hiZ (t3 : Nat)) (rl2 := loZ (t3 : Nat)) (ql2 := loZ (v3 : Nat))
        replace S4 : Six w.heap.size na nb (hiZ (x2 % 340282366920938463463374607431768211456 : Nat)) (loZ (x2 % 340282366920938463463374607431768211456 : Nat)) (hiZ b) (loZ b) (hiZ ((2 * P + bit) / b : Nat)) (loZ ((2 * P + bit) / b : Nat)) (hiZ ((2 * P + bit) % b : Nat)) (loZ ((2 * P + bit) % b : Nat)) ((((w2.setCell ⟨w.heap.size + 1 + 1 + 1 + 1 + 1, 0, none⟩ (.bool false)).setCell ⟨w.heap.size + 1 + 1 + 1 + 1 + 1, 1, none⟩ (.int .u64 (hiZ (t3 : Nat)))).setCell ⟨w.heap.size + 1 + 1 + 1 + 1 + 1, 2, none⟩ (.int .u64 (loZ (t3 : Nat)))).setCell ⟨w.heap.size + 1 + 1 + 1 + 1, 2, none⟩ (.int .u64 (loZ (v3 : Nat)))) := by
          rw [e1, e2, ← HEX.out.1, ← HEX.out.2, ← L5]
          exact S4
        have e1 := hideR e1
        have e2 := hideR e2
        have B4 : Below w.heap.size w ((((w2.setCell ⟨w.heap.size + 1 + 1 + 1 + 1 + 1, 0, none⟩ (.bool false)).setCell ⟨w.heap.size + 1 + 1 + 1 + 1 + 1, 1, none⟩ (.int .u64 (hiZ (t3 : Nat)))).setCell ⟨w.heap.size + 1 + 1 + 1 + 1 + 1, 2, none⟩ (.int .u64 (loZ (t3 : Nat)))).setCell ⟨w.heap.size + 1 + 1 + 1 + 1, 2, none⟩ (.int .u64 (loZ (v3 : Nat)))) := (((B3.setCell (by simp; omega) _).setCell (by simp; omega) _).setCell (by simp; omega) _).setCell (by simp; omega) _
        have L5 := hideR L5
        have L6 : Hid (loZ ((q2 : Int) + 1) = loZ ((v3 : Nat) : Int)) := by rw [Hid, ← hv3]; rfl
        by_cases hl : loZ (r2 : Nat) < loZ (b : Nat)
        · have L2 := less_hi1 r2 b (by omega) hr2b hl
          rw [ht3] at L2
          clear ht3 hv3
          go_wp2_with fail
          rw [L6.out]
          refine ⟨⟨k + 1, N, 2 * P + bit, S', _, by go_num, HD'.out, S4, B4⟩, ?_⟩
          simp [intOf]
          omega
        · have L2 := less_hi0 r2 b (by omega) hr2b hl
          rw [ht3] at L2
          clear ht3 hv3
          go_wp2_with fail
          rw [L6.out]
          refine ⟨⟨k + 1, N, 2 * P + bit, S', _, by go_num, HD'.out, S4, B4⟩, ?_⟩
          simp [intOf]
          omega
    · obtain rfl : k = 128 := by omega
      have hN1 : N2 = 1 := by
        have e : N2 * 340282366920938463463374607431768211456 = 1 * 340282366920938463463374607431768211456 := by rw [Nat.one_mul]; exact hN
        exact Nat.eq_of_mul_eq_mul_right (by omega) e
      have hPA : A = P := by rw [hN1] at hP hSN; omega
      rw [← hPA] at hS
      clear hP hPA hN hX hPl hD hSN hN1
      obtain ⟨q, hq⟩ : ∃ q, A / b = q := ⟨_, rfl⟩
      obtain ⟨r, hr⟩ : ∃ r, A % b = r := ⟨_, rfl⟩
      rw [hq, hr] at hS
      have HQ := hideR hq
      have HR := hideR hr
      clear hq hr
      obtain ⟨_, _, ⟨_, c0, c1, c2, c3, c4, c5⟩, ⟨_, d0, d1, d2, d3, d4, d5⟩, ⟨_, q0, q1, q2, _, _, _⟩, ⟨_, r0, r1, r2, _, _, _⟩⟩ := id hS
      go_wp2_with fail
      go_region
      all_goals (try go_wp2_with fail)
      all_goals rw [HQ.out, HR.out]
      all_goals exact bodyPost_ret (v := .tuple #[uv q, uv r]) (by simp [results, Try.results83, go_sem, uv, c0, c1, c2, d0, d1, d2]) rfl ⟨rfl, ((((((hB.setCell (by simp; omega) _).setCell (by simp; omega) _).setCell (by simp; omega) _).setCell (by simp; omega) _).setCell (by simp; omega) _).setCell (by simp; omega) _).drew⟩
end Go.Proofs.Ytipnefaggpigfaa
