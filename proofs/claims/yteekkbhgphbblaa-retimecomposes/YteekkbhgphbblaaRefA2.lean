/- The contract of surtitleref3.divided: long division by bits. -/
import Derived.Test.YteekkbhgphbblaaRefA1
namespace Go.Proofs.Yteekkbhgphbblaa
open Go.RowKit Go.Shelf
attribute [local go_sem] Oper.semAt_some

/-- A number of the reference in a block. -/
def Tri (V : World) (R : Nat) (n : Bool) (h l : Int) : Prop := R < V.heap.size ∧ V.cell? ⟨R, 0, none⟩ = some (.bool n) ∧ V.cell? ⟨R, 1, none⟩ = some (.int .u64 h) ∧ V.cell? ⟨R, 2, none⟩ = some (.int .u64 l) ∧ V.frozen? ⟨R, 0, none⟩ = false ∧ V.frozen? ⟨R, 1, none⟩ = false ∧ V.frozen? ⟨R, 2, none⟩ = false
theorem Tri.new (W : World) (n : Bool) (h l : Int) (t : TypeId) : Tri (W.alloc (.cells #[.bool n, .int .u64 h, .int .u64 l] t)) W.heap.size n h l :=
  ⟨by simp, by go_simp, by go_simp, by go_simp, by go_simp, by go_simp, by go_simp⟩
theorem Tri.keep {V V2 : World} {R : Nat} {n : Bool} {h l : Int} (t : Tri V R n h l) (b : Below V.heap.size V V2) : Tri V2 R n h l :=
  ⟨Nat.lt_of_lt_of_le t.1 b.size, (b.cell (p := ⟨R, 0, none⟩) t.1).trans t.2.1, (b.cell (p := ⟨R, 1, none⟩) t.1).trans t.2.2.1, (b.cell (p := ⟨R, 2, none⟩) t.1).trans t.2.2.2.1, (b.frozen (p := ⟨R, 0, none⟩) t.1).trans t.2.2.2.2.1, (b.frozen (p := ⟨R, 1, none⟩) t.1).trans t.2.2.2.2.2.1, (b.frozen (p := ⟨R, 2, none⟩) t.1).trans t.2.2.2.2.2.2⟩
/-- The six variables of a division. -/
def Six (B : Nat) (na nb : Bool) (ah al bh bl qh ql rh rl : Int) (V : World) : Prop :=
  Tri V B na ah al ∧ Tri V (B + 1) nb bh bl ∧ Tri V (B + 1 + 1) false 0 0 ∧ Tri V (B + 1 + 1 + 1) false 0 0 ∧ Tri V (B + 1 + 1 + 1 + 1) false qh ql ∧ Tri V (B + 1 + 1 + 1 + 1 + 1) false rh rl
theorem Tri.other {V : World} {R S i : Nat} {n : Bool} {h l : Int} {x : Value} (t : Tri V R n h l) (ne : S ≠ R) : Tri (V.setCell ⟨S, i, none⟩ x) R n h l := by
  obtain ⟨z, c0, c1, c2, f0, f1, f2⟩ := t
  have n2 : R ≠ S := fun e => ne e.symm
  exact ⟨by simpa using z, by go_simp, by go_simp, by go_simp, by go_simp, by go_simp, by go_simp⟩
theorem Tri.set1 {V : World} {R : Nat} {n : Bool} {h l h2 : Int} (t : Tri V R n h l) : Tri (V.setCell ⟨R, 1, none⟩ (.int .u64 h2)) R n h2 l := by
  obtain ⟨z, c0, c1, c2, f0, f1, f2⟩ := t
  exact ⟨by simpa using z, by go_simp, by go_simp, by go_simp, by go_simp, by go_simp, by go_simp⟩
theorem Tri.set2 {V : World} {R : Nat} {n : Bool} {h l l2 : Int} (t : Tri V R n h l) : Tri (V.setCell ⟨R, 2, none⟩ (.int .u64 l2)) R n h l2 := by
  obtain ⟨z, c0, c1, c2, f0, f1, f2⟩ := t
  exact ⟨by simpa using z, by go_simp, by go_simp, by go_simp, by go_simp, by go_simp, by go_simp⟩
theorem Tri.set0 {V : World} {R : Nat} {n n2 : Bool} {h l : Int} (t : Tri V R n h l) : Tri (V.setCell ⟨R, 0, none⟩ (.bool n2)) R n2 h l := by
  obtain ⟨z, c0, c1, c2, f0, f1, f2⟩ := t
  exact ⟨by simpa using z, by go_simp, by go_simp, by go_simp, by go_simp, by go_simp, by go_simp⟩
theorem Six.keep {B : Nat} {na nb : Bool} {ah al bh bl qh ql rh rl : Int} {V V2 : World} (h : Six B na nb ah al bh bl qh ql rh rl V) (b : Below V.heap.size V V2) : Six B na nb ah al bh bl qh ql rh rl V2 :=
  ⟨h.1.keep b, h.2.1.keep b, h.2.2.1.keep b, h.2.2.2.1.keep b, h.2.2.2.2.1.keep b, h.2.2.2.2.2.keep b⟩
/-- what the round's shifts leave -/
theorem Six.shift {w wr : World} {na nb : Bool} {ah al bh bl qh ql rh rl xh2 xl2 rh2 rl2 qh2 ql2 : Int} (h : Six w.heap.size na nb ah al bh bl qh ql rh rl wr) :
    Six w.heap.size na nb xh2 xl2 bh bl qh2 ql2 rh2 rl2 ((((((wr.setCell ⟨w.heap.size, 1, none⟩ (.int .u64 xh2)).setCell ⟨w.heap.size, 2, none⟩ (.int .u64 xl2)).setCell ⟨w.heap.size + 1 + 1 + 1 + 1 + 1, 1, none⟩ (.int .u64 rh2)).setCell ⟨w.heap.size + 1 + 1 + 1 + 1 + 1, 2, none⟩ (.int .u64 rl2)).setCell ⟨w.heap.size + 1 + 1 + 1 + 1, 1, none⟩ (.int .u64 qh2)).setCell ⟨w.heap.size + 1 + 1 + 1 + 1, 2, none⟩ (.int .u64 ql2)) := by
  obtain ⟨ta, tb, tc, td, tq, tr⟩ := h
  refine ⟨?_, ?_, ?_, ?_, ?_, ?_⟩
  · exact (((((ta.set1).set2).other (by omega)).other (by omega)).other (by omega)).other (by omega)
  · exact (((((tb.other (by omega)).other (by omega)).other (by omega)).other (by omega)).other (by omega)).other (by omega)
  · exact (((((tc.other (by omega)).other (by omega)).other (by omega)).other (by omega)).other (by omega)).other (by omega)
  · exact (((((td.other (by omega)).other (by omega)).other (by omega)).other (by omega)).other (by omega)).other (by omega)
  · exact (((((tq.other (by omega)).other (by omega)).other (by omega)).other (by omega)).set1).set2
  · exact (((((tr.other (by omega)).other (by omega)).set1).set2).other (by omega)).other (by omega)
/-- what the round's subtraction leaves -/
theorem Six.less {w V : World} {na nb : Bool} {ah al bh bl qh ql rh rl rh2 rl2 ql2 : Int} (h : Six w.heap.size na nb ah al bh bl qh ql rh rl V) :
    Six w.heap.size na nb ah al bh bl qh ql2 rh2 rl2 ((((V.setCell ⟨w.heap.size + 1 + 1 + 1 + 1 + 1, 0, none⟩ (.bool false)).setCell ⟨w.heap.size + 1 + 1 + 1 + 1 + 1, 1, none⟩ (.int .u64 rh2)).setCell ⟨w.heap.size + 1 + 1 + 1 + 1 + 1, 2, none⟩ (.int .u64 rl2)).setCell ⟨w.heap.size + 1 + 1 + 1 + 1, 2, none⟩ (.int .u64 ql2)) := by
  obtain ⟨ta, tb, tc, td, tq, tr⟩ := h
  refine ⟨?_, ?_, ?_, ?_, ?_, ?_⟩
  · exact (((ta.other (by omega)).other (by omega)).other (by omega)).other (by omega)
  · exact (((tb.other (by omega)).other (by omega)).other (by omega)).other (by omega)
  · exact (((tc.other (by omega)).other (by omega)).other (by omega)).other (by omega)
  · exact (((td.other (by omega)).other (by omega)).other (by omega)).other (by omega)
  · exact (((tq.other (by omega)).other (by omega)).other (by omega)).set2
  · exact (((tr.set0).set1).set2).other (by omega)

/-! halves, shifted -/
theorem or_even (t b : Nat) (ht : 2 * t < 18446744073709551616) (hb : b < 2) : bits .or .u64 ((2 * t : Nat) : Int) (b : Int) = ((2 * t + b : Nat) : Int) := by
  rw [bits_or_u64_nat _ _ ht (by omega)]
  have := Nat.two_pow_add_eq_or_of_lt (i := 1) (b := b) (by omega) t
  rw [Nat.pow_one] at this
  rw [this]
theorem hi_shift (m b : Nat) (hb : b < 2) : bits .or .u64 (IntKind.u64.wrap (hiZ (m : Int) * 2)) (loZ (m : Int) / 9223372036854775808) = hiZ ((2 * m + b : Nat) : Int) := by
  have e1 : IntKind.u64.wrap (hiZ (m : Int) * 2) = ((2 * (m / 18446744073709551616 % 9223372036854775808) : Nat) : Int) := by rw [IntKind.wrap_u64]; unfold hiZ; omega
  have e2 : loZ (m : Int) / 9223372036854775808 = ((m % 18446744073709551616 / 9223372036854775808 : Nat) : Int) := by unfold loZ; omega
  rw [e1, e2, or_even _ _ (by omega) (by omega)]
  unfold hiZ
  omega
theorem hi_double (m : Nat) : bits .or .u64 (IntKind.u64.wrap (hiZ (m : Int) * 2)) (loZ (m : Int) / 9223372036854775808) = hiZ ((2 * m : Nat) : Int) := hi_shift m 0 (by omega)
theorem lo_shift (m b : Nat) (hb : b < 2) : bits .or .u64 (IntKind.u64.wrap (loZ (m : Int) * 2)) (b : Int) = loZ ((2 * m + b : Nat) : Int) := by
  have e1 : IntKind.u64.wrap (loZ (m : Int) * 2) = ((2 * (m % 9223372036854775808) : Nat) : Int) := by rw [IntKind.wrap_u64]; unfold loZ; omega
  rw [e1, or_even _ _ (by omega) hb]
  unfold loZ
  omega
theorem lo_double (m : Nat) : IntKind.u64.wrap (loZ (m : Int) * 2) = loZ ((2 * m : Nat) : Int) := by rw [IntKind.wrap_u64]; unfold loZ; omega
theorem lo_one (m : Nat) : bits .or .u64 (loZ ((2 * m : Nat) : Int)) 1 = loZ ((2 * m + 1 : Nat) : Int) := by
  have e1 : loZ ((2 * m : Nat) : Int) = ((2 * (m % 9223372036854775808) : Nat) : Int) := by unfold loZ; omega
  have := or_even (m % 9223372036854775808) 1 (by omega) (by omega)
  rw [e1]
  refine Eq.trans this ?_
  unfold loZ
  omega
theorem top_bit (m : Nat) (hm : m < 340282366920938463463374607431768211456) : hiZ (m : Int) / 9223372036854775808 = ((m / 170141183460469231731687303715884105728 : Nat) : Int) := by unfold hiZ; omega
theorem above_iff (r b : Nat) (hr : r < 340282366920938463463374607431768211456) (hb : b < 340282366920938463463374607431768211456) : (hiZ (r : Int) < hiZ (b : Int) ∨ (hiZ (b : Int) = hiZ (r : Int) ∧ loZ (r : Int) < loZ (b : Int))) ↔ r < b := by unfold hiZ loZ; omega
theorem less_lo (r b : Nat) (h : b ≤ r) : IntKind.u64.wrap (loZ (r : Int) - loZ (b : Int)) = loZ ((r - b : Nat) : Int) := by rw [IntKind.wrap_u64]; unfold loZ; omega
theorem less_hi1 (r b : Nat) (h : b ≤ r) (hr : r < 340282366920938463463374607431768211456) (hl : loZ (r : Int) < loZ (b : Int)) : IntKind.u64.wrap (IntKind.u64.wrap (hiZ (r : Int) - hiZ (b : Int)) - 1) = hiZ ((r - b : Nat) : Int) := by rw [IntKind.wrap_u64, IntKind.wrap_u64]; unfold hiZ loZ at *; omega
theorem less_hi0 (r b : Nat) (h : b ≤ r) (hr : r < 340282366920938463463374607431768211456) (hl : ¬ loZ (r : Int) < loZ (b : Int)) : IntKind.u64.wrap (hiZ (r : Int) - hiZ (b : Int)) = hiZ ((r - b : Nat) : Int) := by rw [IntKind.wrap_u64]; unfold hiZ loZ at *; omega

/-- A size, as the reference holds it. -/
def uv (m : Nat) : Value := .agg #[.bool false, .int .u64 (hiZ m), .int .u64 (loZ m)]
/-- Where the division stands behind k rounds. -/
def DivAt (A k N P S X : Nat) : Prop := k ≤ 128 ∧ N * 2 ^ k = 340282366920938463463374607431768211456 ∧ A = P * N + S ∧ S < N ∧ X * N = S * 340282366920938463463374607431768211456 ∧ P < 340282366920938463463374607431768211456

theorem Tri.alloc {V : World} {R : Nat} {n : Bool} {h l : Int} (t : Tri V R n h l) (o : Obj) : Tri (V.alloc o) R n h l := t.keep (bel1 V o)
theorem Tri.at {V : World} {R R2 : Nat} {n : Bool} {h l : Int} (t : Tri V R n h l) (e : R = R2) : Tri V R2 n h l := e ▸ t
end Go.Proofs.Yteekkbhgphbblaa
