/- The contract of surtitleref3.lowest. -/
import Derived.Test.YtipnefaggpigfaaRefA3
namespace Go.Proofs.Ytipnefaggpigfaa
open Go.RowKit Go.Shelf
attribute [local go_sem] Oper.semAt_some

/-- The variables of lowest. -/
def Low5 (B : Nat) (ng nd : Bool) (H L : Int) (D x y : Nat) (V : World) : Prop :=
  Tri V B ng H L ∧ Tri V (B + 1) nd (hiZ D) (loZ D) ∧ Two V (B + 1 + 1) (.int .i64 0) (.int .i64 0) ∧ (∃ na, Tri V (B + 1 + 1 + 1) na (hiZ x) (loZ x)) ∧ (∃ nb, Tri V (B + 1 + 1 + 1 + 1) nb (hiZ y) (loZ y))
/-- The size that lies in a block. -/
def sizeAt (R : Nat) (V : World) : Nat := match V.cell? ⟨R, 1, none⟩, V.cell? ⟨R, 2, none⟩ with
  | some (.int _ h), some (.int _ l) => (h * 18446744073709551616 + l).toNat
  | _, _ => 0
theorem sizeAt_tri {V : World} {R y : Nat} {n : Bool} (hy : y < 340282366920938463463374607431768211456) (t : Tri V R n (hiZ y) (loZ y)) : sizeAt R V = y := by
  unfold sizeAt
  rw [t.2.2.1, t.2.2.2.1]
  simp only
  unfold hiZ loZ
  omega
theorem Two.one {V : World} {R S i : Nat} {x y v : Value} (h : Two V R x y) (n : S ≠ R) : Two (V.setCell ⟨S, i, none⟩ v) R x y := by
  obtain ⟨z, c0, c1, f0, f1⟩ := h
  have n2 : R ≠ S := fun e => n e.symm
  exact ⟨by simpa using z, by go_simp, by go_simp, by go_simp, by go_simp⟩
theorem Low5.step {V : World} {B : Nat} {ng nd na nb na2 nb2 : Bool} {H L : Int} {D x2 y2 : Nat} {ah al bh bl xh xl yh yl : Int} (Tn : Tri V B ng H L) (Td : Tri V (B + 1) nd (hiZ D) (loZ D)) (Tr : Two V (B + 1 + 1) (.int .i64 0) (.int .i64 0)) (Ta : Tri V (B + 1 + 1 + 1) na ah al) (Tb : Tri V (B + 1 + 1 + 1 + 1) nb bh bl)
    (e1 : hiZ x2 = xh) (e2 : loZ x2 = xl) (e3 : hiZ y2 = yh) (e4 : loZ y2 = yl) :
    Low5 B ng nd H L D x2 y2 ((((((V.setCell ⟨B + 1 + 1 + 1, 0, none⟩ (.bool na2)).setCell ⟨B + 1 + 1 + 1, 1, none⟩ (.int .u64 xh)).setCell ⟨B + 1 + 1 + 1, 2, none⟩ (.int .u64 xl)).setCell ⟨B + 1 + 1 + 1 + 1, 0, none⟩ (.bool nb2)).setCell ⟨B + 1 + 1 + 1 + 1, 1, none⟩ (.int .u64 yh)).setCell ⟨B + 1 + 1 + 1 + 1, 2, none⟩ (.int .u64 yl)) := by
  subst e1 e2 e3 e4
  refine ⟨?_, ?_, ?_, ⟨na2, ?_⟩, ⟨nb2, ?_⟩⟩
  · exact (((((Tn.other (by omega)).other (by omega)).other (by omega)).other (by omega)).other (by omega)).other (by omega)
  · exact (((((Td.other (by omega)).other (by omega)).other (by omega)).other (by omega)).other (by omega)).other (by omega)
  · exact (((((Tr.one (by omega)).one (by omega)).one (by omega)).one (by omega)).one (by omega)).one (by omega)
  · exact (((((Ta.set0).set1).set2).other (by omega)).other (by omega)).other (by omega)
  · exact (((((Tb.other (by omega)).other (by omega)).other (by omega)).set0).set1).set2
theorem low5_new (w : World) (ng nd : Bool) (H L : Int) (m D : Nat) (e1 : hiZ m = H) (e2 : loZ m = L) :
    Low5 w.heap.size ng nd H L D m D (((((w.alloc (.cells #[.bool ng, .int .u64 H, .int .u64 L] 93)).alloc (.cells #[.bool nd, .int .u64 (hiZ D), .int .u64 (loZ D)] 93)).alloc (.cells #[.int .i64 0, .int .i64 0] 42)).alloc (.cells #[.bool false, .int .u64 H, .int .u64 L] 93)).alloc (.cells #[.bool nd, .int .u64 (hiZ D), .int .u64 (loZ D)] 93)) := by
  subst e1 e2
  have t1 := ((((Tri.new w ng (hiZ m) (loZ m) 93).alloc (.cells #[.bool nd, .int .u64 (hiZ D), .int .u64 (loZ D)] 93)).alloc (.cells #[.int .i64 0, .int .i64 0] 42)).alloc (.cells #[.bool false, .int .u64 (hiZ m), .int .u64 (loZ m)] 93)).alloc (.cells #[.bool nd, .int .u64 (hiZ D), .int .u64 (loZ D)] 93)
  have t2 := (((Tri.new (w.alloc (.cells #[.bool ng, .int .u64 (hiZ m), .int .u64 (loZ m)] 93)) nd (hiZ D) (loZ D) 93).alloc (.cells #[.int .i64 0, .int .i64 0] 42)).alloc (.cells #[.bool false, .int .u64 (hiZ m), .int .u64 (loZ m)] 93)).alloc (.cells #[.bool nd, .int .u64 (hiZ D), .int .u64 (loZ D)] 93)
  have t3 := ((Two.new ((w.alloc (.cells #[.bool ng, .int .u64 (hiZ m), .int .u64 (loZ m)] 93)).alloc (.cells #[.bool nd, .int .u64 (hiZ D), .int .u64 (loZ D)] 93)) (.int .i64 0) (.int .i64 0) 42).alloc (.cells #[.bool false, .int .u64 (hiZ m), .int .u64 (loZ m)] 93)).alloc (.cells #[.bool nd, .int .u64 (hiZ D), .int .u64 (loZ D)] 93)
  have t4 := (Tri.new (((w.alloc (.cells #[.bool ng, .int .u64 (hiZ m), .int .u64 (loZ m)] 93)).alloc (.cells #[.bool nd, .int .u64 (hiZ D), .int .u64 (loZ D)] 93)).alloc (.cells #[.int .i64 0, .int .i64 0] 42)) false (hiZ m) (loZ m) 93).alloc (.cells #[.bool nd, .int .u64 (hiZ D), .int .u64 (loZ D)] 93)
  have t5 := Tri.new ((((w.alloc (.cells #[.bool ng, .int .u64 (hiZ m), .int .u64 (loZ m)] 93)).alloc (.cells #[.bool nd, .int .u64 (hiZ D), .int .u64 (loZ D)] 93)).alloc (.cells #[.int .i64 0, .int .i64 0] 42)).alloc (.cells #[.bool false, .int .u64 (hiZ m), .int .u64 (loZ m)] 93)) nd (hiZ D) (loZ D) 93
  exact ⟨t1, t2.at (by simp), (by have := t3; rwa [show ((w.alloc (.cells #[.bool ng, .int .u64 (hiZ m), .int .u64 (loZ m)] 93)).alloc (.cells #[.bool nd, .int .u64 (hiZ D), .int .u64 (loZ D)] 93)).heap.size = w.heap.size + 1 + 1 by simp] at this), ⟨false, t4.at (by simp)⟩, ⟨nd, t5.at (by simp)⟩⟩
theorem Tri.drew {V : World} {R : Nat} {n : Bool} {h l : Int} (t : Tri V R n h l) : Tri V.drew R n h l := t
theorem sN {V : World} {A B : Nat} {n n2 : Bool} {h l h2 l2 : Int} (t : Tri V A n h l) (u : Tri V B n2 h2 l2) : V.cell? ⟨A, 0, none⟩ = some (.bool n) ∧ V.cell? ⟨A, 1, none⟩ = some (.int .u64 h) ∧ V.cell? ⟨A, 2, none⟩ = some (.int .u64 l) ∧ V.cell? ⟨B, 2, none⟩ = some (.int .u64 l2) :=
  ⟨t.2.1, t.2.2.1, t.2.2.2.1, u.2.2.2.1⟩
theorem low_ref (ng : Bool) (m D g : Nat) (hD : 0 < D) (hg : g = m.gcd D) :
    low (Rat.divInt (sgnQ ng m) D) = if m / g ≤ 4611686018427387904 ∧ D / g ≤ 2147483648 then (⟨sgnQ ng (m / g : Nat), (D / g : Nat)⟩, 0) else (⟨0, 0⟩, 12) := by
  have hg0 : 0 < g := by rw [hg]; exact Nat.gcd_pos_of_pos_right _ hD
  have hgm : (g : Int) ∣ m := by rw [hg]; exact Int.ofNat_dvd.2 (Nat.gcd_dvd_left m D)
  have ea : (sgnQ ng m).natAbs = m := by unfold sgnQ; split <;> omega
  have e0 : (g : Int) = (((sgnQ ng m) % (D : Int)).toNat.gcd (D : Int).toNat : Nat) := by
    rw [gcd_rest _ _ (by omega), ea, hg]
    rfl
  have e1 : sgnQ ng m / g = sgnQ ng (m / g : Nat) := by
    unfold sgnQ
    split
    · rw [Int.neg_ediv_of_dvd hgm, Int.natCast_ediv]
    · rw [Int.natCast_ediv]
  rw [low_eq (sgnQ ng m) D g (by omega) e0, e1, ← Int.natCast_ediv]
  generalize m / g = P
  generalize D / g = Q
  have e2 : (-4611686018427387904 ≤ sgnQ ng (P : Nat) ∧ sgnQ ng (P : Nat) ≤ 4611686018427387904 ∧ ((Q : Nat) : Int) ≤ 2147483648) ↔ (P ≤ 4611686018427387904 ∧ Q ≤ 2147483648) := by
    unfold sgnQ
    split <;> omega
  by_cases h : P ≤ 4611686018427387904 ∧ Q ≤ 2147483648
  · rw [if_pos h, if_pos (e2.2 h)]
  · rw [if_neg h, if_neg (fun k => h (e2.1 k))]
theorem low_zero (D : Int) : low (Rat.divInt 0 D) = (⟨0, 1⟩, 0) := by
  have : Rat.divInt 0 D = 0 := Rat.zero_divInt D
  rw [this]
  rfl
end Go.Proofs.Ytipnefaggpigfaa
