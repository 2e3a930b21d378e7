/- Several texts, one behind the other. -/
import Derived.Deep.RegionHeld3
import Derived.Test.YtaipdckakgohjaaGreatDoorRefA2
import Derived.Test.YtaipdckakgohjaaGreatDoorRefA5
import Derived.Test.YtaipdckakgohjaaGreatDoorRefA6
/- Contracts of surtitleref3: fits, number. -/
namespace Go.Proofs.YtaipdckakgohjaaGreatDoor
open Go.RowKit Go.Shelf
attribute [local go_sem] Oper.semAt_some

set_option maxRecDepth 100000 in
theorem rfits_any (ng : Bool) (h l : Int) (w : World) :
    Calls Tryz.prog 76 #[.agg #[.bool ng, .int .u64 h, .int .u64 l]] w fun e w' => e = .returned (.bool (decide (h = 0 ∧ l ≤ 4611686018427387904))) ∧ Below w.heap.size w w' := by
  go_enter Tryz.func76, Tryz.ntmps76
  go_wp2
  all_goals go_ret
  all_goals first | exact ⟨rfl, bel1 _ _⟩ | exact ⟨ret_bool (by omega), bel1 _ _⟩ | (refine ⟨?_, bel1 _ _⟩; simp_all)
set_option maxRecDepth 100000 in
theorem r3num_any (ng : Bool) (h l : Int) (h0 : 0 ≤ l) (h1 : l ≤ 4611686018427387904) (w : World) :
    Calls Tryz.prog 77 #[.agg #[.bool ng, .int .u64 h, .int .u64 l]] w fun e w' => e = .returned (.int .i64 (sgn ng l)) ∧ Below w.heap.size w w' := by
  unfold sgn
  cases ng
  · rw [if_neg (by simp)]
    go_enter Tryz.func77, Tryz.ntmps77
    go_wp2
    go_ret
    exact ⟨rfl, bel1 _ _⟩
  · rw [if_pos rfl]
    go_enter Tryz.func77, Tryz.ntmps77
    go_wp2
    go_ret
    exact ⟨ret_int (by omega), bel1 _ _⟩

end Go.Proofs.YtaipdckakgohjaaGreatDoor

/- The contract of surtitleref3.lowest. -/
namespace Go.Proofs.YtaipdckakgohjaaGreatDoor
open Go.RowKit Go.Shelf
attribute [local go_sem] Oper.semAt_some

/-- The variables of lowest. -/
def Low5 (B : Nat) (ng nd : Bool) (H L : Int) (D x y : Nat) (V : World) : Prop :=
  Tri V B ng H L ∧ Tri V (B + 1) nd (hiZ D) (loZ D) ∧ Two V (B + 1 + 1) (.int .i64 0) (.int .i64 0) ∧ (∃ na, Tri V (B + 1 + 1 + 1) na (hiZ x) (loZ x)) ∧ (∃ nb, Tri V (B + 1 + 1 + 1 + 1) nb (hiZ y) (loZ y))
/-- The size that lies in a block. -/
def sizeAt (R : Nat) (V : World) : Nat := match V.cell? ⟨R, 1, none⟩, V.cell? ⟨R, 2, none⟩ with
  | some (.int _ h), some (.int _ l) => (h * 18446744073709551616 + l).toNat
  | _, _ => 0
theorem sizeAt_tri {V : World} {R y : Nat} {n : Bool} (hy : y < 340282366920938463463374607431768211456) (t : Tri V R n (hiZ y) (loZ y)) : sizeAt R V = y := by
  unfold sizeAt
  rw [t.2.2.1, t.2.2.2.1]
  simp only
  unfold hiZ loZ
  omega
theorem Two.one {V : World} {R S i : Nat} {x y v : Value} (h : Two V R x y) (n : S ≠ R) : Two (V.setCell ⟨S, i, none⟩ v) R x y := by
  obtain ⟨z, c0, c1, f0, f1⟩ := h
  have n2 : R ≠ S := fun e => n e.symm
  exact ⟨by simpa using z, by go_simp, by go_simp, by go_simp, by go_simp⟩
theorem Low5.step {V : World} {B : Nat} {ng nd na nb na2 nb2 : Bool} {H L : Int} {D x2 y2 : Nat} {ah al bh bl xh xl yh yl : Int} (Tn : Tri V B ng H L) (Td : Tri V (B + 1) nd (hiZ D) (loZ D)) (Tr : Two V (B + 1 + 1) (.int .i64 0) (.int .i64 0)) (Ta : Tri V (B + 1 + 1 + 1) na ah al) (Tb : Tri V (B + 1 + 1 + 1 + 1) nb bh bl)
    (e1 : hiZ x2 = xh) (e2 : loZ x2 = xl) (e3 : hiZ y2 = yh) (e4 : loZ y2 = yl) :
    Low5 B ng nd H L D x2 y2 ((((((V.setCell ⟨B + 1 + 1 + 1, 0, none⟩ (.bool na2)).setCell ⟨B + 1 + 1 + 1, 1, none⟩ (.int .u64 xh)).setCell ⟨B + 1 + 1 + 1, 2, none⟩ (.int .u64 xl)).setCell ⟨B + 1 + 1 + 1 + 1, 0, none⟩ (.bool nb2)).setCell ⟨B + 1 + 1 + 1 + 1, 1, none⟩ (.int .u64 yh)).setCell ⟨B + 1 + 1 + 1 + 1, 2, none⟩ (.int .u64 yl)) := by
  subst e1 e2 e3 e4
  refine ⟨?_, ?_, ?_, ⟨na2, ?_⟩, ⟨nb2, ?_⟩⟩
  · exact (((((Tn.other (by omega)).other (by omega)).other (by omega)).other (by omega)).other (by omega)).other (by omega)
  · exact (((((Td.other (by omega)).other (by omega)).other (by omega)).other (by omega)).other (by omega)).other (by omega)
  · exact (((((Tr.one (by omega)).one (by omega)).one (by omega)).one (by omega)).one (by omega)).one (by omega)
  · exact (((((Ta.set0).set1).set2).other (by omega)).other (by omega)).other (by omega)
  · exact (((((Tb.other (by omega)).other (by omega)).other (by omega)).set0).set1).set2
theorem low5_new (w : World) (ng nd : Bool) (H L : Int) (m D : Nat) (e1 : hiZ m = H) (e2 : loZ m = L) :
    Low5 w.heap.size ng nd H L D m D (((((w.alloc (.cells #[.bool ng, .int .u64 H, .int .u64 L] 83)).alloc (.cells #[.bool nd, .int .u64 (hiZ D), .int .u64 (loZ D)] 83)).alloc (.cells #[.int .i64 0, .int .i64 0] 24)).alloc (.cells #[.bool false, .int .u64 H, .int .u64 L] 83)).alloc (.cells #[.bool nd, .int .u64 (hiZ D), .int .u64 (loZ D)] 83)) := by
  subst e1 e2
  have t1 := ((((Tri.new w ng (hiZ m) (loZ m) 83).alloc (.cells #[.bool nd, .int .u64 (hiZ D), .int .u64 (loZ D)] 83)).alloc (.cells #[.int .i64 0, .int .i64 0] 24)).alloc (.cells #[.bool false, .int .u64 (hiZ m), .int .u64 (loZ m)] 83)).alloc (.cells #[.bool nd, .int .u64 (hiZ D), .int .u64 (loZ D)] 83)
  have t2 := (((Tri.new (w.alloc (.cells #[.bool ng, .int .u64 (hiZ m), .int .u64 (loZ m)] 83)) nd (hiZ D) (loZ D) 83).alloc (.cells #[.int .i64 0, .int .i64 0] 24)).alloc (.cells #[.bool false, .int .u64 (hiZ m), .int .u64 (loZ m)] 83)).alloc (.cells #[.bool nd, .int .u64 (hiZ D), .int .u64 (loZ D)] 83)
  have t3 := ((Two.new ((w.alloc (.cells #[.bool ng, .int .u64 (hiZ m), .int .u64 (loZ m)] 83)).alloc (.cells #[.bool nd, .int .u64 (hiZ D), .int .u64 (loZ D)] 83)) (.int .i64 0) (.int .i64 0) 24).alloc (.cells #[.bool false, .int .u64 (hiZ m), .int .u64 (loZ m)] 83)).alloc (.cells #[.bool nd, .int .u64 (hiZ D), .int .u64 (loZ D)] 83)
  have t4 := (Tri.new (((w.alloc (.cells #[.bool ng, .int .u64 (hiZ m), .int .u64 (loZ m)] 83)).alloc (.cells #[.bool nd, .int .u64 (hiZ D), .int .u64 (loZ D)] 83)).alloc (.cells #[.int .i64 0, .int .i64 0] 24)) false (hiZ m) (loZ m) 83).alloc (.cells #[.bool nd, .int .u64 (hiZ D), .int .u64 (loZ D)] 83)
  have t5 := Tri.new ((((w.alloc (.cells #[.bool ng, .int .u64 (hiZ m), .int .u64 (loZ m)] 83)).alloc (.cells #[.bool nd, .int .u64 (hiZ D), .int .u64 (loZ D)] 83)).alloc (.cells #[.int .i64 0, .int .i64 0] 24)).alloc (.cells #[.bool false, .int .u64 (hiZ m), .int .u64 (loZ m)] 83)) nd (hiZ D) (loZ D) 83
  exact ⟨t1, t2.at (by simp), (by have := t3; rwa [show ((w.alloc (.cells #[.bool ng, .int .u64 (hiZ m), .int .u64 (loZ m)] 83)).alloc (.cells #[.bool nd, .int .u64 (hiZ D), .int .u64 (loZ D)] 83)).heap.size = w.heap.size + 1 + 1 by simp] at this), ⟨false, t4.at (by simp)⟩, ⟨nd, t5.at (by simp)⟩⟩
theorem Tri.drew {V : World} {R : Nat} {n : Bool} {h l : Int} (t : Tri V R n h l) : Tri V.drew R n h l := t
theorem sN {V : World} {A B : Nat} {n n2 : Bool} {h l h2 l2 : Int} (t : Tri V A n h l) (u : Tri V B n2 h2 l2) : V.cell? ⟨A, 0, none⟩ = some (.bool n) ∧ V.cell? ⟨A, 1, none⟩ = some (.int .u64 h) ∧ V.cell? ⟨A, 2, none⟩ = some (.int .u64 l) ∧ V.cell? ⟨B, 2, none⟩ = some (.int .u64 l2) :=
  ⟨t.2.1, t.2.2.1, t.2.2.2.1, u.2.2.2.1⟩
theorem low_ref (ng : Bool) (m D g : Nat) (hD : 0 < D) (hg : g = m.gcd D) :
    low (Rat.divInt (sgn ng m) D) = if m / g ≤ 4611686018427387904 ∧ D / g ≤ 2147483648 then (⟨sgn ng (m / g : Nat), (D / g : Nat)⟩, 0) else (⟨0, 0⟩, 12) := by
  have hg0 : 0 < g := by rw [hg]; exact Nat.gcd_pos_of_pos_right _ hD
  have hgm : (g : Int) ∣ m := by rw [hg]; exact Int.ofNat_dvd.2 (Nat.gcd_dvd_left m D)
  have ea : (sgn ng m).natAbs = m := by unfold sgn; split <;> omega
  have e0 : (g : Int) = (((sgn ng m) % (D : Int)).toNat.gcd (D : Int).toNat : Nat) := by
    rw [gcd_rest _ _ (by omega), ea, hg]
    rfl
  have e1 : sgn ng m / g = sgn ng (m / g : Nat) := by
    unfold sgn
    split
    · rw [Int.neg_ediv_of_dvd hgm, Int.natCast_ediv]
    · rw [Int.natCast_ediv]
  rw [low_eq (sgn ng m) D g (by omega) e0, e1, ← Int.natCast_ediv]
  generalize m / g = P
  generalize D / g = Q
  have e2 : (-4611686018427387904 ≤ sgn ng (P : Nat) ∧ sgn ng (P : Nat) ≤ 4611686018427387904 ∧ ((Q : Nat) : Int) ≤ 2147483648) ↔ (P ≤ 4611686018427387904 ∧ Q ≤ 2147483648) := by
    unfold sgn
    split <;> omega
  by_cases h : P ≤ 4611686018427387904 ∧ Q ≤ 2147483648
  · rw [if_pos h, if_pos (e2.2 h)]
  · rw [if_neg h, if_neg (fun k => h (e2.1 k))]
theorem low_zero (D : Int) : low (Rat.divInt 0 D) = (⟨0, 1⟩, 0) := by
  have : Rat.divInt 0 D = 0 := Rat.zero_divInt D
  rw [this]
  rfl
end Go.Proofs.YtaipdckakgohjaaGreatDoor

/- The contract of surtitleref3.lowest, where the first half is not 0. -/
namespace Go.Proofs.YtaipdckakgohjaaGreatDoor
open Go.RowKit Go.Shelf
attribute [local go_sem] Oper.semAt_some

set_option maxRecDepth 100000 in
set_option maxHeartbeats 2000000 in
theorem rlowestA (ng nd : Bool) (H L : Int) (m D : Nat) (hq : ¬ H = 0) (hH : hiZ m = H) (hL : loZ m = L) (hm0 : 0 < m) (hm : m ≤ 170141183460469231731687303715884105728) (hD0 : 0 < D) (hD : D ≤ 170141183460469231731687303715884105728) (w : World) :
    Calls Tryz.prog 46 #[.agg #[.bool ng, .int .u64 H, .int .u64 L], .agg #[.bool nd, .int .u64 (hiZ D), .int .u64 (loZ D)]] w fun e w' => e = .returned (.tuple #[rtv (low (Rat.divInt (sgn ng m) D)).1, .int .i64 (low (Rat.divInt (sgn ng m) D)).2]) ∧ Below w.heap.size w w' := by
  have hgp : 0 < m.gcd D := Nat.gcd_pos_of_pos_left _ hm0
  have HR := hideR (low_ref ng m D _ hD0 rfl)
  generalize low (Rat.divInt (sgn ng m) D) = r at *
  have HH := hideR hH
  have HL := hideR hL
  clear hH hL
  go_enter Tryz.func46, Tryz.ntmps46
  go_wp2_with fail
  go_loopw [8] (fun _ wr => ∃ x y : Nat, 0 < x ∧ x ≤ 170141183460469231731687303715884105728 ∧ y ≤ 170141183460469231731687303715884105728 ∧ x.gcd y = m.gcd D ∧ Low5 w.heap.size ng nd H L D x y wr ∧ Below w.heap.size w wr) (fun _ wr => sizeAt (w.heap.size + 1 + 1 + 1 + 1) wr)
  case atStart => exact ⟨m, D, hm0, hm, hD, rfl, low5_new w ng nd H L m D HH.out HL.out, bup (bel3 w _ _ _) (bel2 _ _ _)⟩
  case round =>
    obtain ⟨x, y, hx0, hx, hy, hg, hS, hB⟩ := hrel
    by_cases h0 : y = 0
    · subst h0
      obtain ⟨Tn, Td, Tr, ⟨na, Ta⟩, ⟨nb, Tb⟩⟩ := id hS
      rw [Nat.gcd_zero_right] at hg
      rw [show hiZ ((0 : Nat) : Int) = 0 from rfl, show loZ ((0 : Nat) : Int) = 0 from rfl] at Tb
      have HG := hideR hg.symm
      clear hg
      have HP := divided_any false na m x (by omega) hx0 hx
      have HQ := divided_any nd na D x (by omega) hx0 hx
      rw [HH.out, HL.out] at HP
      unfold uv at HP HQ
      have HP := hideR HP
      have HQ := hideR HQ
      obtain ⟨_, a0, a1, a2, a3, a4, a5⟩ := id Ta
      obtain ⟨_, b0, b1, b2, b3, b4, b5⟩ := id Tb
      obtain ⟨_, n0, n1, n2, _, _, _⟩ := id Tn
      go_wp2_with fail
      go_at_call 75
      refine Calls.mono (HP.out _) ?_
      rintro e w2 ⟨rfl, k2⟩
      have Tn2 := Tn.keep k2
      have Td2 := Td.keep k2
      have Tr2 := Tr.keep k2
      have Ta2 := Ta.keep k2
      have B2 := bup hB k2
      clear hS hB Tn Td Tr Ta Tb k2 a0 a1 a2 a3 a4 a5 b0 b1 b2 b3 b4 b5 n0 n1 n2
      obtain ⟨P, hP⟩ : ∃ P, m / x = P := ⟨_, rfl⟩
      obtain ⟨P0, hP0⟩ : ∃ P0, m % x = P0 := ⟨_, rfl⟩
      rw [hP, hP0]
      have HP1 := hideR hP
      clear hP hP0 HP
      have HPb : Hid (P ≤ 170141183460469231731687303715884105728) := by rw [Hid, ← HP1.out]; exact Nat.le_trans (Nat.div_le_self _ _) hm
      have zz : w.heap.size + 1 + 1 + 1 < w2.heap.size := Ta2.1
      have Tn3 := (Tn2.alloc (.cells #[.bool false, .int .u64 (hiZ P), .int .u64 (loZ P)] 83)).alloc (.cells #[.bool false, .int .u64 (hiZ P0), .int .u64 (loZ P0)] 83)
      have Td3 := (Td2.alloc (.cells #[.bool false, .int .u64 (hiZ P), .int .u64 (loZ P)] 83)).alloc (.cells #[.bool false, .int .u64 (hiZ P0), .int .u64 (loZ P0)] 83)
      have Tr3 := (Tr2.alloc (.cells #[.bool false, .int .u64 (hiZ P), .int .u64 (loZ P)] 83)).alloc (.cells #[.bool false, .int .u64 (hiZ P0), .int .u64 (loZ P0)] 83)
      have Ta3 := (Ta2.alloc (.cells #[.bool false, .int .u64 (hiZ P), .int .u64 (loZ P)] 83)).alloc (.cells #[.bool false, .int .u64 (hiZ P0), .int .u64 (loZ P0)] 83)
      have Tp3 := (Tri.new w2 false (hiZ P) (loZ P) 83).alloc (.cells #[.bool false, .int .u64 (hiZ P0), .int .u64 (loZ P0)] 83)
      have B3 := bup (bup B2 (bel1 w2 (.cells #[.bool false, .int .u64 (hiZ P), .int .u64 (loZ P)] 83))) (bel1 (w2.alloc (.cells #[.bool false, .int .u64 (hiZ P), .int .u64 (loZ P)] 83)) (.cells #[.bool false, .int .u64 (hiZ P0), .int .u64 (loZ P0)] 83))
      clear Tn2 Td2 Tr2 Ta2 B2
      obtain ⟨_, a0, a1, a2, _, _, _⟩ := id Ta3
      obtain ⟨_, d0, d1, d2, _, _, _⟩ := id Td3
      go_wp2_with fail
      go_at_call 75
      refine Calls.mono (HQ.out _) ?_
      rintro e w4 ⟨rfl, k4⟩
      have Tn4 := Tn3.keep k4
      have Tr4 := Tr3.keep k4
      have Tp4 := Tp3.keep k4
      have B4 := bup B3 k4
      obtain ⟨Q, hQ⟩ : ∃ Q, D / x = Q := ⟨_, rfl⟩
      obtain ⟨Q0, hQ0⟩ : ∃ Q0, D % x = Q0 := ⟨_, rfl⟩
      rw [hQ, hQ0]
      have HQ1 := hideR hQ
      have HQb : Hid (Q ≤ 170141183460469231731687303715884105728) := by rw [Hid, ← HQ1.out]; exact Nat.le_trans (Nat.div_le_self _ _) hD
      clear hQ hQ0 HQ Tn3 Td3 Tr3 Ta3 Tp3 B3 k4 a0 a1 a2 d0 d1 d2
      have zp : w2.heap.size < w4.heap.size := Tp4.1
      have Tn5 := (Tn4.alloc (.cells #[.bool false, .int .u64 (hiZ Q), .int .u64 (loZ Q)] 83)).alloc (.cells #[.bool false, .int .u64 (hiZ Q0), .int .u64 (loZ Q0)] 83)
      have Tp5 := (Tp4.alloc (.cells #[.bool false, .int .u64 (hiZ Q), .int .u64 (loZ Q)] 83)).alloc (.cells #[.bool false, .int .u64 (hiZ Q0), .int .u64 (loZ Q0)] 83)
      have Tr6 := ((Tr4.one (S := w2.heap.size) (i := 0) (v := .bool ng) (by omega)).alloc (.cells #[.bool false, .int .u64 (hiZ Q), .int .u64 (loZ Q)] 83)).alloc (.cells #[.bool false, .int .u64 (hiZ Q0), .int .u64 (loZ Q0)] 83)
      have Tp6 := ((Tp4.set0 (n2 := ng)).alloc (.cells #[.bool false, .int .u64 (hiZ Q), .int .u64 (loZ Q)] 83)).alloc (.cells #[.bool false, .int .u64 (hiZ Q0), .int .u64 (loZ Q0)] 83)
      have Tq6 := ((Tri.new (w4.setCell ⟨w2.heap.size, 0, none⟩ (.bool ng)) false (hiZ Q) (loZ Q) 83).at (R2 := w4.heap.size) (by simp)).alloc (.cells #[.bool false, .int .u64 (hiZ Q0), .int .u64 (loZ Q0)] 83)
      have B6 := bup (bup (B4.setCell (p := ⟨w2.heap.size, 0, none⟩) (by simp; omega) (.bool ng)) (bel1 (w4.setCell ⟨w2.heap.size, 0, none⟩ (.bool ng)) (.cells #[.bool false, .int .u64 (hiZ Q), .int .u64 (loZ Q)] 83))) (bel1 ((w4.setCell ⟨w2.heap.size, 0, none⟩ (.bool ng)).alloc (.cells #[.bool false, .int .u64 (hiZ Q), .int .u64 (loZ Q)] 83)) (.cells #[.bool false, .int .u64 (hiZ Q0), .int .u64 (loZ Q0)] 83))
      have HF := hideR (rfits_any ng (hiZ P) (loZ P))
      obtain ⟨_, n0, n1, n2, _, _, _⟩ := id Tn5
      obtain ⟨_, p0, p1, p2, p3, p4, p5⟩ := id Tp5
      obtain ⟨_, q0, q1, q2, _, _, _⟩ := id Tp6
      clear Tn5 Tp5 Tn4 Tr4 Tp4 B4
      go_wp2_with fail
      go_at_call 76
      refine Calls.mono (HF.out _) ?_
      rintro e w7 ⟨rfl, k7⟩
      have Tr7 := Tr6.keep k7
      have Tp7 := Tp6.keep k7
      have Tq7 := Tq6.keep k7
      have B7 := bup B6 k7
      clear HF Tr6 Tp6 Tq6 B6 k7 n0 n1 n2 p0 p1 p2 p3 p4 p5 q0 q1 q2
      have zr : w.heap.size + 1 + 1 < w7.heap.size := Tr7.1
      have hPb := HPb.out
      have hQb := HQb.out
      have er0 : r = if P ≤ 4611686018427387904 ∧ Q ≤ 2147483648 then (⟨sgn ng P, Q⟩, 0) else (⟨0, 0⟩, 12) := by
        have := HR.out
        rw [HG.out, HP1.out, HQ1.out] at this
        exact this
      have ER0 := hideR er0
      clear er0
      obtain ⟨_, k0, k1, k2, k3⟩ := id Tr7
      by_cases hf : P ≤ 4611686018427387904
      · rw [decide_eq_true (show hiZ P = 0 ∧ loZ P ≤ 4611686018427387904 by unfold hiZ loZ; omega)]
        by_cases hqh : hiZ Q = 0
        · rw [hqh] at Tq7
          by_cases hql : 2147483648 < loZ Q
          · have er : Hid (r = (⟨0, 0⟩, 12)) := by
              rw [Hid, ER0.out, if_neg]
              unfold hiZ at hqh
              unfold loZ at hql
              omega
            obtain ⟨_, q0, q1, q2, _, _, _⟩ := id Tq7
            go_wp2_with fail
            exact bodyPost_ret (v := .tuple #[.agg #[.int .i64 0, .int .i64 0], .int .i64 12]) (by simp [results, Tryz.results46, go_sem, k0, k1]) rfl ⟨by rw [er.out]; rfl, (B7.setCell (by simp; omega) _).setCell (by simp; omega) _⟩
          · have e1 : loZ Q = Q := by unfold hiZ loZ at *; omega
            rw [e1] at Tq7 hql
            have er : Hid (r = (⟨sgn ng P, Q⟩, 0)) := by
              rw [Hid, ER0.out, if_pos]
              omega
            have HN := r3num_any ng (hiZ P) (loZ P) (by unfold loZ; omega) (by unfold loZ; omega)
            rw [show loZ P = P by unfold loZ; omega] at HN Tp7
            have HN := hideR HN
            have hw : IntKind.i64.wrap (Q : Int) = Q := by rw [IntKind.wrap_i64]; omega
            clear e1 hqh
            obtain ⟨_, q0, q1, q2, _, _, _⟩ := id Tq7
            obtain ⟨_, p0, p1, p2, _, _, _⟩ := id Tp7
            have SC := sN Tp7 Tq7
            have z4 : w4.heap.size < w7.heap.size := Tq7.1
            go_wp2_with fail
            go_region_held3 (fun w' => w'.cell? ⟨w2.heap.size, 0, none⟩ = some (.bool ng) ∧ w'.cell? ⟨w2.heap.size, 1, none⟩ = some (.int .u64 (hiZ P)) ∧ w'.cell? ⟨w2.heap.size, 2, none⟩ = some (.int .u64 (P : Int)) ∧ w'.cell? ⟨w4.heap.size, 2, none⟩ = some (.int .u64 (Q : Int))) (first | assumption | exact sN ((Tp8.other (by omega)).other (by omega)) ((Tq8.other (by omega)).other (by omega)) | go_keep)
              ((go_at_call 77; refine (HN.out _).mono ?_; rintro e w8 ⟨rfl, k8⟩; have Tp8 := Tp7.drew.keep k8; have Tq8 := Tq7.drew.keep k8; have Tr8 := Tr7.drew.keep k8; have S8 := sN Tp8 Tq8; obtain ⟨_, l0, l1, l2, l3⟩ := id Tr8))
            all_goals (try go_wp2_with fail)
            all_goals exact bodyPost_ret (v := .tuple #[.agg #[.int .i64 (sgn ng P), .int .i64 Q], .int .i64 0]) (by simp [results, Tryz.results46, go_sem, l0, l1]) rfl ⟨by rw [er.out]; rfl, ((bup B7.drew k8).setCell (by simp; omega) _).setCell (by simp; omega) _⟩
        · have er : Hid (r = (⟨0, 0⟩, 12)) := by
            rw [Hid, ER0.out, if_neg]
            unfold hiZ at hqh
            omega
          obtain ⟨_, q0, q1, q2, _, _, _⟩ := id Tq7
          go_wp2_with fail
          exact bodyPost_ret (v := .tuple #[.agg #[.int .i64 0, .int .i64 0], .int .i64 12]) (by simp [results, Tryz.results46, go_sem, k0, k1]) rfl ⟨by rw [er.out]; rfl, (B7.setCell (by simp; omega) _).setCell (by simp; omega) _⟩
      · rw [decide_eq_false (show ¬ (hiZ P = 0 ∧ loZ P ≤ 4611686018427387904) by unfold hiZ loZ; omega)]
        have er : Hid (r = (⟨0, 0⟩, 12)) := by
          rw [Hid, ER0.out, if_neg]
          omega
        go_wp2_with fail
        exact bodyPost_ret (v := .tuple #[.agg #[.int .i64 0, .int .i64 0], .int .i64 12]) (by simp [results, Tryz.results46, go_sem, k0, k1]) rfl ⟨by rw [er.out]; rfl, (B7.setCell (by simp; omega) _).setCell (by simp; omega) _⟩
    · obtain ⟨Tn, Td, Tr, ⟨na, Ta⟩, ⟨nb, Tb⟩⟩ := id hS
      have HG := hideR hg
      have hyr : x % y ≤ 170141183460469231731687303715884105728 := by have := Nat.mod_lt x (show y > 0 by omega); omega
      have HDv := divided_any na nb x y (by omega) (by omega) hy
      unfold uv at HDv
      have HDv := hideR HDv
      have hne : ¬ (hiZ (y : Nat) = 0 ∧ loZ (y : Nat) = 0) := by unfold hiZ loZ; omega
      have hsz := sizeAt_tri (by omega) Tb
      have HSZ := hideR hsz
      clear hg hsz
      obtain ⟨yh, eyh⟩ : ∃ yh, hiZ (y : Nat) = yh := ⟨_, rfl⟩
      obtain ⟨yl, eyl⟩ : ∃ yl, loZ (y : Nat) = yl := ⟨_, rfl⟩
      rw [eyh, eyl] at Tb hne HDv
      have EYH := hideR eyh
      have EYL := hideR eyl
      clear eyh eyl
      obtain ⟨_, a0, a1, a2, a3, a4, a5⟩ := id Ta
      obtain ⟨_, b0, b1, b2, b3, b4, b5⟩ := id Tb
      by_cases hh : yh = 0
      · subst hh
        have hl : ¬ yl = 0 := fun e => hne ⟨rfl, e⟩
        go_wp2_with fail
        go_at_call 75
        refine Calls.mono (HDv.out _) ?_
        rintro e w2 ⟨rfl, k2⟩
        have Tn2 := Tn.keep k2
        have Td2 := Td.keep k2
        have Tr2 := Tr.keep k2
        have Ta2 := Ta.keep k2
        have Tb2 := Tb.keep k2
        have B2 := bup hB k2
        obtain ⟨xq, exq⟩ : ∃ xq, x / y = xq := ⟨_, rfl⟩
        obtain ⟨xr, exr⟩ : ∃ xr, x % y = xr := ⟨_, rfl⟩
        rw [exq, exr]
        rw [exr] at hyr
        have hlt : Hid (xr < y) := by rw [Hid, ← exr]; exact Nat.mod_lt x (by omega)
        have EXR := hideR exr
        clear exq exr a0 a1 a2 a3 a4 a5 b0 b1 b2 b3 b4 b5 Tn Td Tr Ta Tb hB k2 hS
        have Tn3 := (Tn2.alloc (.cells #[.bool false, .int .u64 (hiZ xq), .int .u64 (loZ xq)] 83)).alloc (.cells #[.bool false, .int .u64 (hiZ xr), .int .u64 (loZ xr)] 83)
        have Td3 := (Td2.alloc (.cells #[.bool false, .int .u64 (hiZ xq), .int .u64 (loZ xq)] 83)).alloc (.cells #[.bool false, .int .u64 (hiZ xr), .int .u64 (loZ xr)] 83)
        have Tr3 := (Tr2.alloc (.cells #[.bool false, .int .u64 (hiZ xq), .int .u64 (loZ xq)] 83)).alloc (.cells #[.bool false, .int .u64 (hiZ xr), .int .u64 (loZ xr)] 83)
        have Ta3 := (Ta2.alloc (.cells #[.bool false, .int .u64 (hiZ xq), .int .u64 (loZ xq)] 83)).alloc (.cells #[.bool false, .int .u64 (hiZ xr), .int .u64 (loZ xr)] 83)
        have Tb3 := (Tb2.alloc (.cells #[.bool false, .int .u64 (hiZ xq), .int .u64 (loZ xq)] 83)).alloc (.cells #[.bool false, .int .u64 (hiZ xr), .int .u64 (loZ xr)] 83)
        have Tx3 := Tri.new (w2.alloc (.cells #[.bool false, .int .u64 (hiZ xq), .int .u64 (loZ xq)] 83)) false (hiZ xr) (loZ xr) 83
        rw [show (w2.alloc (.cells #[.bool false, .int .u64 (hiZ xq), .int .u64 (loZ xq)] 83)).heap.size = w2.heap.size + 1 by simp] at Tx3
        have B3 := bup (bup B2 (bel1 w2 (.cells #[.bool false, .int .u64 (hiZ xq), .int .u64 (loZ xq)] 83))) (bel1 (w2.alloc (.cells #[.bool false, .int .u64 (hiZ xq), .int .u64 (loZ xq)] 83)) (.cells #[.bool false, .int .u64 (hiZ xr), .int .u64 (loZ xr)] 83))
        have zz : w.heap.size + 1 + 1 + 1 + 1 < w2.heap.size := Tb2.1
        clear Tn2 Td2 Tr2 Ta2 Tb2 B2
        have S3 := Low5.step (na2 := nb) (nb2 := false) Tn3 Td3 Tr3 Ta3 Tb3 EYH.out EYL.out (x2 := y) (y2 := xr) rfl rfl
        have B4 := (((((B3.setCell (p := ⟨w.heap.size + 1 + 1 + 1, 0, none⟩) (by simp; omega) (.bool nb)).setCell (p := ⟨w.heap.size + 1 + 1 + 1, 1, none⟩) (by simp; omega) (.int .u64 0)).setCell (p := ⟨w.heap.size + 1 + 1 + 1, 2, none⟩) (by simp; omega) (.int .u64 yl)).setCell (p := ⟨w.heap.size + 1 + 1 + 1 + 1, 0, none⟩) (by simp; omega) (.bool false)).setCell (p := ⟨w.heap.size + 1 + 1 + 1 + 1, 1, none⟩) (by simp; omega) (.int .u64 (hiZ xr))).setCell (p := ⟨w.heap.size + 1 + 1 + 1 + 1, 2, none⟩) (by simp; omega) (.int .u64 (loZ xr))
        obtain ⟨_, a0, a1, a2, a3, a4, a5⟩ := id Ta3
        obtain ⟨_, b0, b1, b2, b3, b4, b5⟩ := id Tb3
        obtain ⟨_, x0, x1, x2, _, _, _⟩ := id Tx3
        clear Tn3 Td3 Tr3 Ta3 Tb3 Tx3 B3
        go_wp2_with fail
        obtain ⟨nb4, Tb4⟩ := id S3.2.2.2.2
        refine ⟨⟨y, xr, by omega, hy, hyr, ?_, S3, B4⟩, ?_⟩
        · rw [← EXR.out, gcd_round x y]; exact HG.out
        · rw [sizeAt_tri (by omega) Tb4, HSZ.out]
          exact hlt.out
      · go_wp2_with fail
        go_at_call 75
        refine Calls.mono (HDv.out _) ?_
        rintro e w2 ⟨rfl, k2⟩
        have Tn2 := Tn.keep k2
        have Td2 := Td.keep k2
        have Tr2 := Tr.keep k2
        have Ta2 := Ta.keep k2
        have Tb2 := Tb.keep k2
        have B2 := bup hB k2
        obtain ⟨xq, exq⟩ : ∃ xq, x / y = xq := ⟨_, rfl⟩
        obtain ⟨xr, exr⟩ : ∃ xr, x % y = xr := ⟨_, rfl⟩
        rw [exq, exr]
        rw [exr] at hyr
        have hlt : Hid (xr < y) := by rw [Hid, ← exr]; exact Nat.mod_lt x (by omega)
        have EXR := hideR exr
        clear exq exr a0 a1 a2 a3 a4 a5 b0 b1 b2 b3 b4 b5 Tn Td Tr Ta Tb hB k2 hS
        have Tn3 := (Tn2.alloc (.cells #[.bool false, .int .u64 (hiZ xq), .int .u64 (loZ xq)] 83)).alloc (.cells #[.bool false, .int .u64 (hiZ xr), .int .u64 (loZ xr)] 83)
        have Td3 := (Td2.alloc (.cells #[.bool false, .int .u64 (hiZ xq), .int .u64 (loZ xq)] 83)).alloc (.cells #[.bool false, .int .u64 (hiZ xr), .int .u64 (loZ xr)] 83)
        have Tr3 := (Tr2.alloc (.cells #[.bool false, .int .u64 (hiZ xq), .int .u64 (loZ xq)] 83)).alloc (.cells #[.bool false, .int .u64 (hiZ xr), .int .u64 (loZ xr)] 83)
        have Ta3 := (Ta2.alloc (.cells #[.bool false, .int .u64 (hiZ xq), .int .u64 (loZ xq)] 83)).alloc (.cells #[.bool false, .int .u64 (hiZ xr), .int .u64 (loZ xr)] 83)
        have Tb3 := (Tb2.alloc (.cells #[.bool false, .int .u64 (hiZ xq), .int .u64 (loZ xq)] 83)).alloc (.cells #[.bool false, .int .u64 (hiZ xr), .int .u64 (loZ xr)] 83)
        have Tx3 := Tri.new (w2.alloc (.cells #[.bool false, .int .u64 (hiZ xq), .int .u64 (loZ xq)] 83)) false (hiZ xr) (loZ xr) 83
        rw [show (w2.alloc (.cells #[.bool false, .int .u64 (hiZ xq), .int .u64 (loZ xq)] 83)).heap.size = w2.heap.size + 1 by simp] at Tx3
        have B3 := bup (bup B2 (bel1 w2 (.cells #[.bool false, .int .u64 (hiZ xq), .int .u64 (loZ xq)] 83))) (bel1 (w2.alloc (.cells #[.bool false, .int .u64 (hiZ xq), .int .u64 (loZ xq)] 83)) (.cells #[.bool false, .int .u64 (hiZ xr), .int .u64 (loZ xr)] 83))
        have zz : w.heap.size + 1 + 1 + 1 + 1 < w2.heap.size := Tb2.1
        clear Tn2 Td2 Tr2 Ta2 Tb2 B2
        have S3 := Low5.step (na2 := nb) (nb2 := false) Tn3 Td3 Tr3 Ta3 Tb3 EYH.out EYL.out (x2 := y) (y2 := xr) rfl rfl
        have B4 := (((((B3.setCell (p := ⟨w.heap.size + 1 + 1 + 1, 0, none⟩) (by simp; omega) (.bool nb)).setCell (p := ⟨w.heap.size + 1 + 1 + 1, 1, none⟩) (by simp; omega) (.int .u64 yh)).setCell (p := ⟨w.heap.size + 1 + 1 + 1, 2, none⟩) (by simp; omega) (.int .u64 yl)).setCell (p := ⟨w.heap.size + 1 + 1 + 1 + 1, 0, none⟩) (by simp; omega) (.bool false)).setCell (p := ⟨w.heap.size + 1 + 1 + 1 + 1, 1, none⟩) (by simp; omega) (.int .u64 (hiZ xr))).setCell (p := ⟨w.heap.size + 1 + 1 + 1 + 1, 2, none⟩) (by simp; omega) (.int .u64 (loZ xr))
        obtain ⟨_, a0, a1, a2, a3, a4, a5⟩ := id Ta3
        obtain ⟨_, b0, b1, b2, b3, b4, b5⟩ := id Tb3
        obtain ⟨_, x0, x1, x2, _, _, _⟩ := id Tx3
        clear Tn3 Td3 Tr3 Ta3 Tb3 Tx3 B3
        go_wp2_with fail
        obtain ⟨nb4, Tb4⟩ := id S3.2.2.2.2
        refine ⟨⟨y, xr, by omega, hy, hyr, ?_, S3, B4⟩, ?_⟩
        · rw [← EXR.out, gcd_round x y]; exact HG.out
        · rw [sizeAt_tri (by omega) Tb4, HSZ.out]
          exact hlt.out
end Go.Proofs.YtaipdckakgohjaaGreatDoor

/- The contract of surtitleref3.lowest, where the first half is 0. -/
namespace Go.Proofs.YtaipdckakgohjaaGreatDoor
open Go.RowKit Go.Shelf
attribute [local go_sem] Oper.semAt_some

set_option maxRecDepth 100000 in
set_option maxHeartbeats 2000000 in
theorem rlowestB (ng nd : Bool) (L : Int) (m D : Nat) (hq : ¬ L = 0) (hH : hiZ m = 0) (hL : loZ m = L) (hm0 : 0 < m) (hm : m ≤ 170141183460469231731687303715884105728) (hD0 : 0 < D) (hD : D ≤ 170141183460469231731687303715884105728) (w : World) :
    Calls Tryz.prog 46 #[.agg #[.bool ng, .int .u64 0, .int .u64 L], .agg #[.bool nd, .int .u64 (hiZ D), .int .u64 (loZ D)]] w fun e w' => e = .returned (.tuple #[rtv (low (Rat.divInt (sgn ng m) D)).1, .int .i64 (low (Rat.divInt (sgn ng m) D)).2]) ∧ Below w.heap.size w w' := by
  have hgp : 0 < m.gcd D := Nat.gcd_pos_of_pos_left _ hm0
  have HR := hideR (low_ref ng m D _ hD0 rfl)
  generalize low (Rat.divInt (sgn ng m) D) = r at *
  have HH := hideR hH
  have HL := hideR hL
  clear hH hL
  have hqb : (L == 0) = false := by simpa using hq
  go_enter Tryz.func46, Tryz.ntmps46
  go_wp2_with fail
  go_loopw [8] (fun _ wr => ∃ x y : Nat, 0 < x ∧ x ≤ 170141183460469231731687303715884105728 ∧ y ≤ 170141183460469231731687303715884105728 ∧ x.gcd y = m.gcd D ∧ Low5 w.heap.size ng nd 0 L D x y wr ∧ Below w.heap.size w wr) (fun _ wr => sizeAt (w.heap.size + 1 + 1 + 1 + 1) wr)
  case atStart => exact ⟨m, D, hm0, hm, hD, rfl, low5_new w ng nd 0 L m D HH.out HL.out, bup (bel3 w _ _ _) (bel2 _ _ _)⟩
  case round =>
    obtain ⟨x, y, hx0, hx, hy, hg, hS, hB⟩ := hrel
    by_cases h0 : y = 0
    · subst h0
      obtain ⟨Tn, Td, Tr, ⟨na, Ta⟩, ⟨nb, Tb⟩⟩ := id hS
      rw [Nat.gcd_zero_right] at hg
      rw [show hiZ ((0 : Nat) : Int) = 0 from rfl, show loZ ((0 : Nat) : Int) = 0 from rfl] at Tb
      have HG := hideR hg.symm
      clear hg
      have HP := divided_any false na m x (by omega) hx0 hx
      have HQ := divided_any nd na D x (by omega) hx0 hx
      rw [HH.out, HL.out] at HP
      unfold uv at HP HQ
      have HP := hideR HP
      have HQ := hideR HQ
      obtain ⟨_, a0, a1, a2, a3, a4, a5⟩ := id Ta
      obtain ⟨_, b0, b1, b2, b3, b4, b5⟩ := id Tb
      obtain ⟨_, n0, n1, n2, _, _, _⟩ := id Tn
      go_wp2_with fail
      go_at_call 75
      refine Calls.mono (HP.out _) ?_
      rintro e w2 ⟨rfl, k2⟩
      have Tn2 := Tn.keep k2
      have Td2 := Td.keep k2
      have Tr2 := Tr.keep k2
      have Ta2 := Ta.keep k2
      have B2 := bup hB k2
      clear hS hB Tn Td Tr Ta Tb k2 a0 a1 a2 a3 a4 a5 b0 b1 b2 b3 b4 b5 n0 n1 n2
      obtain ⟨P, hP⟩ : ∃ P, m / x = P := ⟨_, rfl⟩
      obtain ⟨P0, hP0⟩ : ∃ P0, m % x = P0 := ⟨_, rfl⟩
      rw [hP, hP0]
      have HP1 := hideR hP
      clear hP hP0 HP
      have HPb : Hid (P ≤ 170141183460469231731687303715884105728) := by rw [Hid, ← HP1.out]; exact Nat.le_trans (Nat.div_le_self _ _) hm
      have zz : w.heap.size + 1 + 1 + 1 < w2.heap.size := Ta2.1
      have Tn3 := (Tn2.alloc (.cells #[.bool false, .int .u64 (hiZ P), .int .u64 (loZ P)] 83)).alloc (.cells #[.bool false, .int .u64 (hiZ P0), .int .u64 (loZ P0)] 83)
      have Td3 := (Td2.alloc (.cells #[.bool false, .int .u64 (hiZ P), .int .u64 (loZ P)] 83)).alloc (.cells #[.bool false, .int .u64 (hiZ P0), .int .u64 (loZ P0)] 83)
      have Tr3 := (Tr2.alloc (.cells #[.bool false, .int .u64 (hiZ P), .int .u64 (loZ P)] 83)).alloc (.cells #[.bool false, .int .u64 (hiZ P0), .int .u64 (loZ P0)] 83)
      have Ta3 := (Ta2.alloc (.cells #[.bool false, .int .u64 (hiZ P), .int .u64 (loZ P)] 83)).alloc (.cells #[.bool false, .int .u64 (hiZ P0), .int .u64 (loZ P0)] 83)
      have Tp3 := (Tri.new w2 false (hiZ P) (loZ P) 83).alloc (.cells #[.bool false, .int .u64 (hiZ P0), .int .u64 (loZ P0)] 83)
      have B3 := bup (bup B2 (bel1 w2 (.cells #[.bool false, .int .u64 (hiZ P), .int .u64 (loZ P)] 83))) (bel1 (w2.alloc (.cells #[.bool false, .int .u64 (hiZ P), .int .u64 (loZ P)] 83)) (.cells #[.bool false, .int .u64 (hiZ P0), .int .u64 (loZ P0)] 83))
      clear Tn2 Td2 Tr2 Ta2 B2
      obtain ⟨_, a0, a1, a2, _, _, _⟩ := id Ta3
      obtain ⟨_, d0, d1, d2, _, _, _⟩ := id Td3
      go_wp2_with fail
      go_at_call 75
      refine Calls.mono (HQ.out _) ?_
      rintro e w4 ⟨rfl, k4⟩
      have Tn4 := Tn3.keep k4
      have Tr4 := Tr3.keep k4
      have Tp4 := Tp3.keep k4
      have B4 := bup B3 k4
      obtain ⟨Q, hQ⟩ : ∃ Q, D / x = Q := ⟨_, rfl⟩
      obtain ⟨Q0, hQ0⟩ : ∃ Q0, D % x = Q0 := ⟨_, rfl⟩
      rw [hQ, hQ0]
      have HQ1 := hideR hQ
      have HQb : Hid (Q ≤ 170141183460469231731687303715884105728) := by rw [Hid, ← HQ1.out]; exact Nat.le_trans (Nat.div_le_self _ _) hD
      clear hQ hQ0 HQ Tn3 Td3 Tr3 Ta3 Tp3 B3 k4 a0 a1 a2 d0 d1 d2
      have zp : w2.heap.size < w4.heap.size := Tp4.1
      have Tn5 := (Tn4.alloc (.cells #[.bool false, .int .u64 (hiZ Q), .int .u64 (loZ Q)] 83)).alloc (.cells #[.bool false, .int .u64 (hiZ Q0), .int .u64 (loZ Q0)] 83)
      have Tp5 := (Tp4.alloc (.cells #[.bool false, .int .u64 (hiZ Q), .int .u64 (loZ Q)] 83)).alloc (.cells #[.bool false, .int .u64 (hiZ Q0), .int .u64 (loZ Q0)] 83)
      have Tr6 := ((Tr4.one (S := w2.heap.size) (i := 0) (v := .bool ng) (by omega)).alloc (.cells #[.bool false, .int .u64 (hiZ Q), .int .u64 (loZ Q)] 83)).alloc (.cells #[.bool false, .int .u64 (hiZ Q0), .int .u64 (loZ Q0)] 83)
      have Tp6 := ((Tp4.set0 (n2 := ng)).alloc (.cells #[.bool false, .int .u64 (hiZ Q), .int .u64 (loZ Q)] 83)).alloc (.cells #[.bool false, .int .u64 (hiZ Q0), .int .u64 (loZ Q0)] 83)
      have Tq6 := ((Tri.new (w4.setCell ⟨w2.heap.size, 0, none⟩ (.bool ng)) false (hiZ Q) (loZ Q) 83).at (R2 := w4.heap.size) (by simp)).alloc (.cells #[.bool false, .int .u64 (hiZ Q0), .int .u64 (loZ Q0)] 83)
      have B6 := bup (bup (B4.setCell (p := ⟨w2.heap.size, 0, none⟩) (by simp; omega) (.bool ng)) (bel1 (w4.setCell ⟨w2.heap.size, 0, none⟩ (.bool ng)) (.cells #[.bool false, .int .u64 (hiZ Q), .int .u64 (loZ Q)] 83))) (bel1 ((w4.setCell ⟨w2.heap.size, 0, none⟩ (.bool ng)).alloc (.cells #[.bool false, .int .u64 (hiZ Q), .int .u64 (loZ Q)] 83)) (.cells #[.bool false, .int .u64 (hiZ Q0), .int .u64 (loZ Q0)] 83))
      have HF := hideR (rfits_any ng (hiZ P) (loZ P))
      obtain ⟨_, n0, n1, n2, _, _, _⟩ := id Tn5
      obtain ⟨_, p0, p1, p2, p3, p4, p5⟩ := id Tp5
      obtain ⟨_, q0, q1, q2, _, _, _⟩ := id Tp6
      clear Tn5 Tp5 Tn4 Tr4 Tp4 B4
      go_wp2_with fail
      go_at_call 76
      refine Calls.mono (HF.out _) ?_
      rintro e w7 ⟨rfl, k7⟩
      have Tr7 := Tr6.keep k7
      have Tp7 := Tp6.keep k7
      have Tq7 := Tq6.keep k7
      have B7 := bup B6 k7
      clear HF Tr6 Tp6 Tq6 B6 k7 n0 n1 n2 p0 p1 p2 p3 p4 p5 q0 q1 q2
      have zr : w.heap.size + 1 + 1 < w7.heap.size := Tr7.1
      have hPb := HPb.out
      have hQb := HQb.out
      have er0 : r = if P ≤ 4611686018427387904 ∧ Q ≤ 2147483648 then (⟨sgn ng P, Q⟩, 0) else (⟨0, 0⟩, 12) := by
        have := HR.out
        rw [HG.out, HP1.out, HQ1.out] at this
        exact this
      have ER0 := hideR er0
      clear er0
      obtain ⟨_, k0, k1, k2, k3⟩ := id Tr7
      by_cases hf : P ≤ 4611686018427387904
      · rw [decide_eq_true (show hiZ P = 0 ∧ loZ P ≤ 4611686018427387904 by unfold hiZ loZ; omega)]
        by_cases hqh : hiZ Q = 0
        · rw [hqh] at Tq7
          by_cases hql : 2147483648 < loZ Q
          · have er : Hid (r = (⟨0, 0⟩, 12)) := by
              rw [Hid, ER0.out, if_neg]
              unfold hiZ at hqh
              unfold loZ at hql
              omega
            obtain ⟨_, q0, q1, q2, _, _, _⟩ := id Tq7
            go_wp2_with fail
            exact bodyPost_ret (v := .tuple #[.agg #[.int .i64 0, .int .i64 0], .int .i64 12]) (by simp [results, Tryz.results46, go_sem, k0, k1]) rfl ⟨by rw [er.out]; rfl, (B7.setCell (by simp; omega) _).setCell (by simp; omega) _⟩
          · have e1 : loZ Q = Q := by unfold hiZ loZ at *; omega
            rw [e1] at Tq7 hql
            have er : Hid (r = (⟨sgn ng P, Q⟩, 0)) := by
              rw [Hid, ER0.out, if_pos]
              omega
            have HN := r3num_any ng (hiZ P) (loZ P) (by unfold loZ; omega) (by unfold loZ; omega)
            rw [show loZ P = P by unfold loZ; omega] at HN Tp7
            have HN := hideR HN
            have hw : IntKind.i64.wrap (Q : Int) = Q := by rw [IntKind.wrap_i64]; omega
            clear e1 hqh
            obtain ⟨_, q0, q1, q2, _, _, _⟩ := id Tq7
            obtain ⟨_, p0, p1, p2, _, _, _⟩ := id Tp7
            have SC := sN Tp7 Tq7
            have z4 : w4.heap.size < w7.heap.size := Tq7.1
            go_wp2_with fail
            go_region_held3 (fun w' => w'.cell? ⟨w2.heap.size, 0, none⟩ = some (.bool ng) ∧ w'.cell? ⟨w2.heap.size, 1, none⟩ = some (.int .u64 (hiZ P)) ∧ w'.cell? ⟨w2.heap.size, 2, none⟩ = some (.int .u64 (P : Int)) ∧ w'.cell? ⟨w4.heap.size, 2, none⟩ = some (.int .u64 (Q : Int))) (first | assumption | exact sN ((Tp8.other (by omega)).other (by omega)) ((Tq8.other (by omega)).other (by omega)) | go_keep)
              ((go_at_call 77; refine (HN.out _).mono ?_; rintro e w8 ⟨rfl, k8⟩; have Tp8 := Tp7.drew.keep k8; have Tq8 := Tq7.drew.keep k8; have Tr8 := Tr7.drew.keep k8; have S8 := sN Tp8 Tq8; obtain ⟨_, l0, l1, l2, l3⟩ := id Tr8))
            all_goals (try go_wp2_with fail)
            all_goals exact bodyPost_ret (v := .tuple #[.agg #[.int .i64 (sgn ng P), .int .i64 Q], .int .i64 0]) (by simp [results, Tryz.results46, go_sem, l0, l1]) rfl ⟨by rw [er.out]; rfl, ((bup B7.drew k8).setCell (by simp; omega) _).setCell (by simp; omega) _⟩
        · have er : Hid (r = (⟨0, 0⟩, 12)) := by
            rw [Hid, ER0.out, if_neg]
            unfold hiZ at hqh
            omega
          obtain ⟨_, q0, q1, q2, _, _, _⟩ := id Tq7
          go_wp2_with fail
          exact bodyPost_ret (v := .tuple #[.agg #[.int .i64 0, .int .i64 0], .int .i64 12]) (by simp [results, Tryz.results46, go_sem, k0, k1]) rfl ⟨by rw [er.out]; rfl, (B7.setCell (by simp; omega) _).setCell (by simp; omega) _⟩
      · rw [decide_eq_false (show ¬ (hiZ P = 0 ∧ loZ P ≤ 4611686018427387904) by unfold hiZ loZ; omega)]
        have er : Hid (r = (⟨0, 0⟩, 12)) := by
          rw [Hid, ER0.out, if_neg]
          omega
        go_wp2_with fail
        exact bodyPost_ret (v := .tuple #[.agg #[.int .i64 0, .int .i64 0], .int .i64 12]) (by simp [results, Tryz.results46, go_sem, k0, k1]) rfl ⟨by rw [er.out]; rfl, (B7.setCell (by simp; omega) _).setCell (by simp; omega) _⟩
    · obtain ⟨Tn, Td, Tr, ⟨na, Ta⟩, ⟨nb, Tb⟩⟩ := id hS
      have HG := hideR hg
      have hyr : x % y ≤ 170141183460469231731687303715884105728 := by have := Nat.mod_lt x (show y > 0 by omega); omega
      have HDv := divided_any na nb x y (by omega) (by omega) hy
      unfold uv at HDv
      have HDv := hideR HDv
      have hne : ¬ (hiZ (y : Nat) = 0 ∧ loZ (y : Nat) = 0) := by unfold hiZ loZ; omega
      have hsz := sizeAt_tri (by omega) Tb
      have HSZ := hideR hsz
      clear hg hsz
      obtain ⟨yh, eyh⟩ : ∃ yh, hiZ (y : Nat) = yh := ⟨_, rfl⟩
      obtain ⟨yl, eyl⟩ : ∃ yl, loZ (y : Nat) = yl := ⟨_, rfl⟩
      rw [eyh, eyl] at Tb hne HDv
      have EYH := hideR eyh
      have EYL := hideR eyl
      clear eyh eyl
      obtain ⟨_, a0, a1, a2, a3, a4, a5⟩ := id Ta
      obtain ⟨_, b0, b1, b2, b3, b4, b5⟩ := id Tb
      by_cases hh : yh = 0
      · subst hh
        have hl : ¬ yl = 0 := fun e => hne ⟨rfl, e⟩
        go_wp2_with fail
        go_at_call 75
        refine Calls.mono (HDv.out _) ?_
        rintro e w2 ⟨rfl, k2⟩
        have Tn2 := Tn.keep k2
        have Td2 := Td.keep k2
        have Tr2 := Tr.keep k2
        have Ta2 := Ta.keep k2
        have Tb2 := Tb.keep k2
        have B2 := bup hB k2
        obtain ⟨xq, exq⟩ : ∃ xq, x / y = xq := ⟨_, rfl⟩
        obtain ⟨xr, exr⟩ : ∃ xr, x % y = xr := ⟨_, rfl⟩
        rw [exq, exr]
        rw [exr] at hyr
        have hlt : Hid (xr < y) := by rw [Hid, ← exr]; exact Nat.mod_lt x (by omega)
        have EXR := hideR exr
        clear exq exr a0 a1 a2 a3 a4 a5 b0 b1 b2 b3 b4 b5 Tn Td Tr Ta Tb hB k2 hS
        have Tn3 := (Tn2.alloc (.cells #[.bool false, .int .u64 (hiZ xq), .int .u64 (loZ xq)] 83)).alloc (.cells #[.bool false, .int .u64 (hiZ xr), .int .u64 (loZ xr)] 83)
        have Td3 := (Td2.alloc (.cells #[.bool false, .int .u64 (hiZ xq), .int .u64 (loZ xq)] 83)).alloc (.cells #[.bool false, .int .u64 (hiZ xr), .int .u64 (loZ xr)] 83)
        have Tr3 := (Tr2.alloc (.cells #[.bool false, .int .u64 (hiZ xq), .int .u64 (loZ xq)] 83)).alloc (.cells #[.bool false, .int .u64 (hiZ xr), .int .u64 (loZ xr)] 83)
        have Ta3 := (Ta2.alloc (.cells #[.bool false, .int .u64 (hiZ xq), .int .u64 (loZ xq)] 83)).alloc (.cells #[.bool false, .int .u64 (hiZ xr), .int .u64 (loZ xr)] 83)
        have Tb3 := (Tb2.alloc (.cells #[.bool false, .int .u64 (hiZ xq), .int .u64 (loZ xq)] 83)).alloc (.cells #[.bool false, .int .u64 (hiZ xr), .int .u64 (loZ xr)] 83)
        have Tx3 := Tri.new (w2.alloc (.cells #[.bool false, .int .u64 (hiZ xq), .int .u64 (loZ xq)] 83)) false (hiZ xr) (loZ xr) 83
        rw [show (w2.alloc (.cells #[.bool false, .int .u64 (hiZ xq), .int .u64 (loZ xq)] 83)).heap.size = w2.heap.size + 1 by simp] at Tx3
        have B3 := bup (bup B2 (bel1 w2 (.cells #[.bool false, .int .u64 (hiZ xq), .int .u64 (loZ xq)] 83))) (bel1 (w2.alloc (.cells #[.bool false, .int .u64 (hiZ xq), .int .u64 (loZ xq)] 83)) (.cells #[.bool false, .int .u64 (hiZ xr), .int .u64 (loZ xr)] 83))
        have zz : w.heap.size + 1 + 1 + 1 + 1 < w2.heap.size := Tb2.1
        clear Tn2 Td2 Tr2 Ta2 Tb2 B2
        have S3 := Low5.step (na2 := nb) (nb2 := false) Tn3 Td3 Tr3 Ta3 Tb3 EYH.out EYL.out (x2 := y) (y2 := xr) rfl rfl
        have B4 := (((((B3.setCell (p := ⟨w.heap.size + 1 + 1 + 1, 0, none⟩) (by simp; omega) (.bool nb)).setCell (p := ⟨w.heap.size + 1 + 1 + 1, 1, none⟩) (by simp; omega) (.int .u64 0)).setCell (p := ⟨w.heap.size + 1 + 1 + 1, 2, none⟩) (by simp; omega) (.int .u64 yl)).setCell (p := ⟨w.heap.size + 1 + 1 + 1 + 1, 0, none⟩) (by simp; omega) (.bool false)).setCell (p := ⟨w.heap.size + 1 + 1 + 1 + 1, 1, none⟩) (by simp; omega) (.int .u64 (hiZ xr))).setCell (p := ⟨w.heap.size + 1 + 1 + 1 + 1, 2, none⟩) (by simp; omega) (.int .u64 (loZ xr))
        obtain ⟨_, a0, a1, a2, a3, a4, a5⟩ := id Ta3
        obtain ⟨_, b0, b1, b2, b3, b4, b5⟩ := id Tb3
        obtain ⟨_, x0, x1, x2, _, _, _⟩ := id Tx3
        clear Tn3 Td3 Tr3 Ta3 Tb3 Tx3 B3
        go_wp2_with fail
        obtain ⟨nb4, Tb4⟩ := id S3.2.2.2.2
        refine ⟨⟨y, xr, by omega, hy, hyr, ?_, S3, B4⟩, ?_⟩
        · rw [← EXR.out, gcd_round x y]; exact HG.out
        · rw [sizeAt_tri (by omega) Tb4, HSZ.out]
          exact hlt.out
      · go_wp2_with fail
        go_at_call 75
        refine Calls.mono (HDv.out _) ?_
        rintro e w2 ⟨rfl, k2⟩
        have Tn2 := Tn.keep k2
        have Td2 := Td.keep k2
        have Tr2 := Tr.keep k2
        have Ta2 := Ta.keep k2
        have Tb2 := Tb.keep k2
        have B2 := bup hB k2
        obtain ⟨xq, exq⟩ : ∃ xq, x / y = xq := ⟨_, rfl⟩
        obtain ⟨xr, exr⟩ : ∃ xr, x % y = xr := ⟨_, rfl⟩
        rw [exq, exr]
        rw [exr] at hyr
        have hlt : Hid (xr < y) := by rw [Hid, ← exr]; exact Nat.mod_lt x (by omega)
        have EXR := hideR exr
        clear exq exr a0 a1 a2 a3 a4 a5 b0 b1 b2 b3 b4 b5 Tn Td Tr Ta Tb hB k2 hS
        have Tn3 := (Tn2.alloc (.cells #[.bool false, .int .u64 (hiZ xq), .int .u64 (loZ xq)] 83)).alloc (.cells #[.bool false, .int .u64 (hiZ xr), .int .u64 (loZ xr)] 83)
        have Td3 := (Td2.alloc (.cells #[.bool false, .int .u64 (hiZ xq), .int .u64 (loZ xq)] 83)).alloc (.cells #[.bool false, .int .u64 (hiZ xr), .int .u64 (loZ xr)] 83)
        have Tr3 := (Tr2.alloc (.cells #[.bool false, .int .u64 (hiZ xq), .int .u64 (loZ xq)] 83)).alloc (.cells #[.bool false, .int .u64 (hiZ xr), .int .u64 (loZ xr)] 83)
        have Ta3 := (Ta2.alloc (.cells #[.bool false, .int .u64 (hiZ xq), .int .u64 (loZ xq)] 83)).alloc (.cells #[.bool false, .int .u64 (hiZ xr), .int .u64 (loZ xr)] 83)
        have Tb3 := (Tb2.alloc (.cells #[.bool false, .int .u64 (hiZ xq), .int .u64 (loZ xq)] 83)).alloc (.cells #[.bool false, .int .u64 (hiZ xr), .int .u64 (loZ xr)] 83)
        have Tx3 := Tri.new (w2.alloc (.cells #[.bool false, .int .u64 (hiZ xq), .int .u64 (loZ xq)] 83)) false (hiZ xr) (loZ xr) 83
        rw [show (w2.alloc (.cells #[.bool false, .int .u64 (hiZ xq), .int .u64 (loZ xq)] 83)).heap.size = w2.heap.size + 1 by simp] at Tx3
        have B3 := bup (bup B2 (bel1 w2 (.cells #[.bool false, .int .u64 (hiZ xq), .int .u64 (loZ xq)] 83))) (bel1 (w2.alloc (.cells #[.bool false, .int .u64 (hiZ xq), .int .u64 (loZ xq)] 83)) (.cells #[.bool false, .int .u64 (hiZ xr), .int .u64 (loZ xr)] 83))
        have zz : w.heap.size + 1 + 1 + 1 + 1 < w2.heap.size := Tb2.1
        clear Tn2 Td2 Tr2 Ta2 Tb2 B2
        have S3 := Low5.step (na2 := nb) (nb2 := false) Tn3 Td3 Tr3 Ta3 Tb3 EYH.out EYL.out (x2 := y) (y2 := xr) rfl rfl
        have B4 := (((((B3.setCell (p := ⟨w.heap.size + 1 + 1 + 1, 0, none⟩) (by simp; omega) (.bool nb)).setCell (p := ⟨w.heap.size + 1 + 1 + 1, 1, none⟩) (by simp; omega) (.int .u64 yh)).setCell (p := ⟨w.heap.size + 1 + 1 + 1, 2, none⟩) (by simp; omega) (.int .u64 yl)).setCell (p := ⟨w.heap.size + 1 + 1 + 1 + 1, 0, none⟩) (by simp; omega) (.bool false)).setCell (p := ⟨w.heap.size + 1 + 1 + 1 + 1, 1, none⟩) (by simp; omega) (.int .u64 (hiZ xr))).setCell (p := ⟨w.heap.size + 1 + 1 + 1 + 1, 2, none⟩) (by simp; omega) (.int .u64 (loZ xr))
        obtain ⟨_, a0, a1, a2, a3, a4, a5⟩ := id Ta3
        obtain ⟨_, b0, b1, b2, b3, b4, b5⟩ := id Tb3
        obtain ⟨_, x0, x1, x2, _, _, _⟩ := id Tx3
        clear Tn3 Td3 Tr3 Ta3 Tb3 Tx3 B3
        go_wp2_with fail
        obtain ⟨nb4, Tb4⟩ := id S3.2.2.2.2
        refine ⟨⟨y, xr, by omega, hy, hyr, ?_, S3, B4⟩, ?_⟩
        · rw [← EXR.out, gcd_round x y]; exact HG.out
        · rw [sizeAt_tri (by omega) Tb4, HSZ.out]
          exact hlt.out
end Go.Proofs.YtaipdckakgohjaaGreatDoor

/- Walks of surtitleref3: New, Add, Sub, Neg, Mul, Div, over what they call. -/
namespace Go.Proofs.YtaipdckakgohjaaGreatDoor
open Go.RowKit Go.Shelf
attribute [local go_sem] Oper.semAt_some

theorem Two.put1 {V : World} {R S i : Nat} {x y v : Value} (h : Two V R x y) (n : S ≠ R) : Two (V.setCell ⟨S, i, none⟩ v) R x y := by
  obtain ⟨z, c0, c1, f0, f1⟩ := h
  have n2 : R ≠ S := fun e => n e.symm
  exact ⟨by simpa using z, by go_simp, by go_simp, by go_simp, by go_simp⟩

set_option maxRecDepth 100000 in
set_option maxHeartbeats 1000000 in
theorem rnew_walk (n d s : Int) (tn un vn : Bool) (th tl : Int) (r : Rt × Int) (hd : (d < 0 ∧ un = !tn) ∨ (0 < d ∧ un = tn))
    (HT : ∀ w, Calls Tryz.prog 45 #[.int .i64 n, .int .i64 1] w fun e w' => e = .returned (.agg #[.bool tn, .int .u64 th, .int .u64 tl]) ∧ Below w.heap.size w w')
    (HR : ∀ w, Calls Tryz.prog 47 #[.agg #[.bool un, .int .u64 th, .int .u64 tl]] w fun e w' => e = .returned (.agg #[.bool vn, .int .u64 th, .int .u64 tl]) ∧ Below w.heap.size w w')
    (HS : ∀ w, Calls Tryz.prog 48 #[.int .i64 d] w fun e w' => e = .returned (.int .u64 s) ∧ w' = w)
    (HL : ∀ w, Calls Tryz.prog 46 #[.agg #[.bool vn, .int .u64 th, .int .u64 tl], .agg #[.bool false, .int .u64 0, .int .u64 s]] w fun e w' => e = .returned (.tuple #[rtv r.1, .int .i64 r.2]) ∧ Below w.heap.size w w') (w : World) :
    Calls Tryz.prog 16 #[.int .i64 n, .int .i64 d] w fun e w' => e = .returned (.tuple #[rtv r.1, .int .i64 r.2]) ∧ Below w.heap.size w w' := by
  simp only [rtv] at *
  have HT := hideR HT
  have HR := hideR HR
  have HS := hideR HS
  have HL := hideR HL
  rcases hd with ⟨h1, rfl⟩ | ⟨h1, hu⟩
  · go_enter Tryz.func16, Tryz.ntmps16
    go_wp2_with fail
    go_at_call 45
    refine Calls.mono (HT.out _) ?_
    rintro e w1 ⟨rfl, b1⟩
    have z1 := b1.size
    simp at z1
    have T1 := ((Two.new w (.int .i64 0) (.int .i64 0) 24).keep b1).alloc (.cells #[.bool tn, .int .u64 th, .int .u64 tl] 83)
    have X1 := Tri.new w1 tn th tl 83
    have B1 := bup (bup (bel1 w _) b1) (bel1 w1 (.cells #[.bool tn, .int .u64 th, .int .u64 tl] 83))
    obtain ⟨_, x0, x1, x2, xf0, xf1, xf2⟩ := id X1
    have T2 := ((Two.new w (.int .i64 0) (.int .i64 0) 24).keep b1).alloc (.cells #[.bool (!tn), .int .u64 th, .int .u64 tl] 83)
    have X2 := Tri.new w1 (!tn) th tl 83
    have B2 := bup (bup (bel1 w _) b1) (bel1 w1 (.cells #[.bool (!tn), .int .u64 th, .int .u64 tl] 83))
    clear b1 T1 X1 B1
    obtain ⟨_, y0, y1, y2, _, _, _⟩ := id X2
    go_wp2_with fail
    go_at_call 47
    refine Calls.mono (HR.out _) ?_
    rintro e w3 ⟨rfl, b3⟩
    have T3 := T2.keep b3
    have B3 := bup B2 b3
    clear T2 X2 B2 b3 x0 x1 x2 xf0 xf1 xf2 y0 y1 y2
    go_wp2_with fail
    go_at_call 48
    refine Calls.mono (HS.out _) ?_
    rintro e w4 ⟨rfl, hw⟩
    obtain rfl := hw.symm
    go_wp2_with fail
    go_at_call 46
    refine Calls.mono (HL.out _) ?_
    rintro e w5 ⟨rfl, b5⟩
    have T5 := T3.keep b5
    have B5 := bup B3 b5
    clear T3 B3 b5
    obtain ⟨_, k0, k1, k2, k3⟩ := id T5
    go_wp2_with fail
    exact bodyPost_ret (v := .tuple #[.agg #[.int .i64 r.1.N, .int .i64 r.1.D], .int .i64 r.2]) (by simp [results, Tryz.results16, go_sem, k0, k1]) rfl ⟨rfl, (B5.setCell (by simp) _).setCell (by simp) _⟩
  · subst hu
    go_enter Tryz.func16, Tryz.ntmps16
    go_wp2_with fail
    go_at_call 45
    refine Calls.mono (HT.out _) ?_
    rintro e w1 ⟨rfl, b1⟩
    have z1 := b1.size
    simp at z1
    have T1 := ((Two.new w (.int .i64 0) (.int .i64 0) 24).keep b1).alloc (.cells #[.bool un, .int .u64 th, .int .u64 tl] 83)
    have X1 := Tri.new w1 un th tl 83
    have B1 := bup (bup (bel1 w _) b1) (bel1 w1 (.cells #[.bool un, .int .u64 th, .int .u64 tl] 83))
    obtain ⟨_, x0, x1, x2, xf0, xf1, xf2⟩ := id X1
    have T2 := T1
    have X2 := X1
    have B2 := B1
    clear T1 X1 B1 b1
    obtain ⟨_, y0, y1, y2, _, _, _⟩ := id X2
    go_wp2_with fail
    go_at_call 47
    refine Calls.mono (HR.out _) ?_
    rintro e w3 ⟨rfl, b3⟩
    have T3 := T2.keep b3
    have B3 := bup B2 b3
    clear T2 X2 B2 b3 x0 x1 x2 xf0 xf1 xf2 y0 y1 y2
    go_wp2_with fail
    go_at_call 48
    refine Calls.mono (HS.out _) ?_
    rintro e w4 ⟨rfl, hw⟩
    obtain rfl := hw.symm
    go_wp2_with fail
    go_at_call 46
    refine Calls.mono (HL.out _) ?_
    rintro e w5 ⟨rfl, b5⟩
    have T5 := T3.keep b5
    have B5 := bup B3 b5
    clear T3 B3 b5
    obtain ⟨_, k0, k1, k2, k3⟩ := id T5
    go_wp2_with fail
    exact bodyPost_ret (v := .tuple #[.agg #[.int .i64 r.1.N, .int .i64 r.1.D], .int .i64 r.2]) (by simp [results, Tryz.results16, go_sem, k0, k1]) rfl ⟨rfl, (B5.setCell (by simp) _).setCell (by simp) _⟩

end Go.Proofs.YtaipdckakgohjaaGreatDoor

/- Contracts of surtitleref3: lowest, New, Add, Sub, Neg, Mul, as numbers. -/
namespace Go.Proofs.YtaipdckakgohjaaGreatDoor
open Go.RowKit Go.Shelf
attribute [local go_sem] Oper.semAt_some

set_option maxRecDepth 100000 in
theorem rlowest0 (ng nd : Bool) (dh dl : Int) (w : World) :
    Calls Tryz.prog 46 #[.agg #[.bool ng, .int .u64 0, .int .u64 0], .agg #[.bool nd, .int .u64 dh, .int .u64 dl]] w fun e w' => e = .returned (.tuple #[.agg #[.int .i64 0, .int .i64 1], .int .i64 0]) ∧ Below w.heap.size w w' := by
  go_enter Tryz.func46, Tryz.ntmps46
  go_wp2_with fail
  exact bodyPost_ret (v := .tuple #[.agg #[.int .i64 0, .int .i64 1], .int .i64 0]) (by simp [results, Tryz.results46, go_sem]) rfl ⟨rfl, bel3 w _ _ _⟩
theorem rlow_nat (ng nd : Bool) (m D : Nat) (hm : m ≤ 170141183460469231731687303715884105728) (hD0 : 0 < D) (hD : D ≤ 170141183460469231731687303715884105728) (w : World) :
    Calls Tryz.prog 46 #[.agg #[.bool ng, .int .u64 (hiZ m), .int .u64 (loZ m)], .agg #[.bool nd, .int .u64 (hiZ D), .int .u64 (loZ D)]] w fun e w' => e = .returned (.tuple #[rtv (low (Rat.divInt (sgn ng m) D)).1, .int .i64 (low (Rat.divInt (sgn ng m) D)).2]) ∧ Below w.heap.size w w' := by
  by_cases h0 : m = 0
  · subst h0
    have e : sgn ng ((0 : Nat) : Int) = 0 := by cases ng <;> rfl
    rw [e, low_zero]
    exact rlowest0 ng nd _ _ w
  · by_cases h : hiZ m = 0
    · rw [h]
      exact rlowestB ng nd (loZ m) m D (by unfold hiZ at h; unfold loZ; omega) h rfl (by omega) hm hD0 hD w
    · exact rlowestA ng nd (hiZ m) (loZ m) m D h rfl rfl (by omega) hm hD0 hD w
theorem sgn_sz (n : Int) : sgn (decide (n < 0)) (sz n) = n := by
  unfold sgn sz
  by_cases h : n < 0
  · rw [if_pos (decide_eq_true h)]; omega
  · rw [if_neg (by simpa using h)]; omega
theorem rlow_i (n d : Int) (hn : sz n ≤ 170141183460469231731687303715884105728) (hd0 : 0 < d) (hd : d ≤ 170141183460469231731687303715884105728) (w : World) :
    Calls Tryz.prog 46 #[nv n, nv d] w fun e w' => e = .returned (.tuple #[rtv (low (Rat.divInt n d)).1, .int .i64 (low (Rat.divInt n d)).2]) ∧ Below w.heap.size w w' := by
  obtain ⟨m, em⟩ := Int.eq_ofNat_of_zero_le (sz_nonneg n)
  obtain ⟨D, eD⟩ := Int.eq_ofNat_of_zero_le (show 0 ≤ d by omega)
  have es : sz d = D := by unfold sz; omega
  have := rlow_nat (decide (n < 0)) (decide (d < 0)) m D (by omega) (by omega) (by omega) w
  rw [← em, sgn_sz, ← eD] at this
  unfold nv
  rw [es, ← eD]
  exact this

theorem rnew_any (n d : Int) (hn : I64 n) (hd : I64 d) (h0 : ¬ d = 0) (w : World) :
    Calls Tryz.prog 16 #[.int .i64 n, .int .i64 d] w fun e w' => e = .returned (.tuple #[rtv (newA n d).1, .int .i64 (newA n d).2]) ∧ Below w.heap.size w w' := by
  have rs := sz_range n hn
  have rd := sz_range d hd
  have HT := rtimes_any n 1 hn ⟨by omega, by omega⟩
  rw [Int.mul_one] at HT
  have HS := rsize_any d hd
  have pd : 0 < sz d := by unfold sz; omega
  have ev : nv (sz d) = .agg #[.bool false, .int .u64 0, .int .u64 (sz d)] := by
    unfold nv
    rw [decide_eq_false (by omega), show sz (sz d) = sz d by unfold sz; omega, show hiZ (sz d) = 0 by unfold hiZ; omega, show loZ (sz d) = sz d by unfold loZ; omega]
  unfold I64 at hd
  by_cases hs : d < 0
  · have HR := right_sgn (!decide (n < 0)) (sz n) rs.1 (by omega)
    have e1 : sgn (!decide (n < 0)) (sz n) = -n := by unfold sgn sz; by_cases h : n < 0 <;> simp [h] <;> omega
    rw [e1] at HR
    have HL := rlow_i (-n) (sz d) (by unfold sz at *; omega) pd (by omega)
    rw [← newA_neg n d hs, ev] at HL
    have e2 : sz (-n) = sz n := by unfold sz; omega
    unfold nv at HR HL HT
    rw [e2] at HR HL
    exact rnew_walk n d (sz d) _ _ _ _ _ _ (.inl ⟨hs, rfl⟩) HT HR HS HL w
  · have HR := right_sgn (decide (n < 0)) (sz n) rs.1 (by omega)
    rw [sgn_sz] at HR
    have HL := rlow_i n (sz d) (by omega) pd (by omega)
    rw [← newA_pos n d (by omega), ev] at HL
    unfold nv at HR HL HT
    exact rnew_walk n d (sz d) _ _ _ _ _ _ (.inr ⟨by omega, rfl⟩) HT HR HS HL w
set_option maxRecDepth 100000 in
theorem rnew_zero (n : Int) (w : World) :
    Calls Tryz.prog 16 #[.int .i64 n, .int .i64 0] w fun e w' => e = .returned (.tuple #[.agg #[.int .i64 0, .int .i64 0], .int .i64 11]) ∧ Below w.heap.size w w' := by
  go_enter Tryz.func16, Tryz.ntmps16
  go_wp2_with fail
  exact bodyPost_ret (v := .tuple #[.agg #[.int .i64 0, .int .i64 0], .int .i64 11]) (by simp [results, Tryz.results16, go_sem]) rfl ⟨rfl, bel1 w _⟩
theorem rnew_full (n d : Int) (hn : I64 n) (hd : I64 d) (w : World) :
    Calls Tryz.prog 16 #[.int .i64 n, .int .i64 d] w fun e w' => e = .returned (.tuple #[rtv (newA n d).1, .int .i64 (newA n d).2]) ∧ Below w.heap.size w w' := by
  by_cases h : d = 0
  · subst h
    exact rnew_zero n w
  · exact rnew_any n d hn hd h w

theorem sz_le {z : Int} {M : Int} (h : -M ≤ z ∧ z ≤ M) : sz z ≤ M := by unfold sz; omega
end Go.Proofs.YtaipdckakgohjaaGreatDoor
