/- Contracts of package ratio: New, Right, Add, Sub, Mul, Neg, Cmp. -/
import Derived.Test.YtipnefaggpigfaaGreatRatW6
import Derived.Deep.QuietTactic
import Derived.BigQuiet
import Derived.WalkSmall
namespace Go.Proofs.YtipnefaggpigfaaGreat
open Go.RowKit Go.Shelf
attribute [local go_sem] Oper.semAt_some

/-- A number of 64 bits. -/
def I64 (k : Int) : Prop := -9223372036854775808 ≤ k ∧ k ≤ 9223372036854775807
/-- A ratio of two numbers of 64 bits. -/
def RtIn (r : Rt) : Prop := I64 r.N ∧ I64 r.D

theorem divisor_quiet (a b : Nat) (ha : a < 18446744073709551616) (hb : b < 18446744073709551616) (w : World) :
    Calls Tryz.prog 54 #[.int .u64 a, .int .u64 b] w fun e w' => e = .returned (.int .u64 (a.gcd b : Nat)) ∧ ∃ m, w' = w.drewN m := by
  go_enter Tryz.func54, Tryz.ntmps54
  go_wp2
  go_loopw [0, 1] (fun va vb wr => ∃ x y : Nat, va = .int .u64 x ∧ vb = .int .u64 y ∧ x < 18446744073709551616 ∧ y < 18446744073709551616 ∧ x.gcd y = a.gcd b ∧ ∃ m, wr = w.drewN m) (fun _ vb _ => (intOf vb).natAbs)
  case atStart => exact ⟨a, b, rfl, rfl, ha, hb, rfl, 0, rfl⟩
  case round =>
    obtain ⟨x, y, rfl, rfl, hx, hy, hg, m, hm⟩ := hrel
    have HG : Hid (x.gcd y = a.gcd b) := hg
    clear hg
    by_cases h0 : y = 0
    · subst h0
      go_wp2
      go_ret
      refine ⟨ret_int ?_, m, rfl⟩
      have := HG.out
      simp at this
      rw [this]
    · have hn : ((y : Int) != 0) = true := by simp; omega
      go_wp2
      go_region
      all_goals (try go_wp2)
      all_goals (
        go_roundw
        case rel =>
          refine ⟨y, x % y, rfl, by go_num, hy, by have := Nat.mod_lt x (show y > 0 by omega); omega, ?_, m + 1, rfl⟩
          rw [gcd_round x y]; exact HG.out
        case measure =>
          have := Nat.mod_lt x (show y > 0 by omega)
          simp [intOf]
          omega)
theorem divisor_iq (x y : Int) (hx : 0 ≤ x ∧ x < 18446744073709551616) (hy : 0 ≤ y ∧ y < 18446744073709551616) (w : World) :
    Calls Tryz.prog 54 #[.int .u64 x, .int .u64 y] w fun e w' => e = .returned (.int .u64 (x.toNat.gcd y.toNat : Nat)) ∧ ∃ m, w' = w.drewN m := by
  obtain ⟨a, rfl⟩ := Int.eq_ofNat_of_zero_le hx.1
  obtain ⟨b, rfl⟩ := Int.eq_ofNat_of_zero_le hy.1
  exact divisor_quiet a b (by omega) (by omega) w

set_option maxRecDepth 100000 in
set_option maxHeartbeats 1000000 in
theorem right_walk (n d g : Int) (b : Bool) (hN : I64 n) (hD : I64 d)
    (HM : 1 ≤ d → ∀ w, Calls Tryz.prog 54 #[.int .u64 (sz n), .int .u64 d] w fun e w' => e = .returned (.int .u64 g) ∧ ∃ m, w' = w.drewN m)
    (hres : (d < 1 ∧ b = false) ∨ (2147483648 < d ∧ b = false) ∨ (1 ≤ d ∧ d ≤ 2147483648 ∧ 4611686018427387904 < sz n ∧ b = false) ∨ (1 ≤ d ∧ d ≤ 2147483648 ∧ sz n ≤ 4611686018427387904 ∧ b = (g == 1))) (w : World) :
    Calls Tryz.prog 21 #[.agg #[.int .i64 n, .int .i64 d]] w fun e w' => e = .returned (.bool b) ∧ ∃ m, w' = (w.alloc (.cells #[.int .i64 n, .int .i64 d] 23)).drewN m := by
  have HM := hideR HM
  have HS := hideR (size_i n hN)
  have hs := sz_range n hN
  unfold I64 at hN hD
  generalize sz n = s at *
  rcases hres with ⟨h1, rfl⟩ | ⟨h1, rfl⟩ | ⟨h1, h2, h3, rfl⟩ | ⟨h1, h2, h3, rfl⟩
  all_goals (
    go_enter Tryz.func21, Tryz.ntmps21
    go_wp2_with fail)
  · go_ret
    exact ⟨rfl, 0, rfl⟩
  · go_ret
    exact ⟨rfl, 0, rfl⟩
  · go_at_call 53
    refine (HS.out _).mono ?_
    rintro e w1 ⟨rfl, hw⟩
    obtain rfl := hw.symm
    go_wp2_with fail
    go_ret
    exact ⟨rfl, 0, rfl⟩
  · go_at_call 53
    refine (HS.out _).mono ?_
    rintro e w1 ⟨rfl, hw⟩
    obtain rfl := hw.symm
    go_wp2_with fail
    have HM := hideR (HM.out h1)
    go_quiet (first | (go_at_call 53; exact Calls.quiet_of_same (HS.out _)) | (go_at_call 54; exact Calls.quiet_of (HM.out _)))
    go_wp2_with fail
    go_ret
    exact ⟨rfl, _, rfl⟩

theorem right_sz (r : Rt) (g : Int) (hD : 1 ≤ r.D) (hg : g = ((sz r.N).toNat.gcd r.D.toNat : Nat)) (h2 : r.D ≤ 2147483648) (h3 : sz r.N ≤ 4611686018427387904) : rightB r = (g == 1) := by
  unfold sz at hg h3
  rw [Bool.eq_iff_iff, right_iff, beq_iff_eq, hg]
  have e1 : ((r.N.natAbs : Int)).toNat = r.N.natAbs := by omega
  have e2 : r.D.toNat = r.D.natAbs := by omega
  rw [e1, e2]
  omega

theorem right_quiet (r : Rt) (h : RtIn r) (w : World) :
    Calls Tryz.prog 21 #[rtv r] w fun e w' => e = .returned (.bool (rightB r)) ∧ ∃ m, w' = (w.alloc (.cells #[.int .i64 r.N, .int .i64 r.D] 23)).drewN m := by
  have hs := sz_range r.N h.1
  refine right_walk r.N r.D ((sz r.N).toNat.gcd r.D.toNat : Nat) (rightB r) h.1 h.2 (fun hd w => divisor_iq _ _ ⟨hs.1, by omega⟩ ⟨by omega, by have := h.2.2; omega⟩ w) ?_ w
  by_cases h1 : r.D < 1
  · exact .inl ⟨h1, by unfold rightB; rw [decide_eq_false]; omega⟩
  · by_cases h2 : 2147483648 < r.D
    · exact .inr (.inl ⟨h2, by unfold rightB; rw [decide_eq_false]; omega⟩)
    · by_cases h3 : 4611686018427387904 < sz r.N
      · exact .inr (.inr (.inl ⟨by omega, by omega, h3, by unfold rightB; unfold sz at h3; rw [decide_eq_false]; omega⟩))
      · exact .inr (.inr (.inr ⟨by omega, by omega, by omega, right_sz r _ (by omega) rfl (by omega) (by omega)⟩))
theorem right_any (r : Rt) (h : RtIn r) (w : World) :
    Calls Tryz.prog 21 #[rtv r] w fun e w' => e = .returned (.bool (rightB r)) ∧ Below w.heap.size w w' :=
  (right_quiet r h w).mono fun e w' ⟨he, m, hm⟩ => ⟨he, by rw [hm]; exact below_drewN (bel1 _ _) _⟩

/-- Two cells that may be written. -/
theorem two_keep {V V2 : World} {R : Nat} {x y : Value} (b : Below V.heap.size V V2) (z : R < V.heap.size) (c0 : V.cell? ⟨R, 0, none⟩ = some x) (c1 : V.cell? ⟨R, 1, none⟩ = some y) (f0 : V.frozen? ⟨R, 0, none⟩ = false) (f1 : V.frozen? ⟨R, 1, none⟩ = false) :
    V2.cell? ⟨R, 0, none⟩ = some x ∧ V2.cell? ⟨R, 1, none⟩ = some y ∧ V2.frozen? ⟨R, 0, none⟩ = false ∧ V2.frozen? ⟨R, 1, none⟩ = false :=
  ⟨(b.cell (p := ⟨R, 0, none⟩) z).trans c0, (b.cell (p := ⟨R, 1, none⟩) z).trans c1, (b.frozen (p := ⟨R, 0, none⟩) z).trans f0, (b.frozen (p := ⟨R, 1, none⟩) z).trans f1⟩

/-! New -/
def newA (n d : Int) : Rt × Int := if d = 0 then bad 11 else low (Rat.divInt n d)
theorem newA_neg (n d : Int) (h : d < 0) : newA n d = low (Rat.divInt (-n) (sz d)) := by
  unfold newA sz
  rw [if_neg (by omega), show (d.natAbs : Int) = -d by omega, ← Rat.neg_divInt_neg]
theorem newA_pos (n d : Int) (h : 0 < d) : newA n d = low (Rat.divInt n (sz d)) := by
  unfold newA sz
  rw [if_neg (by omega), show (d.natAbs : Int) = d by omega]
theorem In128.i64 {k : Int} (h : I64 k) : In128 k := by unfold I64 at h; unfold In128; omega
theorem In128.neg64 {k : Int} (h : I64 k) : In128 (-k) := by unfold I64 at h; unfold In128; omega

set_option maxRecDepth 100000 in
set_option maxHeartbeats 1000000 in
theorem new_any (n d : Int) (hn : I64 n) (hd : I64 d) (w : World) :
    Calls Tryz.prog 65 #[.int .i64 n, .int .i64 d] w fun e w' => e = .returned (.tuple #[rtv (newA n d).1, .int .i64 (newA n d).2]) ∧ Below w.heap.size w w' := by
  have HS := hideR (size_i d hd)
  have HW := hideR (widen_any n hn.1 hn.2)
  have HG := hideR (negative_any n)
  have hs := sz_range d hd
  rcases (show d = 0 ∨ d < 0 ∨ 0 < d by omega) with h0 | h0 | h0
  · subst h0
    rw [show newA n 0 = (⟨0, 0⟩, 11) from rfl]
    simp only [rtv]
    go_enter Tryz.func65, Tryz.ntmps65
    go_wp2_with fail
    refine bodyPost_ret (v := .tuple #[.agg #[.int .i64 0, .int .i64 0], .int .i64 11]) (by simp [results, Tryz.results65, go_sem]) rfl ⟨rfl, bel1 _ _⟩
  · rw [newA_neg n d h0]
    have HL := hideR (lowest_any (-n) (sz d) (In128.neg64 hn) (by unfold sz; omega) (by omega))
    generalize low (Rat.divInt (-n) (sz d)) = r at *
    generalize sz d = s at *
    have h1 : ¬ d = 0 := by omega
    simp only [rtv, wv] at *
    generalize hiZ n = hi at *
    generalize loZ n = lo at *
    generalize hiZ (-n) = hj at *
    generalize loZ (-n) = lj at *
    go_enter Tryz.func65, Tryz.ntmps65
    go_wp2_with fail
    go_at_call 93
    refine (HW.out _).mono ?_
    rintro e w1 ⟨rfl, b1⟩
    have z1 : w.heap.size < w1.heap.size := by have := b1.size; simp at this; omega
    go_wp2_with fail
    go_at_call 67
    refine (HG.out _).mono ?_
    rintro e w2 ⟨rfl, b2⟩
    obtain ⟨hc, hf⟩ := bcell b2
    obtain ⟨hc1, hf1⟩ := bcell b1
    go_wp2_with fail
    have BV : Below w.heap.size w ((w2.setCell ⟨w1.heap.size, 0, none⟩ (.int .u64 hj)).setCell ⟨w1.heap.size, 1, none⟩ (.int .u64 lj)) := ((bup (bup (bup (bel1 _ _) b1) (bel1 _ _)) b2).setCell (Nat.le_of_lt z1) _).setCell (Nat.le_of_lt z1) _
    have z2 : w1.heap.size < w2.heap.size := by have := b2.size; simp at this; omega
    have c0 : ((w2.setCell ⟨w1.heap.size, 0, none⟩ (.int .u64 hj)).setCell ⟨w1.heap.size, 1, none⟩ (.int .u64 lj)).cell? ⟨w1.heap.size, 0, none⟩ = some (.int .u64 hj) := by go_simp
    have c1 : ((w2.setCell ⟨w1.heap.size, 0, none⟩ (.int .u64 hj)).setCell ⟨w1.heap.size, 1, none⟩ (.int .u64 lj)).cell? ⟨w1.heap.size, 1, none⟩ = some (.int .u64 lj) := by go_simp
    have r0 : ((w2.setCell ⟨w1.heap.size, 0, none⟩ (.int .u64 hj)).setCell ⟨w1.heap.size, 1, none⟩ (.int .u64 lj)).cell? ⟨w.heap.size, 0, none⟩ = some (.int .i64 0) := by go_simp
    have r1 : ((w2.setCell ⟨w1.heap.size, 0, none⟩ (.int .u64 hj)).setCell ⟨w1.heap.size, 1, none⟩ (.int .u64 lj)).cell? ⟨w.heap.size, 1, none⟩ = some (.int .i64 0) := by go_simp
    have f0 : ((w2.setCell ⟨w1.heap.size, 0, none⟩ (.int .u64 hj)).setCell ⟨w1.heap.size, 1, none⟩ (.int .u64 lj)).frozen? ⟨w.heap.size, 0, none⟩ = false := by go_simp
    have f1 : ((w2.setCell ⟨w1.heap.size, 0, none⟩ (.int .u64 hj)).setCell ⟨w1.heap.size, 1, none⟩ (.int .u64 lj)).frozen? ⟨w.heap.size, 1, none⟩ = false := by go_simp
    have z3 : w.heap.size < ((w2.setCell ⟨w1.heap.size, 0, none⟩ (.int .u64 hj)).setCell ⟨w1.heap.size, 1, none⟩ (.int .u64 lj)).heap.size := by simp; omega
    generalize (w2.setCell ⟨w1.heap.size, 0, none⟩ (.int .u64 hj)).setCell ⟨w1.heap.size, 1, none⟩ (.int .u64 lj) = V at *
    go_region_with (first | (go_at_call 53; refine (HS.out _).mono ?_; rintro e w3 ⟨rfl, hw⟩; obtain rfl := hw.symm) | (go_at_call 55; refine (HL.out _).mono ?_; rintro e w4 ⟨rfl, b4⟩; obtain ⟨k0, k1, k2, k3⟩ := two_keep b4 z3 r0 r1 f0 f1))
    all_goals go_wp2_with fail
    all_goals exact bodyPost_ret (v := .tuple #[.agg #[.int .i64 r.1.N, .int .i64 r.1.D], .int .i64 r.2]) (by simp [results, Tryz.results65, go_sem, k0, k1]) rfl ⟨rfl, ((bup BV.drew b4).setCell (Nat.le_refl _) _).setCell (Nat.le_refl _) _⟩
  · rw [newA_pos n d h0]
    have HL := hideR (lowest_any n (sz d) (In128.i64 hn) (by unfold sz; omega) (by omega))
    generalize low (Rat.divInt n (sz d)) = r at *
    generalize sz d = s at *
    have h1 : ¬ d = 0 := by omega
    have h2 : ¬ d < 0 := by omega
    simp only [rtv, wv] at *
    generalize hiZ n = hi at *
    generalize loZ n = lo at *
    go_enter Tryz.func65, Tryz.ntmps65
    go_wp2_with fail
    go_at_call 93
    refine (HW.out _).mono ?_
    rintro e w1 ⟨rfl, b1⟩
    have z1 : w.heap.size < w1.heap.size := by have := b1.size; simp at this; omega
    obtain ⟨hc1, hf1⟩ := bcell b1
    go_wp2_with fail
    have BV : Below w.heap.size w (w1.alloc (.cells #[.int .u64 hi, .int .u64 lo] 92)) := bup (bup (bel1 _ _) b1) (bel1 _ _)
    have c0 : (w1.alloc (.cells #[.int .u64 hi, .int .u64 lo] 92)).cell? ⟨w1.heap.size, 0, none⟩ = some (.int .u64 hi) := by go_simp
    have c1 : (w1.alloc (.cells #[.int .u64 hi, .int .u64 lo] 92)).cell? ⟨w1.heap.size, 1, none⟩ = some (.int .u64 lo) := by go_simp
    have r0 : (w1.alloc (.cells #[.int .u64 hi, .int .u64 lo] 92)).cell? ⟨w.heap.size, 0, none⟩ = some (.int .i64 0) := by go_simp
    have r1 : (w1.alloc (.cells #[.int .u64 hi, .int .u64 lo] 92)).cell? ⟨w.heap.size, 1, none⟩ = some (.int .i64 0) := by go_simp
    have f0 : (w1.alloc (.cells #[.int .u64 hi, .int .u64 lo] 92)).frozen? ⟨w.heap.size, 0, none⟩ = false := by go_simp
    have f1 : (w1.alloc (.cells #[.int .u64 hi, .int .u64 lo] 92)).frozen? ⟨w.heap.size, 1, none⟩ = false := by go_simp
    have z3 : w.heap.size < (w1.alloc (.cells #[.int .u64 hi, .int .u64 lo] 92)).heap.size := by simp; omega
    generalize w1.alloc (.cells #[.int .u64 hi, .int .u64 lo] 92) = V at *
    go_region_with (first | (go_at_call 53; refine (HS.out _).mono ?_; rintro e w3 ⟨rfl, hw⟩; obtain rfl := hw.symm) | (go_at_call 55; refine (HL.out _).mono ?_; rintro e w4 ⟨rfl, b4⟩; obtain ⟨k0, k1, k2, k3⟩ := two_keep b4 z3 r0 r1 f0 f1))
    all_goals go_wp2_with fail
    all_goals exact bodyPost_ret (v := .tuple #[.agg #[.int .i64 r.1.N, .int .i64 r.1.D], .int .i64 r.2]) (by simp [results, Tryz.results65, go_sem, k0, k1]) rfl ⟨rfl, ((bup BV.drew b4).setCell (Nat.le_refl _) _).setCell (Nat.le_refl _) _⟩
end Go.Proofs.YtipnefaggpigfaaGreat
