/- Contracts of package ratio: New, Right, Add, Sub, Mul, Neg, Cmp. -/
import Derived.Test.YtipnefaggpigfaaRatW6
import Derived.Deep.QuietTactic
import Derived.BigQuiet
import Derived.WalkSmall
namespace Go.Proofs.Ytipnefaggpigfaa
open Go.RowKit Go.Shelf
attribute [local go_sem] Oper.semAt_some

/-- A number of 64 bits. -/
def I64 (k : Int) : Prop := -9223372036854775808 ≤ k ∧ k ≤ 9223372036854775807
/-- A ratio of two numbers of 64 bits. -/
def RtIn (r : Rt) : Prop := I64 r.N ∧ I64 r.D

theorem divisor_quiet (a b : Nat) (ha : a < 18446744073709551616) (hb : b < 18446744073709551616) (w : World) :
    Calls Try.prog 71 #[.int .u64 a, .int .u64 b] w fun e w' => e = .returned (.int .u64 (a.gcd b : Nat)) ∧ ∃ m, w' = w.drewN m := by
  go_enter Try.func71, Try.ntmps71
  go_wp2
  go_loopw [0, 1] (fun va vb wr => ∃ x y : Nat, va = .int .u64 x ∧ vb = .int .u64 y ∧ x < 18446744073709551616 ∧ y < 18446744073709551616 ∧ x.gcd y = a.gcd b ∧ ∃ m, wr = w.drewN m) (fun _ vb _ => (intOf vb).natAbs)
  case atStart => exact ⟨a, b, rfl, rfl, ha, hb, rfl, 0, rfl⟩
  case round =>
    obtain ⟨x, y, rfl, rfl, hx, hy, hg, m, hm⟩ := hrel
    have HG : Hid (x.gcd y = a.gcd b) := hg
    clear hg
    by_cases h0 : y = 0
    · subst h0
      go_wp2
      go_ret
      refine ⟨ret_int ?_, m, rfl⟩
      have := HG.out
      simp at this
      rw [this]
    · have hn : ((y : Int) != 0) = true := by simp; omega
      go_wp2
      go_region
      all_goals (try go_wp2)
      all_goals (
        go_roundw
        case rel =>
          refine ⟨y, x % y, rfl, by go_num, hy, by have := Nat.mod_lt x (show y > 0 by omega); omega, ?_, m + 1, rfl⟩
          rw [gcd_round x y]; exact HG.out
        case measure =>
          have := Nat.mod_lt x (show y > 0 by omega)
          simp [intOf]
          omega)
theorem divisor_iq (x y : Int) (hx : 0 ≤ x ∧ x < 18446744073709551616) (hy : 0 ≤ y ∧ y < 18446744073709551616) (w : World) :
    Calls Try.prog 71 #[.int .u64 x, .int .u64 y] w fun e w' => e = .returned (.int .u64 (x.toNat.gcd y.toNat : Nat)) ∧ ∃ m, w' = w.drewN m := by
  obtain ⟨a, rfl⟩ := Int.eq_ofNat_of_zero_le hx.1
  obtain ⟨b, rfl⟩ := Int.eq_ofNat_of_zero_le hy.1
  exact divisor_quiet a b (by omega) (by omega) w

set_option maxRecDepth 100000 in
set_option maxHeartbeats 1000000 in
theorem right_walk (n d g : Int) (b : Bool) (hN : I64 n) (hD : I64 d)
    (HM : 1 ≤ d → ∀ w, Calls Try.prog 71 #[.int .u64 (sz n), .int .u64 d] w fun e w' => e = .returned (.int .u64 g) ∧ ∃ m, w' = w.drewN m)
    (hres : (d < 1 ∧ b = false) ∨ (2147483648 < d ∧ b = false) ∨ (1 ≤ d ∧ d ≤ 2147483648 ∧ 4611686018427387904 < sz n ∧ b = false) ∨ (1 ≤ d ∧ d ≤ 2147483648 ∧ sz n ≤ 4611686018427387904 ∧ b = (g == 1))) (w : World) :
    Calls Try.prog 43 #[.agg #[.int .i64 n, .int .i64 d]] w fun e w' => e = .returned (.bool b) ∧ ∃ m, w' = (w.alloc (.cells #[.int .i64 n, .int .i64 d] 42)).drewN m := by
  have HM := hideR HM
  have HS := hideR (size_i n hN)
  have hs := sz_range n hN
  unfold I64 at hN hD
  generalize sz n = s at *
  rcases hres with ⟨h1, rfl⟩ | ⟨h1, rfl⟩ | ⟨h1, h2, h3, rfl⟩ | ⟨h1, h2, h3, rfl⟩
  all_goals (
    go_enter Try.func43, Try.ntmps43
    go_wp2_with fail)
  · go_ret
    exact ⟨rfl, 0, rfl⟩
  · go_ret
    exact ⟨rfl, 0, rfl⟩
  · go_at_call 70
    refine (HS.out _).mono ?_
    rintro e w1 ⟨rfl, hw⟩
    obtain rfl := hw.symm
    go_wp2_with fail
    go_ret
    exact ⟨rfl, 0, rfl⟩
  · go_at_call 70
    refine (HS.out _).mono ?_
    rintro e w1 ⟨rfl, hw⟩
    obtain rfl := hw.symm
    go_wp2_with fail
    have HM := hideR (HM.out h1)
    go_quiet (first | (go_at_call 70; exact Calls.quiet_of_same (HS.out _)) | (go_at_call 71; exact Calls.quiet_of (HM.out _)))
    go_wp2_with fail
    go_ret
    exact ⟨rfl, _, rfl⟩

theorem right_sz (r : Rt) (g : Int) (hD : 1 ≤ r.D) (hg : g = ((sz r.N).toNat.gcd r.D.toNat : Nat)) (h2 : r.D ≤ 2147483648) (h3 : sz r.N ≤ 4611686018427387904) : rightB r = (g == 1) := by
  unfold sz at hg h3
  rw [Bool.eq_iff_iff, right_iff, beq_iff_eq, hg]
  have e1 : ((r.N.natAbs : Int)).toNat = r.N.natAbs := by omega
  have e2 : r.D.toNat = r.D.natAbs := by omega
  rw [e1, e2]
  omega

theorem right_quiet (r : Rt) (h : RtIn r) (w : World) :
    Calls Try.prog 43 #[rtv r] w fun e w' => e = .returned (.bool (rightB r)) ∧ ∃ m, w' = (w.alloc (.cells #[.int .i64 r.N, .int .i64 r.D] 42)).drewN m := by
  have hs := sz_range r.N h.1
  refine right_walk r.N r.D ((sz r.N).toNat.gcd r.D.toNat : Nat) (rightB r) h.1 h.2 (fun hd w => divisor_iq _ _ ⟨hs.1, by omega⟩ ⟨by omega, by have := h.2.2; omega⟩ w) ?_ w
  by_cases h1 : r.D < 1
  · exact .inl ⟨h1, by unfold rightB; rw [decide_eq_false]; omega⟩
  · by_cases h2 : 2147483648 < r.D
    · exact .inr (.inl ⟨h2, by unfold rightB; rw [decide_eq_false]; omega⟩)
    · by_cases h3 : 4611686018427387904 < sz r.N
      · exact .inr (.inr (.inl ⟨by omega, by omega, h3, by unfold rightB; unfold sz at h3; rw [decide_eq_false]; omega⟩))
      · exact .inr (.inr (.inr ⟨by omega, by omega, by omega, right_sz r _ (by omega) rfl (by omega) (by omega)⟩))
theorem right_any (r : Rt) (h : RtIn r) (w : World) :
    Calls Try.prog 43 #[rtv r] w fun e w' => e = .returned (.bool (rightB r)) ∧ Below w.heap.size w w' :=
  (right_quiet r h w).mono fun e w' ⟨he, m, hm⟩ => ⟨he, by rw [hm]; exact below_drewN (bel1 _ _) _⟩

/-- Two cells that may be written. -/
theorem two_keep {V V2 : World} {R : Nat} {x y : Value} (b : Below V.heap.size V V2) (z : R < V.heap.size) (c0 : V.cell? ⟨R, 0, none⟩ = some x) (c1 : V.cell? ⟨R, 1, none⟩ = some y) (f0 : V.frozen? ⟨R, 0, none⟩ = false) (f1 : V.frozen? ⟨R, 1, none⟩ = false) :
    V2.cell? ⟨R, 0, none⟩ = some x ∧ V2.cell? ⟨R, 1, none⟩ = some y ∧ V2.frozen? ⟨R, 0, none⟩ = false ∧ V2.frozen? ⟨R, 1, none⟩ = false :=
  ⟨(b.cell (p := ⟨R, 0, none⟩) z).trans c0, (b.cell (p := ⟨R, 1, none⟩) z).trans c1, (b.frozen (p := ⟨R, 0, none⟩) z).trans f0, (b.frozen (p := ⟨R, 1, none⟩) z).trans f1⟩

/-! New -/
def newA (n d : Int) : Rt × Int := if d = 0 then bad 11 else low (Rat.divInt n d)
theorem newA_neg (n d : Int) (h : d < 0) : newA n d = low (Rat.divInt (-n) (sz d)) := by
  unfold newA sz
  rw [if_neg (by omega), show (d.natAbs : Int) = -d by omega, ← Rat.neg_divInt_neg]
theorem newA_pos (n d : Int) (h : 0 < d) : newA n d = low (Rat.divInt n (sz d)) := by
  unfold newA sz
  rw [if_neg (by omega), show (d.natAbs : Int) = d by omega]
theorem In128.i64 {k : Int} (h : I64 k) : In128 k := by unfold I64 at h; unfold In128; omega
theorem In128.neg64 {k : Int} (h : I64 k) : In128 (-k) := by unfold I64 at h; unfold In128; omega

end Go.Proofs.Ytipnefaggpigfaa
