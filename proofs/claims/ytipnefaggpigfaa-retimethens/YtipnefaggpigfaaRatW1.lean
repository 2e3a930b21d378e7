/- Contracts of package ratio's numbers of 128 bits. -/
import Derived.Test.YtipnefaggpigfaaRatM
import Derived.Test.YtipnefaggpigfaaRatL1
import Derived.Laws.Externs
import Derived.Laws.Bits64b
import Derived.WalkKit
import Derived.BigRegion
import Derived.Deep.RegionWith
namespace Go.Proofs.Ytipnefaggpigfaa
open Go.RowKit
attribute [local go_sem] Oper.semAt_some

/-- A number of 128 bits, as package ratio holds it. -/
def wv (z : Int) : Value := .agg #[.int .u64 (hiZ z), .int .u64 (loZ z)]
/-- A ratio. -/
def rtv (r : Rt) : Value := .agg #[.int .i64 r.N, .int .i64 r.D]

theorem bcell {W w1 : World} (hb : Below W.heap.size W w1) : (∀ b o, b < W.heap.size → w1.cell? ⟨b, o, none⟩ = W.cell? ⟨b, o, none⟩) ∧ (∀ b o, b < W.heap.size → w1.frozen? ⟨b, o, none⟩ = W.frozen? ⟨b, o, none⟩) :=
  ⟨fun b o h => hb.cell (p := ⟨b, o, none⟩) h, fun b o h => hb.frozen (p := ⟨b, o, none⟩) h⟩
theorem bel1 (w : World) (o1 : Obj) : Below w.heap.size w (w.alloc o1) := (Below.refl _ _).alloc (Nat.le_refl _) o1
theorem bel2 (w : World) (o1 o2 : Obj) : Below w.heap.size w ((w.alloc o1).alloc o2) := (bel1 w o1).alloc (by simp) o2
theorem bel3 (w : World) (o1 o2 o3 : Obj) : Below w.heap.size w (((w.alloc o1).alloc o2).alloc o3) := (bel2 w o1 o2).alloc (by simp; omega) o3
/-- Behind a call from a world that has grown. -/
theorem bup {w W w1 : World} (h : Below w.heap.size w W) (k : Below W.heap.size W w1) : Below w.heap.size w w1 := h.trans (k.mono h.size)
theorem ret_int {k : IntKind} {a b : Int} (h : a = b) : Ending.returned (.int k a) = .returned (.int k b) := by rw [h]
theorem flip_bits (x : Int) (h : 0 ≤ x ∧ x < 18446744073709551616) : bits .xor .u64 IntKind.u64.max x = 18446744073709551615 - x := by
  obtain ⟨n, rfl⟩ := Int.eq_ofNat_of_zero_le h.1
  have h1 : (BitVec.ofInt 64 (n : Int)).toNat = n := by
    rw [BitVec.ofInt_natCast, BitVec.toNat_ofNat]; exact Nat.mod_eq_of_lt (by omega)
  show IntKind.u64.wrap ((BitVec.ofInt 64 IntKind.u64.max ^^^ BitVec.ofInt 64 (n : Int)).toNat : Int) = _
  rw [show BitVec.ofInt 64 IntKind.u64.max = BitVec.allOnes 64 by decide, BitVec.allOnes_xor, BitVec.toNat_not, h1, IntKind.wrap_u64]
  omega

theorem add_run (a b : Int) (w : World) : (callFunc 95 #[.int .u64 (loZ a), .int .u64 (loZ b), .int .u64 0]).run Try.prog w = .ok (.value (.tuple #[.int .u64 (loZ (a + b)), .int .u64 ((loZ a + loZ b) / 18446744073709551616)])) w := by
  have ha := loZ_range a
  have hb := loZ_range b
  rw [run_callFunc_extern Try.func95 (by kernel_rfl) (by kernel_rfl) (by kernel_rfl) (e := add64Entry) (by kernel_rfl), run_add64 _ _ _ ha.1 hb.1 (by omega) (by omega)]
  simp only [Result.andThen, Int.add_zero, plus_lo]

theorem size_any (k : Int) (h0 : -9223372036854775808 ≤ k) (h1 : k ≤ 9223372036854775807) (w : World) :
    Calls Try.prog 70 #[.int .i64 k] w fun e w' => e = .returned (.int .u64 k.natAbs) ∧ w' = w := by
  go_enter Try.func70, Try.ntmps70
  go_wp2
  · go_ret
    exact ⟨ret_int (by rw [IntKind.wrap_u64, IntKind.wrap_u64]; omega), rfl⟩
  · go_ret
    exact ⟨ret_int (by omega), rfl⟩

theorem widen_any (k : Int) (h0 : -9223372036854775808 ≤ k) (h1 : k ≤ 9223372036854775807) (w : World) :
    Calls Try.prog 94 #[.int .i64 k] w fun e w' => e = .returned (wv k) ∧ Below w.heap.size w w' := by
  go_enter Try.func94, Try.ntmps94
  go_wp2
  refine bodyPost_ret (v := wv k) (by
    simp [results, Try.results94, go_sem, wv]
    rw [IntKind.wrap_u64, IntKind.wrap_u64]
    unfold hiZ loZ
    omega) rfl ⟨rfl, bel1 _ _⟩

theorem plus_any (a b : Int) (w : World) :
    Calls Try.prog 77 #[wv a, wv b] w fun e w' => e = .returned (wv (a + b)) ∧ Below w.heap.size w w' := by
  have hadd := add_run a b
  have h1 := loZ_range a
  have h2 := loZ_range b
  have h3 := hiZ_range a
  have h4 := hiZ_range b
  have hs : IntKind.u64.wrap (IntKind.u64.wrap (hiZ a + hiZ b) + (loZ a + loZ b) / 18446744073709551616) = hiZ (a + b) := by
    rw [IntKind.wrap_u64, IntKind.wrap_u64, ← plus_hi]; omega
  have HS : Hid (IntKind.u64.wrap (IntKind.u64.wrap (hiZ a + hiZ b) + (loZ a + loZ b) / 18446744073709551616) = hiZ (a + b)) := hs
  clear hs
  unfold wv
  go_enter Try.func77, Try.ntmps77
  go_wp2
  rw [HS.out]
  exact bodyPost_ret (v := .agg #[.int .u64 (hiZ (a + b)), .int .u64 (loZ (a + b))]) (by simp [results, Try.results77, go_sem]) rfl ⟨rfl, bel3 _ _ _ _⟩

theorem flip_any (a : Int) (w : World) :
    Calls Try.prog 93 #[wv a] w fun e w' => e = .returned (wv (-1 - a)) ∧ Below w.heap.size w w' := by
  have f1 := flip_bits _ (hiZ_range a)
  have f2 := flip_bits _ (loZ_range a)
  rw [flip_hi] at f1
  rw [flip_lo] at f2
  unfold wv
  go_enter Try.func93, Try.ntmps93
  go_wp2
  exact bodyPost_ret (v := .agg #[.int .u64 (hiZ (-1 - a)), .int .u64 (loZ (-1 - a))]) (by simp [results, Try.results93, go_sem]) rfl ⟨rfl, bel2 _ _ _⟩

theorem negative_any (a : Int) (w : World) :
    Calls Try.prog 76 #[wv a] w fun e w' => e = .returned (wv (-a)) ∧ Below w.heap.size w w' := by
  unfold wv
  go_enter Try.func76, Try.ntmps76
  go_wp2_with fail
  go_at_call 93
  refine (flip_any a _).mono ?_
  rintro e w1 ⟨rfl, b1⟩
  go_wp2_with fail
  go_at_call 94
  refine (widen_any 1 (by omega) (by omega) _).mono ?_
  rintro e w2 ⟨rfl, b2⟩
  go_wp2_with fail
  go_at_call 77
  refine (plus_any (-1 - a) 1 _).mono ?_
  rintro e w3 ⟨rfl, b3⟩
  rw [show -1 - a + 1 = -a by omega]
  have B := bup (bup b1 b2) b3
  obtain ⟨hc, hf⟩ := bcell B
  clear b1 b2 b3
  simp only [wv]
  go_wp2_with fail
  exact bodyPost_ret (v := .agg #[.int .u64 (hiZ (-a)), .int .u64 (loZ (-a))]) (by simp [results, Try.results76, go_sem, hc]) rfl ⟨rfl, ((bup (bel2 _ _ _) B).setCell (by simp) _).setCell (by simp) _⟩

theorem gcd_round (a b : Nat) : b.gcd (a % b) = a.gcd b := by
  rw [Nat.gcd_comm a b, Nat.gcd_rec b a, Nat.gcd_comm]

theorem divisor_any (a b : Nat) (ha : a < 18446744073709551616) (hb : b < 18446744073709551616) (w : World) :
    Calls Try.prog 71 #[.int .u64 a, .int .u64 b] w fun e w' => e = .returned (.int .u64 (a.gcd b : Nat)) ∧ Below w.heap.size w w' := by
  go_enter Try.func71, Try.ntmps71
  go_wp2
  go_loopw [0, 1] (fun va vb wr => ∃ x y : Nat, va = .int .u64 x ∧ vb = .int .u64 y ∧ x < 18446744073709551616 ∧ y < 18446744073709551616 ∧ x.gcd y = a.gcd b ∧ Below w.heap.size w wr) (fun _ vb _ => (intOf vb).natAbs)
  case atStart => exact ⟨a, b, rfl, rfl, ha, hb, rfl, Below.refl _ _⟩
  case round =>
    obtain ⟨x, y, rfl, rfl, hx, hy, hg, hB⟩ := hrel
    have HG : Hid (x.gcd y = a.gcd b) := hg
    clear hg
    by_cases h0 : y = 0
    · subst h0
      go_wp2
      go_ret
      refine ⟨ret_int ?_, hB⟩
      have := HG.out
      simp at this
      rw [this]
    · have hn : ((y : Int) != 0) = true := by simp; omega
      go_wp2
      go_region
      all_goals (try go_wp2)
      all_goals (
        go_roundw
        case rel =>
          refine ⟨y, x % y, rfl, by go_num, hy, by have := Nat.mod_lt x (show y > 0 by omega); omega, ?_, hB.drew⟩
          rw [gcd_round x y]; exact HG.out
        case measure =>
          have := Nat.mod_lt x (show y > 0 by omega)
          simp [intOf]
          omega)
end Go.Proofs.Ytipnefaggpigfaa
